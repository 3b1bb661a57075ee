/- stencil.Check: a walk. -/
import Derived.Test.YtgjgjgihceijnaaLyRead
namespace Go.Proofs.Ytgjgjgihceijnaa
open Go.RowKit Go.Stn

theorem chk_yes {s : ByteArray} (h : s.size ≤ 120000) (hi : imgOk s = true) : chk s = 0 := by unfold chk; rw [if_neg (by omega), if_pos hi]

theorem pcheck_any (s : ByteArray) (w : World) (_hs : s.size ≤ maxLen) :
    Calls Try.prog 13 #[.string s] w fun e w' => e = .returned (.int .i64 (chk s)) ∧ Below w.heap.size w w' := by
  go_enter Try.func13, Try.ntmps13
  go_wp2_with fail
  refine (lread_any s _).mono ?_
  rintro e w1 ⟨hb, hout⟩
  have hx : ∃ A : Array Value, A.size = 258 ∧ A.all (·.oneCell') = true ∧ e = .returned (.tuple #[.agg A, .int .i64 (chk s)]) := by
    rcases hout with ⟨_, rfl⟩ | ⟨h1, h2, bb, vc, ys, rfl, _, ho, _⟩
    · exact ⟨_, Try.imgZero, Try.imgZeroOne, rfl⟩
    · have hone : vc.oneCell' = true := by obtain ⟨va, vcap, rfl⟩ := rowSlice ho; rfl
      refine ⟨(imgC (.slice (some ⟨bb, 0, none⟩) (lRules s) (lRules s)) (lClassOf s) vc).toArray, ?_, all_oneCell_toArray (imgC_one rfl hone), by rw [chk_yes h1 h2]⟩
      rw [List.size_toArray]
      exact imgC_len _ _ _ (by unfold lClassOf; rw [numsP_len]; rfl)
  obtain ⟨A, hsz, hall, rfl⟩ := hx
  have HSZ := hidZ hsz
  have HALL := hidZ hall
  have HN2 := hidZ (there_newA w1 Try.zeroCells75 75 w1.heap.size 258 Try.imgZero rfl)
  clear hsz hall hout
  go_wp2_with (first | (refine wpList_store_mid rfl 75 (.tmp 3) (.tmp 8) rfl w1.heap.size 0 A rfl rfl ?_ ?_ HALL.out ?_; (rw [HSZ.out]; exact HN2.out); (rw [HSZ.out]; exact Try.imgSize)))
  go_ret
  exact ⟨rfl, below_setCells _ 0 _ w1.heap.size (hb.alloc hb.size _) hb.size⟩
end Go.Proofs.Ytgjgjgihceijnaa
