/- stencilref.Check: a walk. -/
import Derived.Test.YtgjgjgihceijnaaCkParse3
namespace Go.Proofs.Ytgjgjgihceijnaa
open Go.RowKit Go.Stn

/-- What Check answers. -/
def chk (s : ByteArray) : Int := if 120000 < s.size then 1 else if imgOk s = true then 0 else 5

set_option maxHeartbeats 400000 in
theorem check_any (s : ByteArray) (w : World) (hs : s.size ≤ maxLen) :
    Calls Try.prog 40 #[.string s] w fun e w' => e = .returned (.int .i64 (chk s)) ∧ Below w.heap.size w w' := by
  unfold maxLen at hs
  by_cases hl : 120000 < s.size
  · have hc : chk s = 1 := by unfold chk; rw [if_pos hl]
    rw [hc]; clear hc
    go_enter Try.func40, Try.ntmps40
    go_wp2
    go_ret
    exact ⟨rfl, Below.refl _ _⟩
  · cases hi : imgOk s with
    | true =>
      have hc : chk s = 0 := by unfold chk; rw [if_neg hl, if_pos hi]
      rw [hc]; clear hc
      go_enter Try.func40, Try.ntmps40
      go_wp2_with (go_at_call 47; refine (parse_any s _ (by omega)).mono ?_; rintro e w1 ⟨v, rfl, hb, _⟩)
      go_ret
      exact ⟨rfl, hb⟩
    | false =>
      have hc : chk s = 5 := by unfold chk; rw [if_neg hl, if_neg (by rw [hi]; decide)]
      rw [hc]; clear hc
      go_enter Try.func40, Try.ntmps40
      go_wp2_with (go_at_call 47; refine (parse_any s _ (by omega)).mono ?_; rintro e w1 ⟨v, rfl, hb, _⟩)
      go_ret
      exact ⟨rfl, hb⟩
end Go.Proofs.Ytgjgjgihceijnaa
