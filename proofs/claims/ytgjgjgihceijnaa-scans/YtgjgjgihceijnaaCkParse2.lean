/- stencilref.Parse: the walks behind the head. -/
import Derived.Test.YtgjgjgihceijnaaCkParse
import Derived.Test.YtgjgjgihceijnaaKit1
namespace Go.Proofs.Ytgjgjgihceijnaa
open Go.RowKit Go.Stn

set_option maxRecDepth 100000 in
set_option maxHeartbeats 1000000 in
theorem parse_noC (s : ByteArray) (w : World) (hs : s.size ≤ 120000) (hA : headA s = true) (hB : headB s = true) (hC : headC s = false) :
    Calls Try.prog 47 #[.string s] w fun e w' =>
      e = .returned (.tuple #[.pointer none, .bool false]) ∧ Below w.heap.size w w' := by
  obtain ⟨h4, hp, h1, h8⟩ := headA_iff.1 hA
  have hp := (pre3 s (by omega)).2 hp
  have hb3 : (s[3]).toNat = iR s := bt_eq s 3 (by omega)
  unfold headB at hB
  simp only [Bool.and_eq_true, decide_eq_true_eq] at hB
  obtain ⟨hb, hz⟩ := hB
  have hlt := belowB_size hb
  have hm4 := belowB_le hb 0 (by omega)
  have hbe : (s[4 + iR s]).toNat = iM s := bt_eq s (4 + iR s) (by omega)
  have hm4 : iM s ≤ 4 := by unfold iM; simp at hm4; omega
  unfold headC at hC
  generalize iM s = m at *
  generalize iR s = n at *
  clear hA
  have hz0 : ((m : Int) == 0) = false := beq_eq_false_iff_ne.2 (by omega)
  by_cases hc1 : belowB s 4 n (1 + (m : Int)) = true
  · have hc2 : belowB s (5 + n) 1 255 = false := by simpa [hc1] using hC
    clear hC
    go_enter Try.func47, Try.ntmps47
    go_wp2_with (first | (go_at_call 71; refine (below_any s (4 + n) 1 4 _ (by unfold maxLen; omega) (by omega) (by omega)).mono ?_; rintro e w ⟨rfl, rfl⟩))
    go_quiet ((go_at_call 71; exact Calls.quiet_of_same (below_any s 4 n (1 + m) _ (by unfold maxLen; omega) (by omega) (by omega))))
    go_wp2_with fail
    refine (below_z s (5 + n) 1 _ _ 255 _ (by omega) (by omega) (by omega) (by omega) rfl).mono ?_
    rintro e w ⟨rfl, rfl⟩
    go_wp2
    go_ret2
    exact ⟨rfl, by repeat (first | exact Below.refl _ _ | apply below_drewN | refine Below.alloc ?_ (Nat.le_refl _) _)⟩
  · have hc1 : belowB s 4 n (1 + (m : Int)) = false := by simpa using hc1
    clear hC
    go_enter Try.func47, Try.ntmps47
    go_wp2_with (first | (go_at_call 71; refine (below_any s (4 + n) 1 4 _ (by unfold maxLen; omega) (by omega) (by omega)).mono ?_; rintro e w ⟨rfl, rfl⟩))
    go_quiet ((go_at_call 71; exact Calls.quiet_of_same (below_any s 4 n (1 + m) _ (by unfold maxLen; omega) (by omega) (by omega))))
    go_wp2_with fail
    refine (below_z s (5 + n) 1 _ _ 255 _ (by omega) (by omega) (by omega) (by omega) rfl).mono ?_
    rintro e w ⟨rfl, rfl⟩
    go_wp2
    go_ret2
    exact ⟨rfl, by repeat (first | exact Below.refl _ _ | apply below_drewN | refine Below.alloc ?_ (Nat.le_refl _) _)⟩
end Go.Proofs.Ytgjgjgihceijnaa
