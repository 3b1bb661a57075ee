/- stencilref.Parse: the walks of the ways on which the head is refused. -/
import Derived.Test.YtgjgjgihceijnaaCkStates
import Derived.Test.YtgjgjgihceijnaaCkPure4
import Derived.Deep.AppendLies
namespace Go.Proofs.Ytgjgjgihceijnaa
open Go.RowKit Go.Stn

set_option maxRecDepth 100000 in
set_option maxHeartbeats 1000000 in
theorem parse_noA (s : ByteArray) (w : World) (hs : s.size ≤ 120000) (hA : headA s = false) :
    Calls Try.prog 47 #[.string s] w fun e w' =>
      e = .returned (.tuple #[.pointer none, .bool false]) ∧ w' = w := by
  have HA : Hid (¬ (4 ≤ s.size ∧ (bt s 0 = 83 ∧ bt s 1 = 84 ∧ bt s 2 = 1) ∧ 1 ≤ bt s 3 ∧ bt s 3 ≤ 8)) := by
    intro h; rw [headA_iff.2 h] at hA; cases hA
  clear hA
  by_cases h4 : s.size < 4
  · go_enter Try.func47, Try.ntmps47
    go_wp2
    go_ret2
    exact ⟨rfl, rfl⟩
  have hb3 := bt_eq s 3 (by omega)
  have hb3l := bt_lt s 3
  have hp3 := pre3 s (by omega)
  by_cases hp : (s.extract 0 3).toList = [83, 84, 1]
  · have h2 : ¬ (1 ≤ bt s 3 ∧ bt s 3 ≤ 8) := fun h => HA.out ⟨by omega, hp3.1 hp, h⟩
    clear hp3
    by_cases h1 : bt s 3 < 1
    · clear h2
      go_enter Try.func47, Try.ntmps47
      go_wp2
      go_ret2
      exact ⟨rfl, rfl⟩
    · have h8 : 8 < bt s 3 := by omega
      clear h2
      go_enter Try.func47, Try.ntmps47
      go_wp2
      go_ret2
      exact ⟨rfl, rfl⟩
  · clear hp3
    go_enter Try.func47, Try.ntmps47
    go_wp2
    go_ret2
    exact ⟨rfl, rfl⟩

set_option maxRecDepth 100000 in
set_option maxHeartbeats 1000000 in
theorem parse_noB (s : ByteArray) (w : World) (hs : s.size ≤ 120000) (hA : headA s = true) (hB : headB s = false) :
    Calls Try.prog 47 #[.string s] w fun e w' =>
      e = .returned (.tuple #[.pointer none, .bool false]) ∧ Below w.heap.size w w' := by
  obtain ⟨h4, hp, h1, h8⟩ := headA_iff.1 hA
  have hp := (pre3 s (by omega)).2 hp
  have hb3 : (s[3]).toNat = iR s := bt_eq s 3 (by omega)
  unfold headB iM at hB
  generalize iR s = n at *
  clear hA
  by_cases hb : belowB s (4 + n) 1 4 = true
  · have hz : bt s (4 + n) = 0 := by simpa [hb] using hB
    have hlt := belowB_size hb
    have hbe := bt_eq s (4 + n) (by omega)
    clear hB
    go_enter Try.func47, Try.ntmps47
    go_wp2_with (first | (go_at_call 71; refine (below_any s (4 + n) 1 4 _ (by unfold maxLen; omega) (by omega) (by omega)).mono ?_; rintro e w ⟨rfl, rfl⟩))
    go_ret2
    exact ⟨rfl, (Below.refl _ _).alloc (Nat.le_refl _) _⟩
  · have hb : belowB s (4 + n) 1 4 = false := by simpa using hb
    clear hB
    go_enter Try.func47, Try.ntmps47
    go_wp2_with (first | (go_at_call 71; refine (below_any s (4 + n) 1 4 _ (by unfold maxLen; omega) (by omega) (by omega)).mono ?_; rintro e w ⟨rfl, rfl⟩))
    go_ret2
    exact ⟨rfl, (Below.refl _ _).alloc (Nat.le_refl _) _⟩
end Go.Proofs.Ytgjgjgihceijnaa
