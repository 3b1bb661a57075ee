/- stencilref.below: a walk. -/
import Derived.Test.YtgjgjgihceijnaaChecked
import Derived.Test.YtgjgjgihceijnaaCkPure
import Derived.WalkKit
import Derived.WalkSpells
import Derived.WalkLawsBesides
namespace Go.Proofs.Ytgjgjgihceijnaa
open Go.RowKit Go.Stn

set_option maxHeartbeats 400000 in
theorem below_any (s : ByteArray) (i n : Nat) (most : Int) (w : World) (hs : s.size ≤ maxLen) (hi : i ≤ 1000000000) (hn : n ≤ 1000000000) :
    Calls Try.prog 71 #[.string s, .int .i64 i, .int .i64 n, .int .i64 most] w fun e w' => e = .returned (.bool (belowB s i n most)) ∧ w' = w := by
  unfold maxLen at hs
  by_cases hsh : s.size < i + n
  · have hf := belowB_short (most := most) hsh
    rw [hf]; clear hf
    go_enter Try.func71, Try.ntmps71
    go_wp2
    go_ret
    exact ⟨rfl, rfl⟩
  · go_enter Try.func71, Try.ntmps71
    go_wp2
    go_loop [9] (fun k => ∃ j : Nat, j ≤ n ∧ k = .int .i64 ((i + j : Nat) : Int) ∧ ∀ l, l < j → (bt s (i + l) : Int) ≤ most) (fun k => i + n - (intOf k).toNat)
    case atStart => exact ⟨0, Nat.zero_le _, rfl, fun l h => absurd h (Nat.not_lt_zero _)⟩
    case round =>
      obtain ⟨j, hj, rfl, hall⟩ := hrel
      have HA : Hid (∀ l, l < j → (bt s (i + l) : Int) ≤ most) := hall
      clear hall
      by_cases hlt : j < n
      · have hb := bt_eq s (i + j) (by omega)
        have hb2 := bt_lt s (i + j)
        by_cases hm : (bt s (i + j) : Int) ≤ most
        · go_wp2
          go_round
          case rel =>
            refine ⟨j + 1, hlt, by go_num, ?_⟩
            intro l hl
            by_cases e : l = j
            · rw [e]; exact hm
            · exact HA.out l (by omega)
          case measure => simp [intOf]; omega
        · have hf := belowB_no (i := i) (most := most) hlt (Int.not_le.mp hm)
          have HF : Hid (belowB s i n most = false) := hf
          clear hf
          go_wp2
          go_ret
          exact ⟨by rw [HF.out]; rfl, rfl⟩
      · have hf := belowB_yes (s := s) (i := i) (n := n) (most := most) (by omega) (fun l hl => HA.out l (by omega))
        have HF : Hid (belowB s i n most = true) := hf
        clear hf
        go_wp2
        go_ret
        exact ⟨by rw [HF.out]; rfl, rfl⟩

/-- The same, the numbers spelt however. -/
theorem below_z (s : ByteArray) (iN nN : Nat) (i n most : Int) (w : World) (hs : s.size ≤ 1000000) (hi : iN ≤ 1000000000) (hn : nN ≤ 1000000000) (ei : i = (iN : Int)) (en : n = (nN : Int)) :
    Calls Try.prog 71 #[.string s, .int .i64 i, .int .i64 n, .int .i64 most] w fun e w' => e = .returned (.bool (belowB s iN nN most)) ∧ w' = w := by
  subst ei en
  exact below_any s iN nN most w (by unfold maxLen; omega) hi hn
end Go.Proofs.Ytgjgjgihceijnaa
