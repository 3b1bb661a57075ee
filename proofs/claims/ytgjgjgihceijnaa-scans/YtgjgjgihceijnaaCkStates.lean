/- (*stencilref.Image).states: a walk. -/
import Derived.Test.YtgjgjgihceijnaaCkBelow
import Derived.Test.YtgjgjgihceijnaaCkPure2
import Derived.Deep.QuietTactic
import Derived.BigQuiet
namespace Go.Proofs.Ytgjgjgihceijnaa
open Go.RowKit Go.Stn

theorem mul_small {a b : Nat} (ha : a ≤ 255) (hb : b ≤ 257) : a * b ≤ 65535 := Nat.le_trans (Nat.mul_le_mul ha hb) (by decide)

set_option maxHeartbeats 1000000 in
theorem states_any (s : ByteArray) (rules many i b : Nat) (w : World) (hs : s.size ≤ 120000) (hi : i ≤ 1000000) (hm : many ≤ 256)
    (h0 : w.cell? ⟨b, 0, none⟩ = some (.string s)) (h1 : w.cell? ⟨b, 1, none⟩ = some (.int .i64 rules)) (h4 : w.cell? ⟨b, 4, none⟩ = some (.int .i64 many)) :
    Calls Try.prog 72 #[.pointer (some ⟨b, 0, none⟩), .int .i64 i] w fun e w' =>
      e = .returned (.tuple #[.int .i64 (stN s rules many i), .int .i64 (stNext s rules many i), .bool (stOk s rules many i)]) ∧ ∃ q, w' = w.drewN q := by
  by_cases hb : belowB s i 1 100 = true
  case neg =>
    have hno : ¬ (stOk s rules many i = true) := by
      intro h; rw [stOk_iff] at h
      exact hb (belowB_yes h.1 (fun j hj => by have : j = 0 := by omega
                                               subst this; simp; have := h.2.1; omega))
    obtain ⟨e1, e2, e3⟩ := st_no hno
    rw [e1, e2, e3]
    clear e1 e2 e3 hno
    have hb : belowB s i 1 100 = false := by simpa using hb
    go_enter Try.func72, Try.ntmps72
    go_wp2_with (first | (go_at_call 71; refine (below_any _ _ 1 100 _ (by unfold maxLen; omega) (by omega) (by omega)).mono ?_; rintro e w ⟨rfl, rfl⟩))
    go_ret3
    exact ⟨rfl, 0, rfl⟩
  have hb1 : i + 1 ≤ s.size ∧ bt s i ≤ 100 := by
    unfold belowB at hb
    simp only [Bool.and_eq_true, decide_eq_true_eq] at hb
    have := hb.2 0 (by omega)
    simp at this
    exact ⟨hb.1, by omega⟩
  obtain ⟨hlt, h100⟩ := hb1
  have hbe := bt_eq s i (by omega)
  by_cases hz : bt s i = 0
  · have hno : ¬ (stOk s rules many i = true) := by
      intro h; rw [stOk_iff] at h; exact h.2.2.1 hz
    obtain ⟨e1, e2, e3⟩ := st_no hno
    rw [e1, e2, e3]
    clear e1 e2 e3 hno
    go_enter Try.func72, Try.ntmps72
    go_wp2_with (first | (go_at_call 71; refine (below_any _ _ 1 100 _ (by unfold maxLen; omega) (by omega) (by omega)).mono ?_; rintro e w ⟨rfl, rfl⟩))
    go_ret3
    exact ⟨rfl, 0, rfl⟩
  have hmul := mul_small (a := bt s i) (b := 1 + many) (by omega) (by omega)
  have hmI : (0 : Int) ≤ (bt s i : Int) * (1 + (many : Int)) ∧ (bt s i : Int) * (1 + (many : Int)) ≤ 65535 := by
    have e : ((bt s i * (1 + many) : Nat) : Int) = (bt s i : Int) * (1 + (many : Int)) := by simp
    omega
  by_cases hlong : s.size < i + 1 + bt s i * (1 + many)
  · have hno : ¬ (stOk s rules many i = true) := by
      intro h; rw [stOk_iff] at h; omega
    obtain ⟨e1, e2, e3⟩ := st_no hno
    rw [e1, e2, e3]
    have hl : (s.size : Int) < (i : Int) + 1 + (bt s i : Int) * (1 + (many : Int)) := by
      have e : ((bt s i * (1 + many) : Nat) : Int) = (bt s i : Int) * (1 + (many : Int)) := by simp
      omega
    clear e1 e2 e3 hno hlong hmul
    go_enter Try.func72, Try.ntmps72
    go_wp2_with (first | (go_at_call 71; refine (below_any _ _ 1 100 _ (by unfold maxLen; omega) (by omega) (by omega)).mono ?_; rintro e w ⟨rfl, rfl⟩))
    go_ret3
    exact ⟨rfl, 0, rfl⟩
  have hl : (i : Int) + 1 + (bt s i : Int) * (1 + (many : Int)) ≤ (s.size : Int) := by
    have e : ((bt s i * (1 + many) : Nat) : Int) = (bt s i : Int) * (1 + (many : Int)) := by simp
    omega
  have HL : Hid (i + 1 + bt s i * (1 + many) ≤ s.size) := by unfold Hid; omega
  clear hlong hmul
  have hz0 : ((bt s i : Int) == 0) = false := beq_eq_false_iff_ne.2 (by omega)
  have hl0 : decide ((s.size : Int) < (i : Int) + 1 + (bt s i : Int) * (1 + (many : Int))) = false := by simp; omega
  go_enter Try.func72, Try.ntmps72
  go_wp2_with (first | (go_at_call 71; refine (below_any _ _ 1 100 _ (by unfold maxLen; omega) (by omega) (by omega)).mono ?_; rintro e w ⟨rfl, rfl⟩))
  go_loopw [10] (fun k w' => ∃ st q : Nat, st ≤ bt s i ∧ k = .int .i64 (st : Int) ∧ w' = w.drewN q ∧ ∀ l, l < st → rowOk s rules many (bt s i) (i + 1 + l * (1 + many)) = true) (fun k _ => bt s i - (intOf k).toNat)
  case atStart => exact ⟨0, 0, Nat.zero_le _, rfl, rfl, fun l h => absurd h (Nat.not_lt_zero _)⟩
  case round =>
    obtain ⟨st, q, hst, rfl, rfl, hall⟩ := hrel
    have HA : Hid (∀ l, l < st → rowOk s rules many (bt s i) (i + 1 + l * (1 + many)) = true) := hall
    clear hall
    by_cases hlt2 : st < bt s i
    · have hmul : st * (1 + many) + (1 + many) ≤ bt s i * (1 + many) := by
        have := Nat.mul_le_mul_right (1 + many) (show st + 1 ≤ bt s i from hlt2)
        rw [Nat.add_mul] at this; omega
      have hmJ : (0 : Int) ≤ (st : Int) * (1 + (many : Int)) ∧ (st : Int) * (1 + (many : Int)) + (1 + (many : Int)) ≤ (bt s i : Int) * (1 + (many : Int)) := by
        have e : ((bt s i * (1 + many) : Nat) : Int) = (bt s i : Int) * (1 + (many : Int)) := by simp
        have e2 : ((st * (1 + many) : Nat) : Int) = (st : Int) * (1 + (many : Int)) := by simp
        omega
      have HM : Hid (st * (1 + many) + (1 + many) ≤ bt s i * (1 + many)) := hmul
      clear hmul
      obtain ⟨a, haN⟩ : ∃ a : Nat, a = i + 1 + st * (1 + many) := ⟨_, rfl⟩
      have ha : (i : Int) + 1 + (st : Int) * (1 + (many : Int)) = (a : Int) := by
        have e2 : ((st * (1 + many) : Nat) : Int) = (st : Int) * (1 + (many : Int)) := by simp
        omega
      have haw : a + 1 + many ≤ s.size := by omega
      have HAN : Hid (a = i + 1 + st * (1 + many)) := haN
      clear haN hmJ
      have hbe2 := bt_eq s a (by omega)
      have hbl := bt_lt s a
      by_cases hrow : bt s a ≤ rules
      · have hdec : decide (rules < bt s a) = false := by simp; omega
        go_wp2
        go_quiet (fail)
        go_wp2
        go_loopw [12] (fun k w' => ∃ kk q2 : Nat, w' = w.drewN q2 ∧ kk ≤ many ∧ k = .int .i64 ((kk + 1 : Nat) : Int) ∧ ∀ l, l < kk → bt s (a + (l + 1)) < bt s i ∨ bt s (a + (l + 1)) = 255) (fun k _ => 1 + many - (intOf k).toNat)
        case atStart => exact ⟨0, q + nq, by simp, Nat.zero_le _, rfl, fun l h => absurd h (Nat.not_lt_zero _)⟩
        case round =>
          obtain ⟨kk, q2, rfl, hkk, rfl, hall⟩ := hrel
          have HK : Hid (∀ l, l < kk → bt s (a + (l + 1)) < bt s i ∨ bt s (a + (l + 1)) = 255) := hall
          clear hall
          by_cases hlt3 : kk < many
          · have hbe3 := bt_eq s (a + (kk + 1)) (by omega)
            have hbl3 := bt_lt s (a + (kk + 1))
            by_cases hgood : bt s (a + (kk + 1)) < bt s i ∨ bt s (a + (kk + 1)) = 255
            · have HG : Hid (bt s (a + (kk + 1)) < bt s i ∨ bt s (a + (kk + 1)) = 255) := hgood
              by_cases hge : bt s i ≤ bt s (a + (kk + 1))
              · have h255 : bt s (a + (kk + 1)) = 255 := by omega
                clear hgood
                go_wp2
                go_roundw
                case rel =>
                  refine ⟨kk + 1, q2, rfl, hlt3, by go_num, ?_⟩
                  intro l hl
                  by_cases e : l = kk
                  · rw [e]; exact HG.out
                  · exact HK.out l (by omega)
                case measure => simp [intOf]; omega
              · clear hgood
                go_wp2
                go_roundw
                case rel =>
                  refine ⟨kk + 1, q2, rfl, hlt3, by go_num, ?_⟩
                  intro l hl
                  by_cases e : l = kk
                  · rw [e]; exact HG.out
                  · exact HK.out l (by omega)
                case measure => simp [intOf]; omega
            · have hno : ¬ (stOk s rules many i = true) := by
                intro h; rw [stOk_iff] at h
                have h5 := h.2.2.2.2 st hlt2
                rw [rowOk_iff, ← HAN.out] at h5
                exact hgood (h5.2 kk hlt3)
              obtain ⟨e1, e2, e3⟩ := st_no hno
              have E : Hid (stN s rules many i = 0 ∧ stNext s rules many i = i ∧ stOk s rules many i = false) := ⟨e1, e2, e3⟩
              have hge : bt s i ≤ bt s (a + (kk + 1)) := by omega
              have h255 : bt s (a + (kk + 1)) ≠ 255 := by omega
              clear e1 e2 e3 hno hgood
              go_wp2
              go_ret3
              refine ⟨?_, q2, rfl⟩
              rw [E.out.1, E.out.2.1, E.out.2.2]
              rfl
          · have e : kk = many := by omega
            subst e
            go_wp2
            go_roundw
            case rel =>
              refine ⟨st + 1, q2, hlt2, by go_num, rfl, ?_⟩
              intro l hl
              by_cases e : l = st
              · rw [e, rowOk_iff, ← HAN.out]; exact ⟨hrow, HK.out⟩
              · exact HA.out l (by omega)
            case measure => simp [intOf]; omega
      · have hno : ¬ (stOk s rules many i = true) := by
          intro h; rw [stOk_iff] at h
          have h5 := h.2.2.2.2 st hlt2
          rw [rowOk_iff, ← HAN.out] at h5
          exact hrow h5.1
        obtain ⟨e1, e2, e3⟩ := st_no hno
        have E : Hid (stN s rules many i = 0 ∧ stNext s rules many i = i ∧ stOk s rules many i = false) := ⟨e1, e2, e3⟩
        clear e1 e2 e3 hno
        go_wp2
        go_quiet (fail)
        go_wp2
        go_ret3
        refine ⟨?_, q + nq, by simp⟩
        rw [E.out.1, E.out.2.1, E.out.2.2]
        rfl
    · have e : st = bt s i := by omega
      subst e
      have hyes : stOk s rules many i = true := stOk_iff.2 ⟨hlt, h100, hz, HL.out, HA.out⟩
      obtain ⟨e1, e2⟩ := st_yes hyes
      have E : Hid (stN s rules many i = bt s i ∧ stNext s rules many i = i + 1 + bt s i * (1 + many) ∧ stOk s rules many i = true) := ⟨e1, e2, hyes⟩
      clear e1 e2 hyes
      go_wp2
      go_ret3
      refine ⟨?_, q, rfl⟩
      rw [E.out.1, E.out.2.1, E.out.2.2]
      simp
end Go.Proofs.Ytgjgjgihceijnaa
