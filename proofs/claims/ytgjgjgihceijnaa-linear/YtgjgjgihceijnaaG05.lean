/- Texts put together: CkStates, CkPure4, CkParse, CkParse2, CkImg, CkParse3, CkCheck. -/
import Derived.Test.YtgjgjgihceijnaaG04
import Derived.Test.YtgjgjgihceijnaaG01
import Derived.Deep.QuietTactic
import Derived.BigQuiet
import Derived.WalkKit
import Derived.Deep.AppendLies
import Derived.Test.YtgjgjgihceijnaaG02
/- (*stencilref.Image).states: a walk. -/
namespace Go.Proofs.Ytgjgjgihceijnaa
open Go.RowKit Go.Stn

theorem mul_small {a b : Nat} (ha : a ≤ 255) (hb : b ≤ 257) : a * b ≤ 65535 := Nat.le_trans (Nat.mul_le_mul ha hb) (by decide)

set_option maxHeartbeats 1000000 in
theorem states_any (s : ByteArray) (rules many i b : Nat) (w : World) (hs : s.size ≤ 120000) (hi : i ≤ 1000000) (hm : many ≤ 256)
    (h0 : w.cell? ⟨b, 0, none⟩ = some (.string s)) (h1 : w.cell? ⟨b, 1, none⟩ = some (.int .i64 rules)) (h4 : w.cell? ⟨b, 4, none⟩ = some (.int .i64 many)) :
    Calls Try.prog 72 #[.pointer (some ⟨b, 0, none⟩), .int .i64 i] w fun e w' =>
      e = .returned (.tuple #[.int .i64 (stN s rules many i), .int .i64 (stNext s rules many i), .bool (stOk s rules many i)]) ∧ ∃ q, w' = w.drewN q := by
  by_cases hb : belowB s i 1 100 = true
  case neg =>
    have hno : ¬ (stOk s rules many i = true) := by
      intro h; rw [stOk_iff] at h
      exact hb (belowB_yes h.1 (fun j hj => by have : j = 0 := by omega
                                               subst this; simp; have := h.2.1; omega))
    obtain ⟨e1, e2, e3⟩ := st_no hno
    rw [e1, e2, e3]
    clear e1 e2 e3 hno
    have hb : belowB s i 1 100 = false := by simpa using hb
    go_enter Try.func72, Try.ntmps72
    go_wp2_with (first | (go_at_call 71; refine (below_any _ _ 1 100 _ (by unfold maxLen; omega) (by omega) (by omega)).mono ?_; rintro e w ⟨rfl, rfl⟩))
    go_ret3
    exact ⟨rfl, 0, rfl⟩
  have hb1 : i + 1 ≤ s.size ∧ bt s i ≤ 100 := by
    unfold belowB at hb
    simp only [Bool.and_eq_true, decide_eq_true_eq] at hb
    have := hb.2 0 (by omega)
    simp at this
    exact ⟨hb.1, by omega⟩
  obtain ⟨hlt, h100⟩ := hb1
  have hbe := bt_eq s i (by omega)
  by_cases hz : bt s i = 0
  · have hno : ¬ (stOk s rules many i = true) := by
      intro h; rw [stOk_iff] at h; exact h.2.2.1 hz
    obtain ⟨e1, e2, e3⟩ := st_no hno
    rw [e1, e2, e3]
    clear e1 e2 e3 hno
    go_enter Try.func72, Try.ntmps72
    go_wp2_with (first | (go_at_call 71; refine (below_any _ _ 1 100 _ (by unfold maxLen; omega) (by omega) (by omega)).mono ?_; rintro e w ⟨rfl, rfl⟩))
    go_ret3
    exact ⟨rfl, 0, rfl⟩
  have hmul := mul_small (a := bt s i) (b := 1 + many) (by omega) (by omega)
  have hmI : (0 : Int) ≤ (bt s i : Int) * (1 + (many : Int)) ∧ (bt s i : Int) * (1 + (many : Int)) ≤ 65535 := by
    have e : ((bt s i * (1 + many) : Nat) : Int) = (bt s i : Int) * (1 + (many : Int)) := by simp
    omega
  by_cases hlong : s.size < i + 1 + bt s i * (1 + many)
  · have hno : ¬ (stOk s rules many i = true) := by
      intro h; rw [stOk_iff] at h; omega
    obtain ⟨e1, e2, e3⟩ := st_no hno
    rw [e1, e2, e3]
    have hl : (s.size : Int) < (i : Int) + 1 + (bt s i : Int) * (1 + (many : Int)) := by
      have e : ((bt s i * (1 + many) : Nat) : Int) = (bt s i : Int) * (1 + (many : Int)) := by simp
      omega
    clear e1 e2 e3 hno hlong hmul
    go_enter Try.func72, Try.ntmps72
    go_wp2_with (first | (go_at_call 71; refine (below_any _ _ 1 100 _ (by unfold maxLen; omega) (by omega) (by omega)).mono ?_; rintro e w ⟨rfl, rfl⟩))
    go_ret3
    exact ⟨rfl, 0, rfl⟩
  have hl : (i : Int) + 1 + (bt s i : Int) * (1 + (many : Int)) ≤ (s.size : Int) := by
    have e : ((bt s i * (1 + many) : Nat) : Int) = (bt s i : Int) * (1 + (many : Int)) := by simp
    omega
  have HL : Hid (i + 1 + bt s i * (1 + many) ≤ s.size) := by unfold Hid; omega
  clear hlong hmul
  have hz0 : ((bt s i : Int) == 0) = false := beq_eq_false_iff_ne.2 (by omega)
  have hl0 : decide ((s.size : Int) < (i : Int) + 1 + (bt s i : Int) * (1 + (many : Int))) = false := by simp; omega
  go_enter Try.func72, Try.ntmps72
  go_wp2_with (first | (go_at_call 71; refine (below_any _ _ 1 100 _ (by unfold maxLen; omega) (by omega) (by omega)).mono ?_; rintro e w ⟨rfl, rfl⟩))
  go_loopw [10] (fun k w' => ∃ st q : Nat, st ≤ bt s i ∧ k = .int .i64 (st : Int) ∧ w' = w.drewN q ∧ ∀ l, l < st → rowOk s rules many (bt s i) (i + 1 + l * (1 + many)) = true) (fun k _ => bt s i - (intOf k).toNat)
  case atStart => exact ⟨0, 0, Nat.zero_le _, rfl, rfl, fun l h => absurd h (Nat.not_lt_zero _)⟩
  case round =>
    obtain ⟨st, q, hst, rfl, rfl, hall⟩ := hrel
    have HA : Hid (∀ l, l < st → rowOk s rules many (bt s i) (i + 1 + l * (1 + many)) = true) := hall
    clear hall
    by_cases hlt2 : st < bt s i
    · have hmul : st * (1 + many) + (1 + many) ≤ bt s i * (1 + many) := by
        have := Nat.mul_le_mul_right (1 + many) (show st + 1 ≤ bt s i from hlt2)
        rw [Nat.add_mul] at this; omega
      have hmJ : (0 : Int) ≤ (st : Int) * (1 + (many : Int)) ∧ (st : Int) * (1 + (many : Int)) + (1 + (many : Int)) ≤ (bt s i : Int) * (1 + (many : Int)) := by
        have e : ((bt s i * (1 + many) : Nat) : Int) = (bt s i : Int) * (1 + (many : Int)) := by simp
        have e2 : ((st * (1 + many) : Nat) : Int) = (st : Int) * (1 + (many : Int)) := by simp
        omega
      have HM : Hid (st * (1 + many) + (1 + many) ≤ bt s i * (1 + many)) := hmul
      clear hmul
      obtain ⟨a, haN⟩ : ∃ a : Nat, a = i + 1 + st * (1 + many) := ⟨_, rfl⟩
      have ha : (i : Int) + 1 + (st : Int) * (1 + (many : Int)) = (a : Int) := by
        have e2 : ((st * (1 + many) : Nat) : Int) = (st : Int) * (1 + (many : Int)) := by simp
        omega
      have haw : a + 1 + many ≤ s.size := by omega
      have HAN : Hid (a = i + 1 + st * (1 + many)) := haN
      clear haN hmJ
      have hbe2 := bt_eq s a (by omega)
      have hbl := bt_lt s a
      by_cases hrow : bt s a ≤ rules
      · have hdec : decide (rules < bt s a) = false := by simp; omega
        go_wp2
        go_quiet (fail)
        go_wp2
        go_loopw [12] (fun k w' => ∃ kk q2 : Nat, w' = w.drewN q2 ∧ kk ≤ many ∧ k = .int .i64 ((kk + 1 : Nat) : Int) ∧ ∀ l, l < kk → bt s (a + (l + 1)) < bt s i ∨ bt s (a + (l + 1)) = 255) (fun k _ => 1 + many - (intOf k).toNat)
        case atStart => exact ⟨0, q + nq, by simp, Nat.zero_le _, rfl, fun l h => absurd h (Nat.not_lt_zero _)⟩
        case round =>
          obtain ⟨kk, q2, rfl, hkk, rfl, hall⟩ := hrel
          have HK : Hid (∀ l, l < kk → bt s (a + (l + 1)) < bt s i ∨ bt s (a + (l + 1)) = 255) := hall
          clear hall
          by_cases hlt3 : kk < many
          · have hbe3 := bt_eq s (a + (kk + 1)) (by omega)
            have hbl3 := bt_lt s (a + (kk + 1))
            by_cases hgood : bt s (a + (kk + 1)) < bt s i ∨ bt s (a + (kk + 1)) = 255
            · have HG : Hid (bt s (a + (kk + 1)) < bt s i ∨ bt s (a + (kk + 1)) = 255) := hgood
              by_cases hge : bt s i ≤ bt s (a + (kk + 1))
              · have h255 : bt s (a + (kk + 1)) = 255 := by omega
                clear hgood
                go_wp2
                go_roundw
                case rel =>
                  refine ⟨kk + 1, q2, rfl, hlt3, by go_num, ?_⟩
                  intro l hl
                  by_cases e : l = kk
                  · rw [e]; exact HG.out
                  · exact HK.out l (by omega)
                case measure => simp [intOf]; omega
              · clear hgood
                go_wp2
                go_roundw
                case rel =>
                  refine ⟨kk + 1, q2, rfl, hlt3, by go_num, ?_⟩
                  intro l hl
                  by_cases e : l = kk
                  · rw [e]; exact HG.out
                  · exact HK.out l (by omega)
                case measure => simp [intOf]; omega
            · have hno : ¬ (stOk s rules many i = true) := by
                intro h; rw [stOk_iff] at h
                have h5 := h.2.2.2.2 st hlt2
                rw [rowOk_iff, ← HAN.out] at h5
                exact hgood (h5.2 kk hlt3)
              obtain ⟨e1, e2, e3⟩ := st_no hno
              have E : Hid (stN s rules many i = 0 ∧ stNext s rules many i = i ∧ stOk s rules many i = false) := ⟨e1, e2, e3⟩
              have hge : bt s i ≤ bt s (a + (kk + 1)) := by omega
              have h255 : bt s (a + (kk + 1)) ≠ 255 := by omega
              clear e1 e2 e3 hno hgood
              go_wp2
              go_ret3
              refine ⟨?_, q2, rfl⟩
              rw [E.out.1, E.out.2.1, E.out.2.2]
              rfl
          · have e : kk = many := by omega
            subst e
            go_wp2
            go_roundw
            case rel =>
              refine ⟨st + 1, q2, hlt2, by go_num, rfl, ?_⟩
              intro l hl
              by_cases e : l = st
              · rw [e, rowOk_iff, ← HAN.out]; exact ⟨hrow, HK.out⟩
              · exact HA.out l (by omega)
            case measure => simp [intOf]; omega
      · have hno : ¬ (stOk s rules many i = true) := by
          intro h; rw [stOk_iff] at h
          have h5 := h.2.2.2.2 st hlt2
          rw [rowOk_iff, ← HAN.out] at h5
          exact hrow h5.1
        obtain ⟨e1, e2, e3⟩ := st_no hno
        have E : Hid (stN s rules many i = 0 ∧ stNext s rules many i = i ∧ stOk s rules many i = false) := ⟨e1, e2, e3⟩
        clear e1 e2 e3 hno
        go_wp2
        go_quiet (fail)
        go_wp2
        go_ret3
        refine ⟨?_, q + nq, by simp⟩
        rw [E.out.1, E.out.2.1, E.out.2.2]
        rfl
    · have e : st = bt s i := by omega
      subst e
      have hyes : stOk s rules many i = true := stOk_iff.2 ⟨hlt, h100, hz, HL.out, HA.out⟩
      obtain ⟨e1, e2⟩ := st_yes hyes
      have E : Hid (stN s rules many i = bt s i ∧ stNext s rules many i = i + 1 + bt s i * (1 + many) ∧ stOk s rules many i = true) := ⟨e1, e2, hyes⟩
      clear e1 e2 hyes
      go_wp2
      go_ret3
      refine ⟨?_, q, rfl⟩
      rw [E.out.1, E.out.2.1, E.out.2.2]
      simp
end Go.Proofs.Ytgjgjgihceijnaa

/- The first three bytes of a text. -/
namespace Go.Stn

theorem pre3 (s : ByteArray) (h : 3 ≤ s.size) : ((s.extract 0 3).toList = [83, 84, 1]) ↔ (bt s 0 = 83 ∧ bt s 1 = 84 ∧ bt s 2 = 1) := by
  rw [ByteArray.toList_eq]
  have e : (s.extract 0 3).data.toList = s.data.toList.take 3 := by
    simp [ByteArray.data_extract]
  rw [e]
  unfold bt
  have hl : 3 ≤ s.data.toList.length := by simpa using h
  generalize s.data.toList = l at hl ⊢
  match l, hl with
  | a :: b :: c :: r, _ =>
    simp
    refine ⟨?_, ?_⟩
    · rintro ⟨rfl, rfl, rfl⟩; decide
    · rintro ⟨h1, h2, h3⟩
      exact ⟨UInt8.toNat_inj.1 h1, UInt8.toNat_inj.1 h2, UInt8.toNat_inj.1 h3⟩

end Go.Stn

/- stencilref.Parse: the walks of the ways on which the head is refused. -/
namespace Go.Proofs.Ytgjgjgihceijnaa
open Go.RowKit Go.Stn

set_option maxRecDepth 100000 in
set_option maxHeartbeats 1000000 in
theorem parse_noA (s : ByteArray) (w : World) (hs : s.size ≤ 120000) (hA : headA s = false) :
    Calls Try.prog 47 #[.string s] w fun e w' =>
      e = .returned (.tuple #[.pointer none, .bool false]) ∧ w' = w := by
  have HA : Hid (¬ (4 ≤ s.size ∧ (bt s 0 = 83 ∧ bt s 1 = 84 ∧ bt s 2 = 1) ∧ 1 ≤ bt s 3 ∧ bt s 3 ≤ 8)) := by
    intro h; rw [headA_iff.2 h] at hA; cases hA
  clear hA
  by_cases h4 : s.size < 4
  · go_enter Try.func47, Try.ntmps47
    go_wp2
    go_ret2
    exact ⟨rfl, rfl⟩
  have hb3 := bt_eq s 3 (by omega)
  have hb3l := bt_lt s 3
  have hp3 := pre3 s (by omega)
  by_cases hp : (s.extract 0 3).toList = [83, 84, 1]
  · have h2 : ¬ (1 ≤ bt s 3 ∧ bt s 3 ≤ 8) := fun h => HA.out ⟨by omega, hp3.1 hp, h⟩
    clear hp3
    by_cases h1 : bt s 3 < 1
    · clear h2
      go_enter Try.func47, Try.ntmps47
      go_wp2
      go_ret2
      exact ⟨rfl, rfl⟩
    · have h8 : 8 < bt s 3 := by omega
      clear h2
      go_enter Try.func47, Try.ntmps47
      go_wp2
      go_ret2
      exact ⟨rfl, rfl⟩
  · clear hp3
    go_enter Try.func47, Try.ntmps47
    go_wp2
    go_ret2
    exact ⟨rfl, rfl⟩

set_option maxRecDepth 100000 in
set_option maxHeartbeats 1000000 in
theorem parse_noB (s : ByteArray) (w : World) (hs : s.size ≤ 120000) (hA : headA s = true) (hB : headB s = false) :
    Calls Try.prog 47 #[.string s] w fun e w' =>
      e = .returned (.tuple #[.pointer none, .bool false]) ∧ Below w.heap.size w w' := by
  obtain ⟨h4, hp, h1, h8⟩ := headA_iff.1 hA
  have hp := (pre3 s (by omega)).2 hp
  have hb3 : (s[3]).toNat = iR s := bt_eq s 3 (by omega)
  unfold headB iM at hB
  generalize iR s = n at *
  clear hA
  by_cases hb : belowB s (4 + n) 1 4 = true
  · have hz : bt s (4 + n) = 0 := by simpa [hb] using hB
    have hlt := belowB_size hb
    have hbe := bt_eq s (4 + n) (by omega)
    clear hB
    go_enter Try.func47, Try.ntmps47
    go_wp2_with (first | (go_at_call 71; refine (below_any s (4 + n) 1 4 _ (by unfold maxLen; omega) (by omega) (by omega)).mono ?_; rintro e w ⟨rfl, rfl⟩))
    go_ret2
    exact ⟨rfl, (Below.refl _ _).alloc (Nat.le_refl _) _⟩
  · have hb : belowB s (4 + n) 1 4 = false := by simpa using hb
    clear hB
    go_enter Try.func47, Try.ntmps47
    go_wp2_with (first | (go_at_call 71; refine (below_any s (4 + n) 1 4 _ (by unfold maxLen; omega) (by omega) (by omega)).mono ?_; rintro e w ⟨rfl, rfl⟩))
    go_ret2
    exact ⟨rfl, (Below.refl _ _).alloc (Nat.le_refl _) _⟩
end Go.Proofs.Ytgjgjgihceijnaa

/- stencilref.Parse: the walks behind the head. -/
namespace Go.Proofs.Ytgjgjgihceijnaa
open Go.RowKit Go.Stn

set_option maxRecDepth 100000 in
set_option maxHeartbeats 1000000 in
theorem parse_noC (s : ByteArray) (w : World) (hs : s.size ≤ 120000) (hA : headA s = true) (hB : headB s = true) (hC : headC s = false) :
    Calls Try.prog 47 #[.string s] w fun e w' =>
      e = .returned (.tuple #[.pointer none, .bool false]) ∧ Below w.heap.size w w' := by
  obtain ⟨h4, hp, h1, h8⟩ := headA_iff.1 hA
  have hp := (pre3 s (by omega)).2 hp
  have hb3 : (s[3]).toNat = iR s := bt_eq s 3 (by omega)
  unfold headB at hB
  simp only [Bool.and_eq_true, decide_eq_true_eq] at hB
  obtain ⟨hb, hz⟩ := hB
  have hlt := belowB_size hb
  have hm4 := belowB_le hb 0 (by omega)
  have hbe : (s[4 + iR s]).toNat = iM s := bt_eq s (4 + iR s) (by omega)
  have hm4 : iM s ≤ 4 := by unfold iM; simp at hm4; omega
  unfold headC at hC
  generalize iM s = m at *
  generalize iR s = n at *
  clear hA
  have hz0 : ((m : Int) == 0) = false := beq_eq_false_iff_ne.2 (by omega)
  by_cases hc1 : belowB s 4 n (1 + (m : Int)) = true
  · have hc2 : belowB s (5 + n) 1 255 = false := by simpa [hc1] using hC
    clear hC
    go_enter Try.func47, Try.ntmps47
    go_wp2_with (first | (go_at_call 71; refine (below_any s (4 + n) 1 4 _ (by unfold maxLen; omega) (by omega) (by omega)).mono ?_; rintro e w ⟨rfl, rfl⟩))
    go_quiet ((go_at_call 71; exact Calls.quiet_of_same (below_any s 4 n (1 + m) _ (by unfold maxLen; omega) (by omega) (by omega))))
    go_wp2_with fail
    refine (below_z s (5 + n) 1 _ _ 255 _ (by omega) (by omega) (by omega) (by omega) rfl).mono ?_
    rintro e w ⟨rfl, rfl⟩
    go_wp2
    go_ret2
    exact ⟨rfl, by repeat (first | exact Below.refl _ _ | apply below_drewN | refine Below.alloc ?_ (Nat.le_refl _) _)⟩
  · have hc1 : belowB s 4 n (1 + (m : Int)) = false := by simpa using hc1
    clear hC
    go_enter Try.func47, Try.ntmps47
    go_wp2_with (first | (go_at_call 71; refine (below_any s (4 + n) 1 4 _ (by unfold maxLen; omega) (by omega) (by omega)).mono ?_; rintro e w ⟨rfl, rfl⟩))
    go_quiet ((go_at_call 71; exact Calls.quiet_of_same (below_any s 4 n (1 + m) _ (by unfold maxLen; omega) (by omega) (by omega))))
    go_wp2_with fail
    refine (below_z s (5 + n) 1 _ _ 255 _ (by omega) (by omega) (by omega) (by omega) rfl).mono ?_
    rintro e w ⟨rfl, rfl⟩
    go_wp2
    go_ret2
    exact ⟨rfl, by repeat (first | exact Below.refl _ _ | apply below_drewN | refine Below.alloc ?_ (Nat.le_refl _) _)⟩
end Go.Proofs.Ytgjgjgihceijnaa

/- An image in memory as Parse lays it: its seven cells and two lists; what an append and a draw leave of it. -/
namespace Go.Proofs.Ytgjgjgihceijnaa
open Go.RowKit Go.Stn


/-- What At and States hold. -/
def atRow (s : ByteArray) (c : Nat) : List Value := (List.range c).map fun i => .int .i64 ((iAt s i + 1 : Nat) : Int)
def stRow (s : ByteArray) (c : Nat) : List Value := (List.range c).map fun i => .int .i64 (bt s (iAt s i))

/-- The image in memory: its seven cells; the two lists. -/
structure ImgAt (w : World) (b base : Nat) (s : ByteArray) (ca cs : Nat) (va vs : Value) : Prop where
  c0 : w.cell? ⟨b, 0, none⟩ = some (.string s)
  c1 : w.cell? ⟨b, 1, none⟩ = some (.int .i64 (iR s))
  c2 : w.cell? ⟨b, 2, none⟩ = some (.int .i64 (iM s))
  c3 : w.cell? ⟨b, 3, none⟩ = some (.int .i64 ((6 + iR s : Nat) : Int))
  c4 : w.cell? ⟨b, 4, none⟩ = some (.int .i64 (iK s))
  c5 : w.cell? ⟨b, 5, none⟩ = some va
  c6 : w.cell? ⟨b, 6, none⟩ = some vs
  f5 : w.frozen? ⟨b, 5, none⟩ = false
  f6 : w.frozen? ⟨b, 6, none⟩ = false
  ra : w.ownsRow base 3 1 va ca (atRow s ca)
  rs : w.ownsRow base 3 1 vs cs (stRow s cs)
  hb : b < base
  hz : base ≤ w.heap.size
  ap : va.ownBlock = none ∨ va.ownBlock ≠ vs.ownBlock

theorem ImgAt.drewN {w : World} {b base : Nat} {s : ByteArray} {ca cs : Nat} {va vs : Value} (h : ImgAt w b base s ca cs va vs) (q : Nat) : ImgAt (w.drewN q) b base s ca cs va vs :=
  ⟨h.c0, h.c1, h.c2, h.c3, h.c4, h.c5, h.c6, h.f5, h.f6, h.ra, h.rs, h.hb, h.hz, h.ap⟩

theorem ownsRow_ne {w : World} {base : Nat} {e : TypeId} {size : Nat} {v : Value} {n : Nat} {xs : List Value} (h : w.ownsRow base e size v n xs) {b : Nat} (hb : b < base) : some b ≠ v.ownBlock := by
  intro e
  have := h.lt b e.symm
  omega

/-- Behind an append to At, and the store. -/
theorem ImgAt.app5 {w w1 : World} {b base : Nat} {s : ByteArray} {c cs : Nat} {va vs : Value} (h : ImgAt w b base s c cs va vs) (o : Obj) {g cap : Nat}
    (hown : w1.ownsRow base 3 1 (.slice (some ⟨g, 0, none⟩) (c + 1) cap) (c + 1) (atRow s c ++ [.int .i64 ((iAt s c + 1 : Nat) : Int)]))
    (hgrow : (w.alloc o).grownBy w1 va.ownBlock) (hat : va.ownBlock = some g ∨ g = w.heap.size + 1) :
    ImgAt (w1.setCell ⟨b, 5, none⟩ (.slice (some ⟨g, 0, none⟩) (c + 1) cap)) b base s (c + 1) cs (.slice (some ⟨g, 0, none⟩) (c + 1) cap) vs := by
  have hbz := h.hb
  have hzz := h.hz
  have hne : some b ≠ va.ownBlock := ownsRow_ne h.ra h.hb
  have hcell : ∀ i v, w.cell? ⟨b, i, none⟩ = some v → w1.cell? ⟨b, i, none⟩ = some v := fun i v hv =>
    hgrow.cell (by rw [World.cell?_alloc_past (hn := by omega)]; exact hv) hne
  have hfr : ∀ i, w1.frozen? ⟨b, i, none⟩ = w.frozen? ⟨b, i, none⟩ := fun i => by
    rw [hgrow.frozen_far ⟨b, i, none⟩ (by simp; omega) hne, World.frozen?_alloc_past (hn := by omega)]
  have hoth : ∀ i v, i ≠ 5 → w.cell? ⟨b, i, none⟩ = some v → (w1.setCell ⟨b, 5, none⟩ (.slice (some ⟨g, 0, none⟩) (c + 1) cap)).cell? ⟨b, i, none⟩ = some v := fun i v hi hv => by
    rw [World.cell?_setCell_other (h := by intro e; injection e; omega)]; exact hcell i v hv
  refine ⟨hoth 0 _ (by omega) h.c0, hoth 1 _ (by omega) h.c1, hoth 2 _ (by omega) h.c2, hoth 3 _ (by omega) h.c3, hoth 4 _ (by omega) h.c4,
    World.cell?_setCell_same _ _ _ (hcell 5 _ h.c5), hoth 6 _ (by omega) h.c6, ?_, ?_, ?_, ?_, h.hb, ?_, ?_⟩
  · rw [World.frozen?_setCell, hfr]; exact h.f5
  · rw [World.frozen?_setCell, hfr]; exact h.f6
  · have e : atRow s (c + 1) = atRow s c ++ [.int .i64 ((iAt s c + 1 : Nat) : Int)] := by
      unfold atRow; rw [List.range_succ, List.map_append]; rfl
    rw [e]; exact ownsRow_setCell_below hown h.hb _
  · refine ownsRow_setCell_below ((h.rs.alloc o).kept hgrow ?_) h.hb _
    rcases h.ap with e | e
    · cases hv : vs.ownBlock with
      | none => exact .inl rfl
      | some k => right; rw [e]; simp
    · exact .inr (Ne.symm e)
  · have := hgrow.size; simp [World.setCell] at this ⊢; omega
  · right
    show some g ≠ vs.ownBlock
    intro e
    rcases hat with h1 | h1
    · rcases h.ap with e2 | e2
      · rw [e2] at h1; cases h1
      · exact e2 (h1.trans e)
    · have := h.rs.lt g e.symm; omega

/-- Behind an append to States, and the store. -/
theorem ImgAt.app6 {w w1 : World} {b base : Nat} {s : ByteArray} {c ca : Nat} {va vs : Value} (h : ImgAt w b base s ca c va vs) (o : Obj) {g cap : Nat}
    (hown : w1.ownsRow base 3 1 (.slice (some ⟨g, 0, none⟩) (c + 1) cap) (c + 1) (stRow s c ++ [.int .i64 (bt s (iAt s c))]))
    (hgrow : (w.alloc o).grownBy w1 vs.ownBlock) (hat : vs.ownBlock = some g ∨ g = w.heap.size + 1) :
    ImgAt (w1.setCell ⟨b, 6, none⟩ (.slice (some ⟨g, 0, none⟩) (c + 1) cap)) b base s ca (c + 1) va (.slice (some ⟨g, 0, none⟩) (c + 1) cap) := by
  have hbz := h.hb
  have hzz := h.hz
  have hne : some b ≠ vs.ownBlock := ownsRow_ne h.rs h.hb
  have hcell : ∀ i v, w.cell? ⟨b, i, none⟩ = some v → w1.cell? ⟨b, i, none⟩ = some v := fun i v hv =>
    hgrow.cell (by rw [World.cell?_alloc_past (hn := by omega)]; exact hv) hne
  have hfr : ∀ i, w1.frozen? ⟨b, i, none⟩ = w.frozen? ⟨b, i, none⟩ := fun i => by
    rw [hgrow.frozen_far ⟨b, i, none⟩ (by simp; omega) hne, World.frozen?_alloc_past (hn := by omega)]
  have hoth : ∀ i v, i ≠ 6 → w.cell? ⟨b, i, none⟩ = some v → (w1.setCell ⟨b, 6, none⟩ (.slice (some ⟨g, 0, none⟩) (c + 1) cap)).cell? ⟨b, i, none⟩ = some v := fun i v hi hv => by
    rw [World.cell?_setCell_other (h := by intro e; injection e; omega)]; exact hcell i v hv
  refine ⟨hoth 0 _ (by omega) h.c0, hoth 1 _ (by omega) h.c1, hoth 2 _ (by omega) h.c2, hoth 3 _ (by omega) h.c3, hoth 4 _ (by omega) h.c4,
    hoth 5 _ (by omega) h.c5, World.cell?_setCell_same _ _ _ (hcell 6 _ h.c6), ?_, ?_, ?_, ?_, h.hb, ?_, ?_⟩
  · rw [World.frozen?_setCell, hfr]; exact h.f5
  · rw [World.frozen?_setCell, hfr]; exact h.f6
  · refine ownsRow_setCell_below ((h.ra.alloc o).kept hgrow ?_) h.hb _
    exact h.ap
  · have e : stRow s (c + 1) = stRow s c ++ [.int .i64 (bt s (iAt s c))] := by
      unfold stRow; rw [List.range_succ, List.map_append]; rfl
    rw [e]; exact ownsRow_setCell_below hown h.hb _
  · have := hgrow.size; simp [World.setCell] at this ⊢; omega
  · right
    show va.ownBlock ≠ some g
    intro e
    rcases hat with h1 | h1
    · rcases h.ap with e2 | e2
      · rw [e2] at e; cases e
      · exact e2 (e.trans h1.symm)
    · have := h.ra.lt g e; omega

/-- Behind an append, ahead of the store. -/
theorem ImgAt.kept {w w1 : World} {b base : Nat} {s : ByteArray} {ca cs : Nat} {va vs v : Value} {n : Nat} {xs : List Value} (h : ImgAt w b base s ca cs va vs) {o : Obj}
    (hv : w.ownsRow base 3 1 v n xs) (hgrow : (w.alloc o).grownBy w1 v.ownBlock) :
    w1.cell? ⟨b, 5, none⟩ = some va ∧ w1.frozen? ⟨b, 5, none⟩ = false ∧ w1.cell? ⟨b, 6, none⟩ = some vs ∧ w1.frozen? ⟨b, 6, none⟩ = false := by
  have hbz := h.hb
  have hzz := h.hz
  have hne : some b ≠ v.ownBlock := ownsRow_ne hv h.hb
  have hcell : ∀ i v, w.cell? ⟨b, i, none⟩ = some v → w1.cell? ⟨b, i, none⟩ = some v := fun i v hv =>
    hgrow.cell (by rw [World.cell?_alloc_past (hn := by omega)]; exact hv) hne
  have hfr : ∀ i, w1.frozen? ⟨b, i, none⟩ = w.frozen? ⟨b, i, none⟩ := fun i => by
    rw [hgrow.frozen_far ⟨b, i, none⟩ (by simp; omega) hne, World.frozen?_alloc_past (hn := by omega)]
  exact ⟨hcell 5 _ h.c5, (hfr 5).trans h.f5, hcell 6 _ h.c6, (hfr 6).trans h.f6⟩

/-- Where the loop begins. -/
theorem ImgAt.start (w : World) (s : ByteArray) (k q1 q2 : Nat) (hk : iK s = k + 1) :
    ImgAt (((((w.alloc (.cells #[.string s, .int .i64 (iR s), .int .i64 (iM s), .int .i64 0, .int .i64 0, .slice none 0 0, .slice none 0 0] 160)).drewN q1).setCell ⟨w.heap.size, 4, none⟩ (.int .i64 ((k : Int) + 1))).setCell
      ⟨w.heap.size, 3, none⟩ (.int .i64 (4 + (iR s : Int) + 2))).drewN q2) w.heap.size (w.heap.size + 1) s 0 0 (.slice none 0 0) (.slice none 0 0) := by
  have hc : ∀ i v, #[Value.string s, .int .i64 (iR s), .int .i64 (iM s), .int .i64 0, .int .i64 0, .slice none 0 0, .slice none 0 0][i]? = some v →
      ((w.alloc (.cells #[.string s, .int .i64 (iR s), .int .i64 (iM s), .int .i64 0, .int .i64 0, .slice none 0 0, .slice none 0 0] 160)).drewN q1).cell? ⟨w.heap.size, i, none⟩ = some v := fun i v h => by
    show (w.alloc _).cell? _ = _
    rw [World.cell?_alloc_new]; exact h
  have hf : ∀ i, ((w.alloc (.cells #[.string s, .int .i64 (iR s), .int .i64 (iM s), .int .i64 0, .int .i64 0, .slice none 0 0, .slice none 0 0] 160)).drewN q1).frozen? ⟨w.heap.size, i, none⟩ = false := fun i => by
    show (w.alloc _).frozen? _ = _
    rw [World.frozen?_alloc_new]
  have hsz : ((w.alloc (.cells #[.string s, .int .i64 (iR s), .int .i64 (iM s), .int .i64 0, .int .i64 0, .slice none 0 0, .slice none 0 0] 160)).drewN q1).heap.size = w.heap.size + 1 := by
    show (w.alloc _).heap.size = _
    simp
  generalize ((w.alloc (.cells #[.string s, .int .i64 (iR s), .int .i64 (iM s), .int .i64 0, .int .i64 0, .slice none 0 0, .slice none 0 0] 160)).drewN q1) = W at *
  refine ImgAt.drewN ?_ q2
  have hoth : ∀ i v, i ≠ 3 → i ≠ 4 → W.cell? ⟨w.heap.size, i, none⟩ = some v → ((W.setCell ⟨w.heap.size, 4, none⟩ (.int .i64 ((k : Int) + 1))).setCell ⟨w.heap.size, 3, none⟩ (.int .i64 (4 + (iR s : Int) + 2))).cell? ⟨w.heap.size, i, none⟩ = some v := fun i v h3 h4 hv => by
    rw [World.cell?_setCell_other (h := by intro e; injection e; omega), World.cell?_setCell_other (h := by intro e; injection e; omega)]; exact hv
  refine ⟨hoth 0 _ (by omega) (by omega) (hc 0 _ rfl), hoth 1 _ (by omega) (by omega) (hc 1 _ rfl), hoth 2 _ (by omega) (by omega) (hc 2 _ rfl), ?_, ?_,
    hoth 5 _ (by omega) (by omega) (hc 5 _ rfl), hoth 6 _ (by omega) (by omega) (hc 6 _ rfl), ?_, ?_, World.ownsRow_nil _ _ _ _, World.ownsRow_nil _ _ _ _, by omega, ?_, .inl rfl⟩
  · rw [World.cell?_setCell_same (u := .int .i64 0)]
    · congr 2; omega
    · rw [World.cell?_setCell_other (h := by intro e; injection e; omega)]; exact hc 3 _ rfl
  · rw [World.cell?_setCell_other (h := by intro e; injection e; omega), World.cell?_setCell_same (h := hc 4 _ rfl)]
    rw [hk]; rfl
  · rw [World.frozen?_setCell, World.frozen?_setCell]; exact hf 5
  · rw [World.frozen?_setCell, World.frozen?_setCell]; exact hf 6
  · simp [World.setCell]; omega

theorem iAt_small {s : ByteArray} {c : Nat} (hs : s.size ≤ 120000) (h8 : iR s ≤ 8) (h : ∀ l, l < c → stOk s (iR s) (iK s) (iAt s l) = true) : iAt s c ≤ 120000 := by
  cases c with
  | zero => show 262 + iR s ≤ 120000; omega
  | succ n => have := (iAt_step (h n (Nat.lt_succ_self n))).2; omega

end Go.Proofs.Ytgjgjgihceijnaa

/- stencilref.Parse: the head is fine. -/
namespace Go.Proofs.Ytgjgjgihceijnaa
open Go.RowKit Go.Stn

set_option maxRecDepth 100000 in
set_option maxHeartbeats 2000000 in
theorem parse_head (s : ByteArray) (w : World) (hs : s.size ≤ 120000) (hA : headA s = true) (hB : headB s = true) (hC : headC s = true) :
    Calls Try.prog 47 #[.string s] w fun e w' =>
      ∃ v, e = .returned (.tuple #[v, .bool (imgOk s)]) ∧ Below w.heap.size w w' ∧ (imgOk s = true → v = .pointer (some ⟨w.heap.size, 0, none⟩) ∧ ∃ va vs, ImgAt w' w.heap.size (w.heap.size + 1) s (iM s) (iM s) va vs) := by
  obtain ⟨h4, hp, h1, h8⟩ := headA_iff.1 hA
  have hp := (pre3 s (by omega)).2 hp
  have hb3 : (s[3]).toNat = iR s := bt_eq s 3 (by omega)
  have hB2 := hB
  unfold headB at hB2
  simp only [Bool.and_eq_true, decide_eq_true_eq] at hB2
  obtain ⟨hb, hz⟩ := hB2
  have hlt := belowB_size hb
  have hm4 := belowB_le hb 0 (by omega)
  have hbe : (s[4 + iR s]).toNat = iM s := bt_eq s (4 + iR s) (by omega)
  have hm4 : iM s ≤ 4 := by unfold iM; simp at hm4; omega
  have hC2 := hC
  unfold headC at hC2
  simp only [Bool.and_eq_true] at hC2
  obtain ⟨hc1, hc2⟩ := hC2
  have hlt2 := belowB_size hc2
  have hbk : (s[4 + iR s + 1]).toNat = bt s (5 + iR s) := by rw [bt_eq s (4 + iR s + 1) (by omega)]; congr 1; omega
  have hkl := bt_lt s (5 + iR s)
  have hz0 : ((iM s : Int) == 0) = false := beq_eq_false_iff_ne.2 (by omega)
  have HK : Hid (iK s = bt s (5 + iR s) + 1) := rfl
  have hd4 : decide ((s.size : Int) < 4) = false := by simp; omega
  have hd1 : decide ((iR s : Int) < 1) = false := by simp; omega
  have hd8 : decide (8 < (iR s : Int)) = false := by simp; omega
  by_cases hD : headD s = true
  · have hd : belowB s (6 + iR s) 256 (bt s (5 + iR s) : Int) = true := by
      have : headD s = belowB s (6 + iR s) 256 (bt s (5 + iR s) : Int) := by unfold headD iK; congr 1; omega
      rw [← this]; exact hD
    have hlt3 := belowB_size hd
    have HH : Hid (headA s = true ∧ headB s = true ∧ headC s = true ∧ headD s = true) := ⟨hA, hB, hC, hD⟩
    clear hA hB hC hD
    generalize hkk : bt s (5 + iR s) = k at *
    have HKK : Hid (bt s (5 + iR s) = k) := hkk
    clear hkk
    go_enter Try.func47, Try.ntmps47
    go_wp2_with (first | (go_at_call 71; refine (below_any s (4 + iR s) 1 4 _ (by unfold maxLen; omega) (by omega) (by omega)).mono ?_; rintro e w ⟨rfl, rfl⟩))
    go_quiet ((go_at_call 71; exact Calls.quiet_of_same (below_any s 4 (iR s) (1 + iM s) _ (by unfold maxLen; omega) (by omega) (by omega))))
    go_wp2_with fail
    refine (below_z s (5 + iR s) 1 _ _ 255 _ (by omega) (by omega) (by omega) (by omega) rfl).mono ?_
    rintro e w ⟨rfl, rfl⟩
    go_wp2_with fail
    go_quiet ((go_at_call 71; exact Calls.quiet_of_same (below_z s (6 + iR s) 256 _ _ k _ (by omega) (by omega) (by omega) (by omega) rfl)))
    go_wp2_with fail
    rw [hd]
    go_loopw [8, 9] (fun a c wr => ∃ (cn : Nat) (va vs : Value), cn ≤ iM s ∧ c = .int .i64 cn ∧ a = .int .i64 (iAt s cn) ∧ (∀ l, l < cn → stOk s (iR s) (iK s) (iAt s l) = true) ∧ ImgAt wr w.heap.size (w.heap.size + 1) s cn cn va vs ∧ Below w.heap.size w wr)
      (fun _ c _ => 4 - (intOf c).toNat)
    case atStart =>
      refine ⟨0, .slice none 0 0, .slice none 0 0, Nat.zero_le _, rfl, ?_, fun l h => absurd h (Nat.not_lt_zero _), ?_, ?_⟩
      · show _ = Value.int .i64 ((262 + iR s : Nat) : Int); go_num
      · exact ImgAt.start w s k _ _ (by rw [HK.out])
      · exact below_drewN (((below_drewN ((Below.refl w.heap.size w).alloc (Nat.le_refl _) _) _).setCell (p := ⟨w.heap.size, 4, none⟩) (Nat.le_refl _) _).setCell (p := ⟨w.heap.size, 3, none⟩) (Nat.le_refl _) _) _
    case round =>
      obtain ⟨cn, va, vs, hcn, rfl, rfl, hall, himg, hbel⟩ := hrel
      have hsm := iAt_small hs h8 hall
      have hic2 := himg.c2
      have HA : Hid (∀ l, l < cn → stOk s (iR s) (iK s) (iAt s l) = true) := hall
      clear hall
      have hBz := hbel.size
      by_cases hlt4 : cn < iM s
      · cases hst : stOk s (iR s) (iK s) (iAt s cn) with
        | false =>
          have hno := not_img_st hlt4 hst
          have hno2 := st_no (s := s) (rules := iR s) (many := iK s) (i := iAt s cn) (by rw [hst]; simp)
          have HN : Hid (imgOk s = false) := hno
          clear hno
          go_wp2_with fail
          refine (states_any s (iR s) (iK s) (iAt s cn) w.heap.size _ hs (by omega) (iK_le s) himg.c0 himg.c1 himg.c4).mono ?_
          rintro e wr2 ⟨rfl, q, rfl⟩
          rw [hno2.1, hno2.2.1, hno2.2.2]
          go_wp2
          go_ret2
          refine ⟨.pointer none, by rw [HN.out]; rfl, below_drewN hbel _, fun h => ?_⟩
          rw [HN.out] at h; cases h
        | true =>
          have hyes := st_yes hst
          have hstep := iAt_step hst
          go_wp2_with fail
          refine (states_any s (iR s) (iK s) (iAt s cn) w.heap.size _ hs (by omega) (iK_le s) himg.c0 himg.c1 himg.c4).mono ?_
          rintro e wr2 ⟨rfl, q, rfl⟩
          rw [hyes.1, hyes.2, hst]
          have himg2 := himg.drewN q
          have hbel2 := below_drewN hbel q
          have hBz2 := himg2.hz
          generalize wr.drewN q = wq at *
          clear himg hbel hBz hic2
          have hic5 := himg2.c5
          go_wp2_with (first
            | (at_builtin; refine wpList_app1 wq rfl (.tmp 134) (.tmp 137) 30 rfl (w.heap.size + 1) 3 (.int .i64 0) 1 8 Try.underlying30 Try.infoInt rfl (by decide) (by decide) va cn (atRow s cn) [.int .i64 ((iAt s cn : Int) + 1)] _ rfl himg2.ra _ rfl rfl rfl (by simp [Value.oneCell']) (by omega) (by omega) ?_; intro g cap w1 hown hgrow hat hlt5; obtain ⟨k5, kf5, k6, kf6⟩ := himg2.kept himg2.ra hgrow; have himg3 := himg2.app5 _ hown hgrow hat; have hz3 := himg3.hz)
            | (at_builtin; refine wpList_app1 (w1.setCell ⟨w.heap.size, 5, none⟩ (.slice (some ⟨g, 0, none⟩) (cn + 1) cap)) rfl (.tmp 145) (.tmp 147) 30 rfl (w.heap.size + 1) 3 (.int .i64 0) 1 8 Try.underlying30 Try.infoInt rfl (by decide) (by decide) vs cn (stRow s cn) [.int .i64 (bt s (iAt s cn))] _ rfl himg3.rs w1.heap.size (by simp) rfl rfl (by simp [Value.oneCell']) (by omega) (by omega) ?_; intro g2 cap2 w2 hown2 hgrow2 hat2 hlt6; obtain ⟨m5, mf5, m6, mf6⟩ := himg3.kept himg3.rs hgrow2; have himg4 := himg3.app6 _ hown2 hgrow2 hat2))
          go_roundw
          case rel =>
            refine ⟨cn + 1, _, _, hlt4, by go_num, ?_, ?_, himg4, ?_⟩
            · rw [hstep.1]; simp
            · intro l hl
              by_cases e : l = cn
              · rw [e]; exact hst
              · exact HA.out l (by omega)
            · have hb1 := (below_app hbel2 (by omega) himg2.ra (by omega) hgrow).setCell (p := ⟨w.heap.size, 5, none⟩) (Nat.le_refl _) (.slice (some ⟨g, 0, none⟩) (cn + 1) cap)
              exact (below_app hb1 (by omega) himg3.rs (by omega) hgrow2).setCell (p := ⟨w.heap.size, 6, none⟩) (Nat.le_refl _) _
          case measure => simp [intOf]; omega
      · have e : cn = iM s := by omega
        have hfin : imgOk s = decide (iAt s cn = s.size) := by
          rw [Bool.eq_iff_iff, imgOk_iff, decide_eq_true_eq, e]
          rw [e] at HA
          exact ⟨fun h => h.2.2.2.2.2, fun h => ⟨HH.out.1, HH.out.2.1, HH.out.2.2.1, HH.out.2.2.2, HA.out, h⟩⟩
        have HF : Hid (imgOk s = decide (iAt s cn = s.size)) := hfin
        have E : Hid (cn = iM s) := e
        clear hfin e
        go_wp2
        go_ret2
        refine ⟨.pointer (some ⟨w.heap.size, 0, none⟩), ?_, hbel, fun _ => ⟨rfl, va, vs, ?_⟩⟩
        · rw [HF.out]; simp
          rw [Bool.eq_iff_iff, beq_iff_eq, decide_eq_true_eq]; omega
        · rw [← E.out]; exact himg
  · have hd : belowB s (6 + iR s) 256 (bt s (5 + iR s) : Int) = false := by
      have : headD s = belowB s (6 + iR s) 256 (bt s (5 + iR s) : Int) := by unfold headD iK; congr 1; omega
      rw [← this]; simpa using hD
    have HN : Hid (imgOk s = false) := not_img_D (by simpa using hD)
    clear hA hB hC hD
    generalize hkk : bt s (5 + iR s) = k at *
    clear hkk
    go_enter Try.func47, Try.ntmps47
    go_wp2_with (first | (go_at_call 71; refine (below_any s (4 + iR s) 1 4 _ (by unfold maxLen; omega) (by omega) (by omega)).mono ?_; rintro e w ⟨rfl, rfl⟩))
    go_quiet ((go_at_call 71; exact Calls.quiet_of_same (below_any s 4 (iR s) (1 + iM s) _ (by unfold maxLen; omega) (by omega) (by omega))))
    go_wp2_with fail
    refine (below_z s (5 + iR s) 1 _ _ 255 _ (by omega) (by omega) (by omega) (by omega) rfl).mono ?_
    rintro e w ⟨rfl, rfl⟩
    go_wp2_with fail
    go_quiet ((go_at_call 71; exact Calls.quiet_of_same (below_z s (6 + iR s) 256 _ _ k _ (by omega) (by omega) (by omega) (by omega) rfl)))
    go_wp2
    go_ret2
    refine ⟨.pointer none, by rw [HN.out]; rfl, ?_, fun h => ?_⟩
    · exact below_drewN (((below_drewN ((Below.refl w.heap.size w).alloc (Nat.le_refl _) _) _).setCell (p := ⟨w.heap.size, 4, none⟩) (Nat.le_refl _) _).setCell (p := ⟨w.heap.size, 3, none⟩) (Nat.le_refl _) _) _
    · rw [HN.out] at h; cases h

/-- Parse, of whatever text of at most MaxImage bytes. -/
theorem parse_any (s : ByteArray) (w : World) (hs : s.size ≤ 120000) :
    Calls Try.prog 47 #[.string s] w fun e w' =>
      ∃ v, e = .returned (.tuple #[v, .bool (imgOk s)]) ∧ Below w.heap.size w w' ∧ (imgOk s = true → v = .pointer (some ⟨w.heap.size, 0, none⟩) ∧ ∃ va vs, ImgAt w' w.heap.size (w.heap.size + 1) s (iM s) (iM s) va vs) := by
  cases hA : headA s with
  | false =>
    refine (parse_noA s w hs hA).mono ?_
    rintro e w' ⟨rfl, rfl⟩
    rw [not_img_A hA]
    exact ⟨_, rfl, Below.refl _ _, fun h => by cases h⟩
  | true =>
    cases hB : headB s with
    | false =>
      refine (parse_noB s w hs hA hB).mono ?_
      rintro e w' ⟨rfl, hb⟩
      rw [not_img_B hB]
      exact ⟨_, rfl, hb, fun h => by cases h⟩
    | true =>
      cases hC : headC s with
      | false =>
        refine (parse_noC s w hs hA hB hC).mono ?_
        rintro e w' ⟨rfl, hb⟩
        rw [not_img_C hC]
        exact ⟨_, rfl, hb, fun h => by cases h⟩
      | true => exact parse_head s w hs hA hB hC
end Go.Proofs.Ytgjgjgihceijnaa

/- stencilref.Check: a walk. -/
namespace Go.Proofs.Ytgjgjgihceijnaa
open Go.RowKit Go.Stn

/-- What Check answers. -/
def chk (s : ByteArray) : Int := if 120000 < s.size then 1 else if imgOk s = true then 0 else 5

set_option maxHeartbeats 400000 in
theorem check_any (s : ByteArray) (w : World) (hs : s.size ≤ maxLen) :
    Calls Try.prog 40 #[.string s] w fun e w' => e = .returned (.int .i64 (chk s)) ∧ Below w.heap.size w w' := by
  unfold maxLen at hs
  by_cases hl : 120000 < s.size
  · have hc : chk s = 1 := by unfold chk; rw [if_pos hl]
    rw [hc]; clear hc
    go_enter Try.func40, Try.ntmps40
    go_wp2
    go_ret
    exact ⟨rfl, Below.refl _ _⟩
  · cases hi : imgOk s with
    | true =>
      have hc : chk s = 0 := by unfold chk; rw [if_neg hl, if_pos hi]
      rw [hc]; clear hc
      go_enter Try.func40, Try.ntmps40
      go_wp2_with (go_at_call 47; refine (parse_any s _ (by omega)).mono ?_; rintro e w1 ⟨v, rfl, hb, _⟩)
      go_ret
      exact ⟨rfl, hb⟩
    | false =>
      have hc : chk s = 5 := by unfold chk; rw [if_neg hl, if_neg (by rw [hi]; decide)]
      rw [hc]; clear hc
      go_enter Try.func40, Try.ntmps40
      go_wp2_with (go_at_call 47; refine (parse_any s _ (by omega)).mono ?_; rintro e w1 ⟨v, rfl, hb, _⟩)
      go_ret
      exact ⟨rfl, hb⟩
end Go.Proofs.Ytgjgjgihceijnaa

