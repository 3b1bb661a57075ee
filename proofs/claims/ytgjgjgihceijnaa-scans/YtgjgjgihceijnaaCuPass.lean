/- (*cut.progress).pass: a walk. -/
import Derived.Test.YtgjgjgihceijnaaCuTell
namespace Go.Proofs.Ytgjgjgihceijnaa
open Go.RowKit Go.Stn

set_option maxRecDepth 100000 in
set_option maxHeartbeats 1000000 in
theorem cpass_any (s inp : ByteArray) (cb bb vg vcap : Nat) (yb : Nat → Nat) (zb : Nat → Nat → Nat) (vt : Value) (hg hcap : Nat) (hbk : Nat → Nat) (HT : Nat → Nat → Bool) (c p n : Nat) (T : List (Int × Int × Int)) (r q : Nat) (w : World)
    (hi : imgOk s = true) (hr : r < iR s) (hT : T.length ≤ 100000) (h : CW w cb w.heap.size s inp bb vg vcap yb zb vt hg hcap hbk HT c p n T) :
    Calls Try.prog 70 #[.pointer (some ⟨cb, 0, none⟩), .int .i64 r, .int .i64 q] w fun e w' => e = .returned (.tuple #[]) ∧ Below cb w w' ∧
      ∃ vt', CW w' cb w'.heap.size s inp bb vg vcap yb zb vt' hg hcap hbk HT (if 1 < thenB s r then thenB s r - 2 else c) q n (if thenB s r = 1 then T else T ++ [((r : Int), (p : Int), (q : Int))]) := by
  have HC := hidZ h
  have k0 := h.im 0 _ (imgC_0 _ _ _)
  have m0 := h.mem.be r hr
  have hle := then_le hi hr
  have hM := (img_head hi).2.2.2.1
  obtain ⟨R, ER⟩ : ∃ R, iR s = R := ⟨_, rfl⟩
  rw [ER] at k0 hr
  obtain ⟨b, EB⟩ : ∃ b, thenB s r = b := ⟨_, rfl⟩
  rw [EB] at m0 hle ⊢
  have hbl : b ≤ 5 := by omega
  have hrI : (0 : Int) ≤ (r : Int) ∧ (r : Int) < (R : Int) := by omega
  have hb0 := h.b0
  replace ER := hidZ ER
  replace EB := hidZ EB
  clear h hi hle hM
  rcases (show b = 1 ∨ b = 0 ∨ 2 ≤ b by omega) with hb | hb | hb
  · have hd1 : ((b : Int) != 1) = false := by rw [hb]; rfl
    have hd2 : decide ((2 : Int) ≤ (b : Int)) = false := by simp; omega
    rw [if_neg (show ¬ 1 < b by omega), if_pos hb]
    clear hb
    have q3 := HC.out.k3
    have f3 := HC.out.fz 260
    go_enter Try.func70, Try.ntmps70
    go_wp2
    go_end0
    exact ⟨rfl, (Below.refl _ _).setCell (p := ⟨cb, 260, none⟩) (Nat.le_refl _) _, vt, (HC.out.setP q).raise⟩
  · have hd1 : ((b : Int) != 1) = true := by rw [hb]; rfl
    have hd2 : decide ((2 : Int) ≤ (b : Int)) = false := by simp; omega
    rw [if_neg (show ¬ 1 < b by omega), if_neg (show ¬ b = 1 by omega)]
    clear hb
    go_enter Try.func70, Try.ntmps70
    go_wp2_with fail
    refine (ctell_any s inp cb bb vg vcap yb zb vt hg hcap hbk HT c p n T (r : Int) (q : Int) _ hT HC.out).mono ?_
    rintro e w1 ⟨rfl, hb1, vt1, hc1⟩
    have HC1 := hidZ hc1
    have HB1 := hidZ hb1
    have q3 := hc1.k3
    have f3 := hc1.fz 260
    clear hc1 hb1 k0 m0
    go_wp2
    go_end0
    exact ⟨rfl, HB1.out.setCell (p := ⟨cb, 260, none⟩) (Nat.le_refl _) _, vt1, (HC1.out.setP q).raise⟩
  · have hd1 : ((b : Int) != 1) = true := by rw [bne_iff_ne]; omega
    have hd2 : decide ((2 : Int) ≤ (b : Int)) = true := by simp; omega
    rw [if_pos (show 1 < b by omega), if_neg (show ¬ b = 1 by omega)]
    obtain ⟨c', hc'⟩ : ∃ c' : Nat, b - 2 = c' := ⟨_, rfl⟩
    have hbc : (b : Int) - 2 = (c' : Int) := by omega
    rw [hc']
    clear hc'
    go_enter Try.func70, Try.ntmps70
    go_wp2_with fail
    refine (ctell_any s inp cb bb vg vcap yb zb vt hg hcap hbk HT c p n T (r : Int) (q : Int) _ hT HC.out).mono ?_
    rintro e w1 ⟨rfl, hb1, vt1, hc1⟩
    have HC1 := hidZ hc1
    have HB1 := hidZ hb1
    have q2 := hc1.k2
    have f2 := hc1.fz 259
    have q3 := (hc1.setC c').k3
    have f3 := (hc1.setC c').fz 260
    clear hc1 hb1 k0 m0
    go_wp2
    go_end0
    exact ⟨rfl, (HB1.out.setCell (p := ⟨cb, 259, none⟩) (Nat.le_refl _) _).setCell (p := ⟨cb, 260, none⟩) (Nat.le_refl _) _, vt1, ((HC1.out.setC c').setP q).raise⟩
end Go.Proofs.Ytgjgjgihceijnaa
