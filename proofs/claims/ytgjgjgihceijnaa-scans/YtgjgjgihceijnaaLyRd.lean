/- layout's reader in memory; number: a walk. -/
import Derived.Test.YtgjgjgihceijnaaRfKit
import Derived.Test.YtgjgjgihceijnaaKit1
import Derived.Test.YtgjgjgihceijnaaLyPure
import Derived.Test.YtgjgjgihceijnaaChecked
import Derived.WalkKit
import Derived.WalkSpells
import Derived.WalkLawsBesides
import Derived.Deep.QuietTactic
import Derived.Deep.LoopGhost
import Derived.BigQuiet
namespace Go.Proofs.Ytgjgjgihceijnaa
open Go.RowKit Go.Stn

theorem hidZ {p : Prop} (h : p) : Hid p := h

/-- The reader at block rb. -/
structure LRd (w : World) (rb : Nat) (s : ByteArray) (r : LSt) : Prop where
  c0 : w.cell? ⟨rb, 0, none⟩ = some (.string s)
  c1 : w.cell? ⟨rb, 1, none⟩ = some (.int .i64 r.1)
  c2 : w.cell? ⟨rb, 2, none⟩ = some (.bool r.2)
  fz : ∀ i, w.frozen? ⟨rb, i, none⟩ = false
  hb : rb < w.heap.size

variable {w w' : World} {rb : Nat} {s : ByteArray} {r : LSt}

theorem LRd.block (h : LRd w rb s r) (he : w'.heap[rb]? = w.heap[rb]?) (hz : w.heap.size ≤ w'.heap.size) : LRd w' rb s r :=
  ⟨(World.cell?_of_block (w := w) (a := ⟨rb, 0, none⟩) he).trans h.c0, (World.cell?_of_block (w := w) (a := ⟨rb, 1, none⟩) he).trans h.c1, (World.cell?_of_block (w := w) (a := ⟨rb, 2, none⟩) he).trans h.c2,
    fun i => (World.frozen?_of_block (w := w) (a := ⟨rb, i, none⟩) he).trans (h.fz i), by have := h.hb; omega⟩
theorem LRd.drewN (h : LRd w rb s r) (q : Nat) : LRd (w.drewN q) rb s r := ⟨h.c0, h.c1, h.c2, h.fz, h.hb⟩
theorem LRd.grown {v : Option Nat} (h : LRd w rb s r) (hg : w.grownBy w' v) (hv : some rb ≠ v) : LRd w' rb s r := h.block (hg.block rb h.hb hv) hg.size
theorem LRd.below {B : Nat} (h : LRd w rb s r) (hg : Below B w w') (hv : rb < B) : LRd w' rb s r := h.block (hg.block rb hv) hg.size
theorem LRd.setBad (h : LRd w rb s r) : LRd (w.setCell ⟨rb, 2, none⟩ (.bool true)) rb s (r.1, true) := by
  have o : ∀ j u, j ≠ 2 → w.cell? ⟨rb, j, none⟩ = some u → (w.setCell ⟨rb, 2, none⟩ (.bool true)).cell? ⟨rb, j, none⟩ = some u := fun j u hj hu => by
    rw [World.cell?_setCell_other (h := by intro e; injection e; omega)]; exact hu
  exact ⟨o 0 _ (by omega) h.c0, o 1 _ (by omega) h.c1, World.cell?_setCell_same _ _ _ h.c2, fun i => by rw [World.frozen?_setCell]; exact h.fz i, by have := h.hb; simp [World.setCell]; omega⟩
theorem LRd.adv (h : LRd w rb s r) : LRd (w.setCell ⟨rb, 1, none⟩ (.int .i64 ((r.1 : Int) + 1))) rb s (r.1 + 1, r.2) := by
  have o : ∀ j u, j ≠ 1 → w.cell? ⟨rb, j, none⟩ = some u → (w.setCell ⟨rb, 1, none⟩ (.int .i64 ((r.1 : Int) + 1))).cell? ⟨rb, j, none⟩ = some u := fun j u hj hu => by
    rw [World.cell?_setCell_other (h := by intro e; injection e; omega)]; exact hu
  exact ⟨o 0 _ (by omega) h.c0, World.cell?_setCell_same _ _ _ h.c1, o 2 _ (by omega) h.c2, fun i => by rw [World.frozen?_setCell]; exact h.fz i, by have := h.hb; simp [World.setCell]; omega⟩

set_option maxRecDepth 100000 in
set_option maxHeartbeats 1000000 in
theorem lnumber_any (s : ByteArray) (r : LSt) (lo hi : Nat) (rb : Nat) (w : World) (hs : s.size ≤ 120000) (h : LRd w rb s r) (hr : r.1 ≤ s.size) :
    Calls Try.prog 85 #[.pointer (some ⟨rb, 0, none⟩), .int .i64 lo, .int .i64 hi] w fun e w' =>
      e = .returned (.int .i64 ((numP s lo hi r).1 : Int)) ∧ w.grownBy w' (some rb) ∧ LRd w' rb s (numP s lo hi r).2 := by
  have HR := hidZ h
  have c0 := h.c0
  have c1 := h.c1
  have c2 := h.c2
  have f1 := h.fz 1
  have f2 := h.fz 2
  clear h
  obtain ⟨a, b⟩ := r
  simp only at *
  by_cases he : s.size ≤ a
  · have hd : decide ((s.size : Int) ≤ (a : Int)) = true := by simp; omega
    have HE : Hid (numP s lo hi (a, b) = (lo, (a, true))) := by unfold Hid numP; rw [if_neg (by simp only; omega)]
    go_enter Try.func85, Try.ntmps85
    go_wp2
    go_quiet (fail)
    go_wp2
    go_ret
    rw [HE.out]
    exact ⟨rfl, grown_set (grown_drewN (World.grownBy.refl _ _) _) _ _, (HR.out.drewN _).setBad⟩
  · have hd : decide ((s.size : Int) ≤ (a : Int)) = false := by simp; omega
    have hbe := bt_eq s a (by omega)
    have hbl := bt_lt s a
    have hI : (0 : Int) ≤ (a : Int) ∧ (a : Int) < (s.size : Int) := by omega
    have hwb : IntKind.i64.wrap (bt s a : Int) = (bt s a : Int) := IntWalk.i64_in _ (by omega)
    by_cases h1 : bt s a < lo
    · have HE : Hid (numP s lo hi (a, b) = (lo, (a + 1, true))) := by unfold Hid numP; rw [if_pos (by simp only; omega), if_pos (.inl h1)]
      have hd1 : decide ((bt s a : Int) < (lo : Int)) = true := by simp; omega
      go_enter Try.func85, Try.ntmps85
      go_wp2
      go_quiet (fail)
      go_wp2
      go_quiet (fail)
      go_wp2
      go_ret
      rw [HE.out]
      exact ⟨rfl, grown_set (grown_set (grown_drewN (World.grownBy.refl _ _) _) _ _) _ _, ((HR.out.drewN _).adv).setBad⟩
    · have hd1 : decide ((bt s a : Int) < (lo : Int)) = false := by simp; omega
      by_cases h2 : hi < bt s a
      · have HE : Hid (numP s lo hi (a, b) = (lo, (a + 1, true))) := by unfold Hid numP; rw [if_pos (by simp only; omega), if_pos (.inr h2)]
        have hd2 : decide ((hi : Int) < (bt s a : Int)) = true := by simp; omega
        go_enter Try.func85, Try.ntmps85
        go_wp2
        go_quiet (fail)
        go_wp2
        go_quiet (fail)
        go_wp2
        go_ret
        rw [HE.out]
        exact ⟨rfl, grown_set (grown_set (grown_drewN (World.grownBy.refl _ _) _) _ _) _ _, ((HR.out.drewN _).adv).setBad⟩
      · have HE : Hid (numP s lo hi (a, b) = (bt s a, (a + 1, b))) := by unfold Hid numP; rw [if_pos (by simp only; omega), if_neg (by simp only; omega)]
        have hd2 : decide ((hi : Int) < (bt s a : Int)) = false := by simp; omega
        go_enter Try.func85, Try.ntmps85
        go_wp2
        go_quiet (fail)
        go_wp2
        go_quiet (fail)
        go_wp2
        go_ret
        rw [HE.out]
        exact ⟨rfl, grown_set (grown_drewN (World.grownBy.refl _ _) _) _ _, (HR.out.drewN _).adv⟩
end Go.Proofs.Ytgjgjgihceijnaa
