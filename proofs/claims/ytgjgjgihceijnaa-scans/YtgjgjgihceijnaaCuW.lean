/- A cutter of package cut in memory; what each kind of step leaves of it. -/
import Derived.Test.YtgjgjgihceijnaaCuMem
import Derived.Test.YtgjgjgihceijnaaScHope
import Derived.Test.YtgjgjgihceijnaaScCut
namespace Go.Proofs.Ytgjgjgihceijnaa
open Go.RowKit Go.Stn

structure CW (w : World) (cb top : Nat) (s inp : ByteArray) (bb vg vcap : Nat) (yb : Nat → Nat) (zb : Nat → Nat → Nat) (vt : Value) (hg hcap : Nat) (hbk : Nat → Nat) (HT : Nat → Nat → Bool) (c p n : Nat) (T : List (Int × Int × Int)) : Prop where
  mem : IM w s bb vg yb zb cb
  im : w.rangeAt cb 0 (imgC (.slice (some ⟨bb, 0, none⟩) (iR s) (iR s)) (lClassOf s) (.slice (some ⟨vg, 0, none⟩) (iM s) vcap))
  k1 : w.cell? ⟨cb, 258, none⟩ = some (.string inp)
  k2 : w.cell? ⟨cb, 259, none⟩ = some (.int .i64 c)
  k3 : w.cell? ⟨cb, 260, none⟩ = some (.int .i64 p)
  k4 : w.cell? ⟨cb, 261, none⟩ = some (.int .i64 n)
  k5 : w.cell? ⟨cb, 262, none⟩ = some vt
  k6 : w.cell? ⟨cb, 263, none⟩ = some (.slice (some ⟨hg, 0, none⟩) (iM s) hcap)
  fz : ∀ i, w.frozen? ⟨cb, i, none⟩ = false
  rt : w.ownsRow (cb + 1) 61 3 vt T.length (cells3 T)
  hl : ∀ j, j < iM s → w.cell? ⟨hg, j, none⟩ = some (.slice (some ⟨hbk j, 0, none⟩) (nSt s j * inp.size) (nSt s j * inp.size))
  tb : ∀ j k, j < iM s → k < nSt s j * inp.size → w.cell? ⟨hbk j, k, none⟩ = some (.bool (HT j k)) ∧ w.frozen? ⟨hbk j, k, none⟩ = false
  b0 : cb < top
  b1 : cb < hg ∧ hg < top
  b2 : ∀ j, j < iM s → cb < hbk j ∧ hbk j < top ∧ hbk j ≠ hg
  bi : ∀ i j, i < iM s → j < iM s → hbk i = hbk j → i = j
  bv : ∀ k, vt.ownBlock = some k → k < top ∧ k ≠ hg ∧ ∀ j, j < iM s → k ≠ hbk j
  hz : top ≤ w.heap.size

variable {w w' : World} {cb top : Nat} {s inp : ByteArray} {bb vg vcap : Nat} {yb : Nat → Nat} {zb : Nat → Nat → Nat} {vt : Value} {hg hcap : Nat} {hbk : Nat → Nat} {HT : Nat → Nat → Bool} {c p n : Nat} {T : List (Int × Int × Int)}

theorem row_top {base : Nat} {e : TypeId} {size : Nat} {v : Value} {m : Nat} {xs : List Value} (hr : w.ownsRow base e size v m xs) (hB : ∀ k, v.ownBlock = some k → w'.heap[k]? = w.heap[k]?) : w'.ownsRow base e size v m xs := by
  refine ⟨hr.1, ?_⟩
  rcases hr.2 with hn | ⟨g, cap, cur, rfl, hbg, hg, rest⟩
  · exact .inl hn
  · exact .inr ⟨g, cap, cur, rfl, hbg, (hB g rfl).trans hg, rest⟩

theorem CW.below (h : CW w cb top s inp bb vg vcap yb zb vt hg hcap hbk HT c p n T) (hB : Below top w w') : CW w' cb top s inp bb vg vcap yb zb vt hg hcap hbk HT c p n T := by
  have b0 := h.b0
  have cl : ∀ i, w'.cell? ⟨cb, i, none⟩ = w.cell? ⟨cb, i, none⟩ := fun i => hB.cell (p := ⟨cb, i, none⟩) b0
  exact ⟨h.mem.below hB (by omega), fun j v hv => (cl (0 + j)).trans (h.im j v hv), (cl _).trans h.k1, (cl _).trans h.k2, (cl _).trans h.k3, (cl _).trans h.k4, (cl _).trans h.k5, (cl _).trans h.k6,
    fun i => (hB.frozen (p := ⟨cb, i, none⟩) b0).trans (h.fz i), row_top h.rt (fun k hk => hB.block k (h.bv k hk).1), fun j hj => (hB.cell (p := ⟨hg, j, none⟩) h.b1.2).trans (h.hl j hj),
    fun j k hj hk => ⟨(hB.cell (p := ⟨hbk j, k, none⟩) (h.b2 j hj).2.1).trans (h.tb j k hj hk).1, (hB.frozen (p := ⟨hbk j, k, none⟩) (h.b2 j hj).2.1).trans (h.tb j k hj hk).2⟩,
    h.b0, h.b1, h.b2, h.bi, h.bv, Nat.le_trans h.hz hB.size⟩
theorem CW.drewN (h : CW w cb top s inp bb vg vcap yb zb vt hg hcap hbk HT c p n T) (q : Nat) : CW (w.drewN q) cb top s inp bb vg vcap yb zb vt hg hcap hbk HT c p n T :=
  ⟨h.mem.drewN q, h.im, h.k1, h.k2, h.k3, h.k4, h.k5, h.k6, h.fz, h.rt, h.hl, h.tb, h.b0, h.b1, h.b2, h.bi, h.bv, h.hz⟩
theorem CW.raise (h : CW w cb top s inp bb vg vcap yb zb vt hg hcap hbk HT c p n T) : CW w cb w.heap.size s inp bb vg vcap yb zb vt hg hcap hbk HT c p n T := by
  have hz := h.hz
  have b0 := h.b0
  have b1 := h.b1
  exact ⟨h.mem, h.im, h.k1, h.k2, h.k3, h.k4, h.k5, h.k6, h.fz, h.rt, h.hl, h.tb, by omega, by omega, fun j hj => by have := h.b2 j hj; exact ⟨this.1, by omega, this.2.2⟩, h.bi, fun k hk => by have := h.bv k hk; exact ⟨by omega, this.2⟩, Nat.le_refl _⟩

theorem below_cell {B b i : Nat} {v : Value} (h : B ≤ b) : Below B w (w.setCell ⟨b, i, none⟩ v) := (Below.refl _ _).setCell (p := ⟨b, i, none⟩) h v

/-- A cell of the cutter's own is set, none of the image's. -/
theorem CW.setOwn (h : CW w cb top s inp bb vg vcap yb zb vt hg hcap hbk HT c p n T) (i : Nat) (v : Value) (hi : 258 ≤ i) :
    (∀ j u, j ≠ i → w.cell? ⟨cb, j, none⟩ = some u → (w.setCell ⟨cb, i, none⟩ v).cell? ⟨cb, j, none⟩ = some u) ∧
    IM (w.setCell ⟨cb, i, none⟩ v) s bb vg yb zb cb ∧ (w.setCell ⟨cb, i, none⟩ v).rangeAt cb 0 (imgC (.slice (some ⟨bb, 0, none⟩) (iR s) (iR s)) (lClassOf s) (.slice (some ⟨vg, 0, none⟩) (iM s) vcap)) ∧
    (∀ i', (w.setCell ⟨cb, i, none⟩ v).frozen? ⟨cb, i', none⟩ = false) ∧ (w.setCell ⟨cb, i, none⟩ v).ownsRow (cb + 1) 61 3 vt T.length (cells3 T) ∧
    (∀ j, j < iM s → (w.setCell ⟨cb, i, none⟩ v).cell? ⟨hg, j, none⟩ = some (.slice (some ⟨hbk j, 0, none⟩) (nSt s j * inp.size) (nSt s j * inp.size))) ∧
    (∀ j k, j < iM s → k < nSt s j * inp.size → (w.setCell ⟨cb, i, none⟩ v).cell? ⟨hbk j, k, none⟩ = some (.bool (HT j k)) ∧ (w.setCell ⟨cb, i, none⟩ v).frozen? ⟨hbk j, k, none⟩ = false) ∧
    top ≤ (w.setCell ⟨cb, i, none⟩ v).heap.size := by
  have o : ∀ j u, j ≠ i → w.cell? ⟨cb, j, none⟩ = some u → (w.setCell ⟨cb, i, none⟩ v).cell? ⟨cb, j, none⟩ = some u := fun j u hj hu => by
    rw [World.cell?_setCell_other (h := by intro e; injection e; omega)]; exact hu
  have hlen : ∀ j u, (imgC (.slice (some ⟨bb, 0, none⟩) (iR s) (iR s)) (lClassOf s) (.slice (some ⟨vg, 0, none⟩) (iM s) vcap))[j]? = some u → j < 258 := fun j u hu => by
    have := (List.getElem?_eq_some_iff.1 hu).1
    rw [imgC_len _ _ _ (by unfold lClassOf; rw [numsP_len]; rfl)] at this; exact this
  refine ⟨o, h.mem.below (below_cell (Nat.le_refl _)) (Nat.le_refl _), fun j u hu => o _ _ (by have := hlen j u hu; omega) (h.im j u hu), fun i' => by rw [World.frozen?_setCell]; exact h.fz i',
    ownsRow_setCell_below h.rt (Nat.lt_succ_self _) _, fun j hj => ?_, fun j k hj hk => ⟨?_, by rw [World.frozen?_setCell]; exact (h.tb j k hj hk).2⟩, by have := h.hz; simp [World.setCell]; omega⟩
  · rw [World.cell?_setCell_other (h := by intro e; injection e; have := h.b1; omega)]; exact h.hl j hj
  · rw [World.cell?_setCell_other (h := by intro e; injection e; have := h.b2 j hj; omega)]; exact (h.tb j k hj hk).1

theorem CW.stepN (h : CW w cb top s inp bb vg vcap yb zb vt hg hcap hbk HT c p n T) : CW (w.setCell ⟨cb, 261, none⟩ (.int .i64 ((n : Int) + 1))) cb top s inp bb vg vcap yb zb vt hg hcap hbk HT c p (n + 1) T := by
  obtain ⟨o, a1, a2, a3, a4, a5, a6, a7⟩ := h.setOwn 261 (.int .i64 ((n : Int) + 1)) (by omega)
  exact ⟨a1, a2, o _ _ (by omega) h.k1, o _ _ (by omega) h.k2, o _ _ (by omega) h.k3, World.cell?_setCell_same _ _ _ h.k4, o _ _ (by omega) h.k5, o _ _ (by omega) h.k6, a3, a4, a5, a6, h.b0, h.b1, h.b2, h.bi, h.bv, a7⟩
theorem CW.setC (h : CW w cb top s inp bb vg vcap yb zb vt hg hcap hbk HT c p n T) (c' : Nat) : CW (w.setCell ⟨cb, 259, none⟩ (.int .i64 (c' : Int))) cb top s inp bb vg vcap yb zb vt hg hcap hbk HT c' p n T := by
  obtain ⟨o, a1, a2, a3, a4, a5, a6, a7⟩ := h.setOwn 259 (.int .i64 (c' : Int)) (by omega)
  exact ⟨a1, a2, o _ _ (by omega) h.k1, World.cell?_setCell_same _ _ _ h.k2, o _ _ (by omega) h.k3, o _ _ (by omega) h.k4, o _ _ (by omega) h.k5, o _ _ (by omega) h.k6, a3, a4, a5, a6, h.b0, h.b1, h.b2, h.bi, h.bv, a7⟩
theorem CW.setP (h : CW w cb top s inp bb vg vcap yb zb vt hg hcap hbk HT c p n T) (p' : Nat) : CW (w.setCell ⟨cb, 260, none⟩ (.int .i64 (p' : Int))) cb top s inp bb vg vcap yb zb vt hg hcap hbk HT c p' n T := by
  obtain ⟨o, a1, a2, a3, a4, a5, a6, a7⟩ := h.setOwn 260 (.int .i64 (p' : Int)) (by omega)
  exact ⟨a1, a2, o _ _ (by omega) h.k1, o _ _ (by omega) h.k2, World.cell?_setCell_same _ _ _ h.k3, o _ _ (by omega) h.k4, o _ _ (by omega) h.k5, o _ _ (by omega) h.k6, a3, a4, a5, a6, h.b0, h.b1, h.b2, h.bi, h.bv, a7⟩

/-- One stand is marked. -/
theorem CW.mark (h : CW w cb top s inp bb vg vcap yb zb vt hg hcap hbk HT c p n T) {i k : Nat} (hi : i < iM s) (hk : k < nSt s i * inp.size) :
    CW (w.setCell ⟨hbk i, k, none⟩ (.bool true)) cb top s inp bb vg vcap yb zb vt hg hcap hbk (fun j m => if j = i ∧ m = k then true else HT j m) c p n T := by
  have b2 := h.b2 i hi
  have o : ∀ b j u, b ≠ hbk i → w.cell? ⟨b, j, none⟩ = some u → (w.setCell ⟨hbk i, k, none⟩ (.bool true)).cell? ⟨b, j, none⟩ = some u := fun b j u hj hu => by
    rw [World.cell?_setCell_other (h := by intro e; injection e; omega)]; exact hu
  refine ⟨h.mem.below (below_cell (by omega)) (Nat.le_refl _), fun j u hu => o _ _ _ (by omega) (h.im j u hu), o _ _ _ (by omega) h.k1, o _ _ _ (by omega) h.k2, o _ _ _ (by omega) h.k3, o _ _ _ (by omega) h.k4, o _ _ _ (by omega) h.k5, o _ _ _ (by omega) h.k6,
    fun i' => by rw [World.frozen?_setCell]; exact h.fz i', row_top h.rt (fun q hq => Below.heap_setCell _ _ _ _ (by have := (h.bv q hq).2.2 i hi; exact this)), fun j hj => o _ _ _ (by omega) (h.hl j hj), fun j m hj hm => ⟨?_, by rw [World.frozen?_setCell]; exact (h.tb j m hj hm).2⟩,
    h.b0, h.b1, h.b2, h.bi, h.bv, by have := h.hz; simp [World.setCell]; omega⟩
  by_cases e : j = i
  · subst e
    by_cases e2 : m = k
    · subst e2
      rw [if_pos ⟨rfl, rfl⟩]; exact World.cell?_setCell_same _ _ _ (h.tb j m hj hm).1
    · rw [if_neg (fun q => e2 q.2), World.cell?_setCell_other (h := by intro e'; injection e'; omega)]; exact (h.tb j m hj hm).1
  · rw [if_neg (fun q => e q.1)]
    exact o _ _ _ (fun q => e (h.bi j i hj hi q)) (h.tb j m hj hm).1
end Go.Proofs.Ytgjgjgihceijnaa
