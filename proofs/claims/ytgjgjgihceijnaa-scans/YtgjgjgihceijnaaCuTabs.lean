/- A new cutter of package cut: its tables are made one by one. -/
import Derived.Test.YtgjgjgihceijnaaCuNew
namespace Go.Proofs.Ytgjgjgihceijnaa
open Go.RowKit Go.Stn

def hopL (s inp : ByteArray) (hbk : Nat → Nat) (m : Nat) : List Value := (List.range m).map fun j => Value.slice (some ⟨hbk j, 0, none⟩) (nSt s j * inp.size) (nSt s j * inp.size)

structure CW0 (w : World) (cb : Nat) (s inp : ByteArray) (bb vg vcap : Nat) (yb : Nat → Nat) (zb : Nat → Nat → Nat) (vh : Value) (hbk : Nat → Nat) (c0 m : Nat) : Prop where
  mem : IM w s bb vg yb zb cb
  im : w.rangeAt cb 0 (imgC (.slice (some ⟨bb, 0, none⟩) (iR s) (iR s)) (lClassOf s) (.slice (some ⟨vg, 0, none⟩) (iM s) vcap))
  k1 : w.cell? ⟨cb, 258, none⟩ = some (.string inp)
  k2 : w.cell? ⟨cb, 259, none⟩ = some (.int .i64 c0)
  k3 : w.cell? ⟨cb, 260, none⟩ = some (.int .i64 0)
  k4 : w.cell? ⟨cb, 261, none⟩ = some (.int .i64 0)
  k5 : w.cell? ⟨cb, 262, none⟩ = some (.slice none 0 0)
  k6 : w.cell? ⟨cb, 263, none⟩ = some vh
  fz : ∀ i, w.frozen? ⟨cb, i, none⟩ = false
  rh : w.ownsRow (cb + 1) 94 1 vh m (hopL s inp hbk m)
  tb : ∀ j k, j < m → k < nSt s j * inp.size → w.cell? ⟨hbk j, k, none⟩ = some (.bool false) ∧ w.frozen? ⟨hbk j, k, none⟩ = false
  hb : cb < w.heap.size
  b2 : ∀ j, j < m → cb < hbk j ∧ hbk j < w.heap.size ∧ vh.ownBlock ≠ some (hbk j)
  bi : ∀ i j, i < m → j < m → hbk i = hbk j → i = j

variable {w w' : World} {cb : Nat} {s inp : ByteArray} {bb vg vcap : Nat} {yb : Nat → Nat} {zb : Nat → Nat → Nat} {vh : Value} {hbk : Nat → Nat} {c0 m : Nat}

theorem made_get (n k : Nat) (h : k < n) : (madeCells #[Value.bool false] n)[k]? = some (.bool false) := by
  unfold madeCells
  rw [Array.getElem?_map, Array.getElem?_range, if_pos h]
  simp [Nat.mod_one]

theorem CW0.more (h : CW0 w cb s inp bb vg vcap yb zb vh hbk c0 m) {e1 : TypeId} {o : Obj} {w4 : World} {NL g cap : Nat} (hNL : nSt s m * inp.size = NL)
    (hown : w4.ownsRow (cb + 1) 94 1 (.slice (some ⟨g, 0, none⟩) (m + 1) cap) (m + 1) (hopL s inp hbk m ++ [.slice (some ⟨w.heap.size, 0, none⟩) NL NL]))
    (hgrow : ((w.alloc (.cells (madeCells #[.bool false] NL) e1)).alloc o).grownBy w4 vh.ownBlock) (hat : vh.ownBlock = some g ∨ g = w.heap.size + 2) :
    CW0 (w4.setCell ⟨cb, 263, none⟩ (.slice (some ⟨g, 0, none⟩) (m + 1) cap)) cb s inp bb vg vcap yb zb (.slice (some ⟨g, 0, none⟩) (m + 1) cap) (fun j => if j = m then w.heap.size else hbk j) c0 (m + 1) := by
  have b0 := h.hb
  have hsz := hgrow.size
  simp at hsz
  have hvl : ∀ k, vh.ownBlock = some k → cb < k ∧ k < w.heap.size := fun k hk => by have := h.rh.lt k hk; omega
  have blk : ∀ k, k < w.heap.size → vh.ownBlock ≠ some k → w4.heap[k]? = w.heap[k]? := fun k hk hv => ((hgrow.block k (by simp; omega) (fun e => hv e.symm)).trans (Below.heap_alloc _ o k (by simp; omega))).trans (Below.heap_alloc w _ k hk)
  have blkN : w4.heap[w.heap.size]? = some (.cells (madeCells #[.bool false] NL) e1 (0, 0)) := ((hgrow.block _ (by simp; omega) (fun e => by have := hvl _ e.symm; omega)).trans (Below.heap_alloc _ o _ (by simp))).trans (heap_alloc_new w _)
  have ncb : vh.ownBlock ≠ some cb := fun e => by have := hvl cb e; omega
  have bel : Below cb w w4 := ⟨hgrow.os, hgrow.tape, hgrow.output, by omega, fun k hk => blk k (by omega) (fun e => by have := hvl k e; omega)⟩
  have cc : ∀ i, w4.cell? ⟨cb, i, none⟩ = w.cell? ⟨cb, i, none⟩ := fun i => World.cell?_of_block (w := w) (a := ⟨cb, i, none⟩) (blk cb b0 ncb)
  have cf : ∀ i, w4.frozen? ⟨cb, i, none⟩ = w.frozen? ⟨cb, i, none⟩ := fun i => World.frozen?_of_block (w := w) (a := ⟨cb, i, none⟩) (blk cb b0 ncb)
  have hlen : ∀ j u, (imgC (.slice (some ⟨bb, 0, none⟩) (iR s) (iR s)) (lClassOf s) (.slice (some ⟨vg, 0, none⟩) (iM s) vcap))[j]? = some u → j < 258 := fun j u hu => by
    have := (List.getElem?_eq_some_iff.1 hu).1
    rw [imgC_len _ _ _ (by unfold lClassOf; rw [numsP_len]; rfl)] at this; exact this
  have oc : ∀ j u, j ≠ 263 → w.cell? ⟨cb, j, none⟩ = some u → (w4.setCell ⟨cb, 263, none⟩ (.slice (some ⟨g, 0, none⟩) (m + 1) cap)).cell? ⟨cb, j, none⟩ = some u := fun j u hj hu => by
    rw [World.cell?_setCell_other (h := by intro e; injection e; omega), cc]; exact hu
  have hg2 : ∀ k, k < w.heap.size → vh.ownBlock ≠ some k → (Value.slice (some ⟨g, 0, none⟩) (m + 1) cap).ownBlock ≠ some k := fun k hk hv e => by
    have e' : g = k := by simpa [Value.ownBlock] using e
    subst e'
    rcases hat with h1 | h1
    · exact hv h1
    · omega
  refine ⟨(h.mem.below bel (Nat.le_refl _)).below (below_cell (Nat.le_refl _)) (Nat.le_refl _), fun j u hu => oc _ _ (by have := hlen j u hu; omega) (h.im j u hu), oc _ _ (by omega) h.k1, oc _ _ (by omega) h.k2, oc _ _ (by omega) h.k3, oc _ _ (by omega) h.k4, oc _ _ (by omega) h.k5,
    World.cell?_setCell_same (u := vh) _ _ _ ((cc 263).trans h.k6), fun i => by rw [World.frozen?_setCell, cf]; exact h.fz i, ?_, fun j k hj hk => ?_, by simp [World.setCell]; omega, fun j hj => ?_, fun i j hi hj he => ?_⟩
  · have e : hopL s inp (fun j => if j = m then w.heap.size else hbk j) (m + 1) = hopL s inp hbk m ++ [.slice (some ⟨w.heap.size, 0, none⟩) NL NL] := by
      unfold hopL
      rw [List.range_succ, List.map_append, List.map_singleton]
      congr 1
      · refine List.map_congr_left (fun j hj => ?_)
        simp only
        rw [if_neg (by have := List.mem_range.1 hj; omega)]
      · simp only [if_pos]; rw [hNL]
    rw [e]; exact ownsRow_setCell_below hown (Nat.lt_succ_self _) _
  · by_cases e : j = m
    · subst e
      rw [if_pos rfl]
      rw [hNL] at hk
      refine ⟨?_, ?_⟩
      · rw [World.cell?_setCell_other (h := by intro e; injection e; omega)]
        unfold World.cell?
        simp only [blkN]
        exact made_get NL k hk
      · rw [World.frozen?_setCell]
        unfold World.frozen?
        simp only [blkN]
        simp
    · rw [if_neg e]
      have hj' : j < m := by omega
      have b := h.b2 j hj'
      have bq := blk _ b.2.1 b.2.2
      refine ⟨?_, ?_⟩
      · rw [World.cell?_setCell_other (h := by intro e; injection e; omega), World.cell?_of_block (w := w) (a := ⟨hbk j, k, none⟩) bq]; exact (h.tb j k hj' hk).1
      · rw [World.frozen?_setCell, World.frozen?_of_block (w := w) (a := ⟨hbk j, k, none⟩) bq]; exact (h.tb j k hj' hk).2
  · by_cases e : j = m
    · subst e
      simp only [if_pos]
      refine ⟨b0, by simp [World.setCell]; omega, fun e' => ?_⟩
      have e2 : g = w.heap.size := by simpa [Value.ownBlock] using e'
      rcases hat with h1 | h1
      · have := hvl g h1; omega
      · omega
    · simp only [if_neg e]
      have b := h.b2 j (by omega)
      exact ⟨b.1, by simp [World.setCell]; omega, hg2 _ b.2.1 b.2.2⟩
  · by_cases e1 : i = m
    · by_cases e2 : j = m
      · omega
      · simp only [if_pos e1, if_neg e2] at he
        have := (h.b2 j (by omega)).2.1; omega
    · by_cases e2 : j = m
      · simp only [if_neg e1, if_pos e2] at he
        have := (h.b2 i (by omega)).2.1; omega
      · simp only [if_neg e1, if_neg e2] at he
        exact h.bi i j (by omega) (by omega) he

theorem CW0.drew (h : CW0 w cb s inp bb vg vcap yb zb vh hbk c0 m) : CW0 w.drew cb s inp bb vg vcap yb zb vh hbk c0 m := ⟨h.mem.drewN 1, h.im, h.k1, h.k2, h.k3, h.k4, h.k5, h.k6, h.fz, h.rh, h.tb, h.hb, h.b2, h.bi⟩

/-- All tables are made. -/
theorem CW0.done (h : CW0 w cb s inp bb vg vcap yb zb vh hbk c0 (iM s)) (hM : 1 ≤ iM s) : ∃ hg hcap, CW w cb w.heap.size s inp bb vg vcap yb zb (.slice none 0 0) hg hcap hbk (fun _ _ => false) c0 0 0 [] := by
  have hlt := h.rh.lt
  have hrh := h.rh
  obtain ⟨g, cap, hv, hbg, hgl⟩ := h.rh.form (by omega)
  have hk6 := h.k6
  have hb2 := h.b2
  rw [hv] at hlt hrh hk6 hb2
  refine ⟨g, cap, h.mem, h.im, h.k1, h.k2, h.k3, h.k4, h.k5, hk6, h.fz, World.ownsRow_nil _ _ _ _, fun j hj => ?_, h.tb, h.hb, ?_, fun j hj => ?_, h.bi, fun k hk => ?_, Nat.le_refl _⟩
  · have := row_range hrh j (.slice (some ⟨hbk j, 0, none⟩) (nSt s j * inp.size) (nSt s j * inp.size)) (by unfold hopL; rw [List.getElem?_map, List.getElem?_range hj]; rfl)
    rw [Nat.zero_add] at this; exact this
  · have := hlt g rfl; omega
  · have b := hb2 j hj
    refine ⟨b.1, b.2.1, fun e => b.2.2 ?_⟩
    rw [e]; rfl
  · cases hk
theorem hope_nil (s inp : ByteArray) : hopeOk s inp [] (fun _ _ => false) := fun _ _ _ _ _ _ => by simp [memB]
end Go.Proofs.Ytgjgjgihceijnaa
