/- (*cut.progress).tell: a walk. -/
import Derived.Test.YtgjgjgihceijnaaCuLook
import Derived.Deep.RegionLaw
namespace Go.Proofs.Ytgjgjgihceijnaa
open Go.RowKit Go.Stn

theorem Try.infoToken : (Try.prog.info? 61).map (fun i => (i.zero, i.size, i.bytes)) = some (some (.agg #[.int .i64 0, .int .i64 0, .int .i64 0]), 3, 24) := by kernel_rfl

variable {w w' : World} {cb top : Nat} {s inp : ByteArray} {bb vg vcap : Nat} {yb : Nat → Nat} {zb : Nat → Nat → Nat} {vt : Value} {hg hcap : Nat} {hbk : Nat → Nat} {HT : Nat → Nat → Bool} {c p n : Nat} {T : List (Int × Int × Int)}

/-- A token more: an append, and the store. -/
theorem CW.told {W w4 : World} (h : CW W cb W.heap.size s inp bb vg vcap yb zb vt hg hcap hbk HT c p n T) {o : Obj} {x : Int × Int × Int} {g cap : Nat}
    (hown : w4.ownsRow (cb + 1) 61 3 (.slice (some ⟨g, 0, none⟩) (T.length + 1) cap) (T.length + 1) (cells3 T ++ [.int .i64 x.1, .int .i64 x.2.1, .int .i64 x.2.2]))
    (hgrow : (W.alloc o).grownBy w4 vt.ownBlock) (hat : vt.ownBlock = some g ∨ g = W.heap.size + 1) (hgl : g < w4.heap.size) :
    CW (w4.setCell ⟨cb, 262, none⟩ (.slice (some ⟨g, 0, none⟩) (T.length + 1) cap)) cb w4.heap.size s inp bb vg vcap yb zb (.slice (some ⟨g, 0, none⟩) (T.length + 1) cap) hg hcap hbk HT c p n (T ++ [x]) := by
  have b0 := h.b0
  have b1 := h.b1
  have hsz := hgrow.size
  simp at hsz
  have blk : ∀ k, k < W.heap.size → vt.ownBlock ≠ some k → w4.heap[k]? = W.heap[k]? := fun k hk hv => (hgrow.block k (by simp; omega) (fun e => hv e.symm)).trans (Below.heap_alloc W o k hk)
  have ncb : vt.ownBlock ≠ some cb := fun e => by have := (h.rt.lt cb e).1; omega
  have nlo : ∀ k, k < cb → vt.ownBlock ≠ some k := fun k hk e => by have := (h.rt.lt k e).1; omega
  have nhg : vt.ownBlock ≠ some hg := fun e => (h.bv hg e).2.1 rfl
  have nhb : ∀ j, j < iM s → vt.ownBlock ≠ some (hbk j) := fun j hj e => (h.bv _ e).2.2 j hj rfl
  have bel : Below cb W w4 := ⟨hgrow.os, hgrow.tape, hgrow.output, by omega, fun k hk => blk k (by omega) (nlo k hk)⟩
  have cc : ∀ i, w4.cell? ⟨cb, i, none⟩ = W.cell? ⟨cb, i, none⟩ := fun i => World.cell?_of_block (w := W) (a := ⟨cb, i, none⟩) (blk cb b0 ncb)
  have cf : ∀ i, w4.frozen? ⟨cb, i, none⟩ = W.frozen? ⟨cb, i, none⟩ := fun i => World.frozen?_of_block (w := W) (a := ⟨cb, i, none⟩) (blk cb b0 ncb)
  have ch : ∀ i, w4.cell? ⟨hg, i, none⟩ = W.cell? ⟨hg, i, none⟩ := fun i => World.cell?_of_block (w := W) (a := ⟨hg, i, none⟩) (blk hg b1.2 nhg)
  have ct : ∀ j i, j < iM s → w4.cell? ⟨hbk j, i, none⟩ = W.cell? ⟨hbk j, i, none⟩ := fun j i hj => World.cell?_of_block (w := W) (a := ⟨hbk j, i, none⟩) (blk _ (h.b2 j hj).2.1 (nhb j hj))
  have ctf : ∀ j i, j < iM s → w4.frozen? ⟨hbk j, i, none⟩ = W.frozen? ⟨hbk j, i, none⟩ := fun j i hj => World.frozen?_of_block (w := W) (a := ⟨hbk j, i, none⟩) (blk _ (h.b2 j hj).2.1 (nhb j hj))
  have hlen : ∀ j u, (imgC (.slice (some ⟨bb, 0, none⟩) (iR s) (iR s)) (lClassOf s) (.slice (some ⟨vg, 0, none⟩) (iM s) vcap))[j]? = some u → j < 258 := fun j u hu => by
    have := (List.getElem?_eq_some_iff.1 hu).1
    rw [imgC_len _ _ _ (by unfold lClassOf; rw [numsP_len]; rfl)] at this; exact this
  have oc : ∀ j u, j ≠ 262 → W.cell? ⟨cb, j, none⟩ = some u → (w4.setCell ⟨cb, 262, none⟩ (.slice (some ⟨g, 0, none⟩) (T.length + 1) cap)).cell? ⟨cb, j, none⟩ = some u := fun j u hj hu => by
    rw [World.cell?_setCell_other (h := by intro e; injection e; omega), cc]; exact hu
  refine ⟨(h.mem.below bel (Nat.le_refl _)).below (below_cell (Nat.le_refl _)) (Nat.le_refl _), fun j u hu => oc _ _ (by have := hlen j u hu; omega) (h.im j u hu), oc _ _ (by omega) h.k1, oc _ _ (by omega) h.k2, oc _ _ (by omega) h.k3, oc _ _ (by omega) h.k4,
    World.cell?_setCell_same (u := vt) _ _ _ ((cc 262).trans h.k5), oc _ _ (by omega) h.k6, fun i => by rw [World.frozen?_setCell, cf]; exact h.fz i, ?_, fun j hj => ?_, fun j k hj hk => ⟨?_, ?_⟩, by omega, ⟨b1.1, by omega⟩, fun j hj => ?_, h.bi, fun k hk => ?_, by simp [World.setCell]⟩
  · rw [show (T ++ [x]).length = T.length + 1 by simp, show cells3 (T ++ [x]) = cells3 T ++ [.int .i64 x.1, .int .i64 x.2.1, .int .i64 x.2.2] by simp [cells3]]
    exact ownsRow_setCell_below hown (Nat.lt_succ_self _) _
  · rw [World.cell?_setCell_other (h := by intro e; injection e; omega), ch]; exact h.hl j hj
  · rw [World.cell?_setCell_other (h := by intro e; injection e; have := h.b2 j hj; omega), ct j k hj]; exact (h.tb j k hj hk).1
  · rw [World.frozen?_setCell, ctf j k hj]; exact (h.tb j k hj hk).2
  · have := h.b2 j hj; exact ⟨this.1, by omega, this.2.2⟩
  · have e : g = k := by simpa [Value.ownBlock] using hk
    subst e
    rcases hat with h1 | h1
    · have := h.bv g h1; exact ⟨by omega, this.2⟩
    · exact ⟨by omega, by omega, fun j hj => by have := h.b2 j hj; omega⟩

theorem CW.drew (h : CW w cb top s inp bb vg vcap yb zb vt hg hcap hbk HT c p n T) : CW w.drew cb top s inp bb vg vcap yb zb vt hg hcap hbk HT c p n T := h.drewN 1

set_option maxRecDepth 100000 in
set_option maxHeartbeats 1000000 in
theorem ctell_any (s inp : ByteArray) (cb bb vg vcap : Nat) (yb : Nat → Nat) (zb : Nat → Nat → Nat) (vt : Value) (hg hcap : Nat) (hbk : Nat → Nat) (HT : Nat → Nat → Bool) (c p n : Nat) (T : List (Int × Int × Int)) (r q : Int) (w : World)
    (hT : T.length ≤ 100000) (h : CW w cb w.heap.size s inp bb vg vcap yb zb vt hg hcap hbk HT c p n T) :
    Calls Try.prog 69 #[.pointer (some ⟨cb, 0, none⟩), .int .i64 r, .int .i64 q] w fun e w' => e = .returned (.tuple #[]) ∧ Below cb w w' ∧
      ∃ vt', CW w' cb w'.heap.size s inp bb vg vcap yb zb vt' hg hcap hbk HT c p n (T ++ [(r, (p : Int), q)]) := by
  have HC := hidZ h
  have k3 := h.k3
  have k5 := h.k5
  have f5 := h.fz 262
  obtain ⟨va, vc', hv⟩ := rowSlice h.rt
  subst hv
  have hb0 := h.b0
  clear h
  go_enter Try.func69, Try.ntmps69
  go_wp2_with fail
  have hcne : some cb ≠ (Value.slice va T.length vc').ownBlock := fun e => by have := (HC.out.rt.lt cb e.symm).1; omega
  go_region_law ((refine step_app1 w.drew rfl (.tmp 10) (.tmp 18) 38 rfl (cb + 1) 61 (.agg #[.int .i64 0, .int .i64 0, .int .i64 0]) 3 24 Try.underlying38 Try.infoToken rfl (by decide) (by decide) _ T.length (cells3 T) [.int .i64 r, .int .i64 (p : Int), .int .i64 q] _ (by simp [Act.eval]) HC.out.rt _ rfl (by simp [Act.eval]) rfl (by simp [Value.oneCell']) (by omega) (by show cb + 1 ≤ w.heap.size; omega) ?_; intro g4 cap4 w4 hown4 hgrow4 hat4 hlt4; have m3 := ((grow_cell hgrow4 (k := cb) (by show cb < w.heap.size; omega) hcne).1 262).trans k5; have n3 := ((grow_cell hgrow4 (k := cb) (by show cb < w.heap.size; omega) hcne).2 262).trans f5; have HM := hidZ (HC.out.drew.told (x := (r, (p : Int), q)) hown4 hgrow4 hat4 hlt4); have HBG : Hid (Below cb w w4) := (below_app (o := .cells #[.int .i64 r, .int .i64 (p : Int), .int .i64 q] 61) (below_drewN (Below.refl cb w) 1) (by show cb ≤ w.heap.size; omega) HC.out.rt (Nat.le_succ _) hgrow4)))
  all_goals
    go_wp2
    go_end0
    exact ⟨rfl, HBG.out.setCell (p := ⟨cb, 262, none⟩) (Nat.le_refl _) _, _, HM.out.raise⟩
end Go.Proofs.Ytgjgjgihceijnaa
