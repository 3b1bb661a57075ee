/- Texts put together: CuTell, CuPass, CuNew, CuTabs, CuCut, CtOpen. -/
import Derived.Test.YtgjgjgihceijnaaGreatG05
import Derived.Deep.RegionLaw
import Derived.Laws.Tables
import Derived.Great.BuildSlice
import Derived.Great.Ranges
import Derived.Deep.OwnRows
import Derived.Deep.DrawnRows
namespace Go.Proofs.YtgjgjgihceijnaaGreat
open Go.RowKit Go.Stn

theorem Tryz.infoToken : (Tryz.prog.info? 79).map (fun i => (i.zero, i.size, i.bytes)) = some (some (.agg #[.int .i64 0, .int .i64 0, .int .i64 0]), 3, 24) := by kernel_rfl

variable {w w' : World} {cb top : Nat} {s inp : ByteArray} {bb vg vcap : Nat} {yb : Nat → Nat} {zb : Nat → Nat → Nat} {vt : Value} {hg hcap : Nat} {hbk : Nat → Nat} {HT : Nat → Nat → Bool} {c p n : Nat} {T : List (Int × Int × Int)}

/-- A token more: an append, and the store. -/
theorem CW.told {W w4 : World} (h : CW W cb W.heap.size s inp bb vg vcap yb zb vt hg hcap hbk HT c p n T) {o : Obj} {x : Int × Int × Int} {g cap : Nat}
    (hown : w4.ownsRow (cb + 1) 79 3 (.slice (some ⟨g, 0, none⟩) (T.length + 1) cap) (T.length + 1) (cells3 T ++ [.int .i64 x.1, .int .i64 x.2.1, .int .i64 x.2.2]))
    (hgrow : (W.alloc o).grownBy w4 vt.ownBlock) (hat : vt.ownBlock = some g ∨ g = W.heap.size + 1) (hgl : g < w4.heap.size) :
    CW (w4.setCell ⟨cb, 262, none⟩ (.slice (some ⟨g, 0, none⟩) (T.length + 1) cap)) cb w4.heap.size s inp bb vg vcap yb zb (.slice (some ⟨g, 0, none⟩) (T.length + 1) cap) hg hcap hbk HT c p n (T ++ [x]) := by
  have b0 := h.b0
  have b1 := h.b1
  have hsz := hgrow.size
  simp at hsz
  have blk : ∀ k, k < W.heap.size → vt.ownBlock ≠ some k → w4.heap[k]? = W.heap[k]? := fun k hk hv => (hgrow.block k (by simp; omega) (fun e => hv e.symm)).trans (Below.heap_alloc W o k hk)
  have ncb : vt.ownBlock ≠ some cb := fun e => by have := (h.rt.lt cb e).1; omega
  have nlo : ∀ k, k < cb → vt.ownBlock ≠ some k := fun k hk e => by have := (h.rt.lt k e).1; omega
  have nhg : vt.ownBlock ≠ some hg := fun e => (h.bv hg e).2.1 rfl
  have nhb : ∀ j, j < iM s → vt.ownBlock ≠ some (hbk j) := fun j hj e => (h.bv _ e).2.2 j hj rfl
  have bel : Below cb W w4 := ⟨hgrow.os, hgrow.tape, hgrow.output, by omega, fun k hk => blk k (by omega) (nlo k hk)⟩
  have cc : ∀ i, w4.cell? ⟨cb, i, none⟩ = W.cell? ⟨cb, i, none⟩ := fun i => World.cell?_of_block (w := W) (a := ⟨cb, i, none⟩) (blk cb b0 ncb)
  have cf : ∀ i, w4.frozen? ⟨cb, i, none⟩ = W.frozen? ⟨cb, i, none⟩ := fun i => World.frozen?_of_block (w := W) (a := ⟨cb, i, none⟩) (blk cb b0 ncb)
  have ch : ∀ i, w4.cell? ⟨hg, i, none⟩ = W.cell? ⟨hg, i, none⟩ := fun i => World.cell?_of_block (w := W) (a := ⟨hg, i, none⟩) (blk hg b1.2 nhg)
  have ct : ∀ j i, j < iM s → w4.cell? ⟨hbk j, i, none⟩ = W.cell? ⟨hbk j, i, none⟩ := fun j i hj => World.cell?_of_block (w := W) (a := ⟨hbk j, i, none⟩) (blk _ (h.b2 j hj).2.1 (nhb j hj))
  have ctf : ∀ j i, j < iM s → w4.frozen? ⟨hbk j, i, none⟩ = W.frozen? ⟨hbk j, i, none⟩ := fun j i hj => World.frozen?_of_block (w := W) (a := ⟨hbk j, i, none⟩) (blk _ (h.b2 j hj).2.1 (nhb j hj))
  have hlen : ∀ j u, (imgC (.slice (some ⟨bb, 0, none⟩) (iR s) (iR s)) (lClassOf s) (.slice (some ⟨vg, 0, none⟩) (iM s) vcap))[j]? = some u → j < 258 := fun j u hu => by
    have := (List.getElem?_eq_some_iff.1 hu).1
    rw [imgC_len _ _ _ (by unfold lClassOf; rw [numsP_len]; rfl)] at this; exact this
  have oc : ∀ j u, j ≠ 262 → W.cell? ⟨cb, j, none⟩ = some u → (w4.setCell ⟨cb, 262, none⟩ (.slice (some ⟨g, 0, none⟩) (T.length + 1) cap)).cell? ⟨cb, j, none⟩ = some u := fun j u hj hu => by
    rw [World.cell?_setCell_other (h := by intro e; injection e; omega), cc]; exact hu
  refine ⟨(h.mem.below bel (Nat.le_refl _)).below (below_cell (Nat.le_refl _)) (Nat.le_refl _), fun j u hu => oc _ _ (by have := hlen j u hu; omega) (h.im j u hu), oc _ _ (by omega) h.k1, oc _ _ (by omega) h.k2, oc _ _ (by omega) h.k3, oc _ _ (by omega) h.k4,
    World.cell?_setCell_same (u := vt) _ _ _ ((cc 262).trans h.k5), oc _ _ (by omega) h.k6, fun i => by rw [World.frozen?_setCell, cf]; exact h.fz i, ?_, fun j hj => ?_, fun j k hj hk => ⟨?_, ?_⟩, by omega, ⟨b1.1, by omega⟩, fun j hj => ?_, h.bi, fun k hk => ?_, by simp [World.setCell]⟩
  · rw [show (T ++ [x]).length = T.length + 1 by simp, show cells3 (T ++ [x]) = cells3 T ++ [.int .i64 x.1, .int .i64 x.2.1, .int .i64 x.2.2] by simp [cells3]]
    exact ownsRow_setCell_below hown (Nat.lt_succ_self _) _
  · rw [World.cell?_setCell_other (h := by intro e; injection e; omega), ch]; exact h.hl j hj
  · rw [World.cell?_setCell_other (h := by intro e; injection e; have := h.b2 j hj; omega), ct j k hj]; exact (h.tb j k hj hk).1
  · rw [World.frozen?_setCell, ctf j k hj]; exact (h.tb j k hj hk).2
  · have := h.b2 j hj; exact ⟨this.1, by omega, this.2.2⟩
  · have e : g = k := by simpa [Value.ownBlock] using hk
    subst e
    rcases hat with h1 | h1
    · have := h.bv g h1; exact ⟨by omega, this.2⟩
    · exact ⟨by omega, by omega, fun j hj => by have := h.b2 j hj; omega⟩

theorem CW.drew (h : CW w cb top s inp bb vg vcap yb zb vt hg hcap hbk HT c p n T) : CW w.drew cb top s inp bb vg vcap yb zb vt hg hcap hbk HT c p n T := h.drewN 1

set_option maxRecDepth 100000 in
set_option maxHeartbeats 1000000 in
theorem ctell_any (s inp : ByteArray) (cb bb vg vcap : Nat) (yb : Nat → Nat) (zb : Nat → Nat → Nat) (vt : Value) (hg hcap : Nat) (hbk : Nat → Nat) (HT : Nat → Nat → Bool) (c p n : Nat) (T : List (Int × Int × Int)) (r q : Int) (w : World)
    (hT : T.length ≤ 100000) (h : CW w cb w.heap.size s inp bb vg vcap yb zb vt hg hcap hbk HT c p n T) :
    Calls Tryz.prog 53 #[.pointer (some ⟨cb, 0, none⟩), .int .i64 r, .int .i64 q] w fun e w' => e = .returned (.tuple #[]) ∧ Below cb w w' ∧
      ∃ vt', CW w' cb w'.heap.size s inp bb vg vcap yb zb vt' hg hcap hbk HT c p n (T ++ [(r, (p : Int), q)]) := by
  have HC := hidZ h
  have k3 := h.k3
  have k5 := h.k5
  have f5 := h.fz 262
  obtain ⟨va, vc', hv⟩ := rowSlice h.rt
  subst hv
  have hb0 := h.b0
  clear h
  go_enter Tryz.func53, Tryz.ntmps53
  go_wp2_with fail
  have hcne : some cb ≠ (Value.slice va T.length vc').ownBlock := fun e => by have := (HC.out.rt.lt cb e.symm).1; omega
  go_region_law ((refine step_app1 w.drew rfl (.tmp 10) (.tmp 18) 29 rfl (cb + 1) 79 (.agg #[.int .i64 0, .int .i64 0, .int .i64 0]) 3 24 Tryz.underlying29 Tryz.infoToken rfl (by decide) (by decide) _ T.length (cells3 T) [.int .i64 r, .int .i64 (p : Int), .int .i64 q] _ (by simp [Act.eval]) HC.out.rt _ rfl (by simp [Act.eval]) rfl (by simp [Value.oneCell']) (by omega) (by show cb + 1 ≤ w.heap.size; omega) ?_; intro g4 cap4 w4 hown4 hgrow4 hat4 hlt4; have m3 := ((grow_cell hgrow4 (k := cb) (by show cb < w.heap.size; omega) hcne).1 262).trans k5; have n3 := ((grow_cell hgrow4 (k := cb) (by show cb < w.heap.size; omega) hcne).2 262).trans f5; have HM := hidZ (HC.out.drew.told (x := (r, (p : Int), q)) hown4 hgrow4 hat4 hlt4); have HBG : Hid (Below cb w w4) := (below_app (o := .cells #[.int .i64 r, .int .i64 (p : Int), .int .i64 q] 79) (_root_.Go.below_drewN (Below.refl cb w) 1) (by show cb ≤ w.heap.size; omega) HC.out.rt (Nat.le_succ _) hgrow4)))
  all_goals
    go_wp2
    go_end0
    exact ⟨rfl, HBG.out.setCell (p := ⟨cb, 262, none⟩) (Nat.le_refl _) _, _, HM.out.raise⟩
end Go.Proofs.YtgjgjgihceijnaaGreat

namespace Go.Proofs.YtgjgjgihceijnaaGreat
open Go.RowKit Go.Stn

set_option maxRecDepth 100000 in
set_option maxHeartbeats 1000000 in
theorem cpass_any (s inp : ByteArray) (cb bb vg vcap : Nat) (yb : Nat → Nat) (zb : Nat → Nat → Nat) (vt : Value) (hg hcap : Nat) (hbk : Nat → Nat) (HT : Nat → Nat → Bool) (c p n : Nat) (T : List (Int × Int × Int)) (r q : Nat) (w : World)
    (hi : imgOk s = true) (hr : r < iR s) (hT : T.length ≤ 100000) (h : CW w cb w.heap.size s inp bb vg vcap yb zb vt hg hcap hbk HT c p n T) :
    Calls Tryz.prog 54 #[.pointer (some ⟨cb, 0, none⟩), .int .i64 r, .int .i64 q] w fun e w' => e = .returned (.tuple #[]) ∧ Below cb w w' ∧
      ∃ vt', CW w' cb w'.heap.size s inp bb vg vcap yb zb vt' hg hcap hbk HT (if 1 < thenB s r then thenB s r - 2 else c) q n (if thenB s r = 1 then T else T ++ [((r : Int), (p : Int), (q : Int))]) := by
  have HC := hidZ h
  have k0 := h.im 0 _ (imgC_0 _ _ _)
  have m0 := h.mem.be r hr
  have hle := then_le hi hr
  have hM := (img_head hi).2.2.2.1
  obtain ⟨R, ER⟩ : ∃ R, iR s = R := ⟨_, rfl⟩
  rw [ER] at k0 hr
  obtain ⟨b, EB⟩ : ∃ b, thenB s r = b := ⟨_, rfl⟩
  rw [EB] at m0 hle ⊢
  have hbl : b ≤ 5 := by omega
  have hrI : (0 : Int) ≤ (r : Int) ∧ (r : Int) < (R : Int) := by omega
  have hb0 := h.b0
  replace ER := hidZ ER
  replace EB := hidZ EB
  clear h hi hle hM
  rcases (show b = 1 ∨ b = 0 ∨ 2 ≤ b by omega) with hb | hb | hb
  · have hd1 : ((b : Int) != 1) = false := by rw [hb]; rfl
    have hd2 : decide ((2 : Int) ≤ (b : Int)) = false := by simp; omega
    rw [if_neg (show ¬ 1 < b by omega), if_pos hb]
    clear hb
    have q3 := HC.out.k3
    have f3 := HC.out.fz 260
    go_enter Tryz.func54, Tryz.ntmps54
    go_wp2
    go_end0
    exact ⟨rfl, (Below.refl _ _).setCell (p := ⟨cb, 260, none⟩) (Nat.le_refl _) _, vt, (HC.out.setP q).raise⟩
  · have hd1 : ((b : Int) != 1) = true := by rw [hb]; rfl
    have hd2 : decide ((2 : Int) ≤ (b : Int)) = false := by simp; omega
    rw [if_neg (show ¬ 1 < b by omega), if_neg (show ¬ b = 1 by omega)]
    clear hb
    go_enter Tryz.func54, Tryz.ntmps54
    go_wp2_with fail
    refine (ctell_any s inp cb bb vg vcap yb zb vt hg hcap hbk HT c p n T (r : Int) (q : Int) _ hT HC.out).mono ?_
    rintro e w1 ⟨rfl, hb1, vt1, hc1⟩
    have HC1 := hidZ hc1
    have HB1 := hidZ hb1
    have q3 := hc1.k3
    have f3 := hc1.fz 260
    clear hc1 hb1 k0 m0
    go_wp2
    go_end0
    exact ⟨rfl, HB1.out.setCell (p := ⟨cb, 260, none⟩) (Nat.le_refl _) _, vt1, (HC1.out.setP q).raise⟩
  · have hd1 : ((b : Int) != 1) = true := by rw [bne_iff_ne]; omega
    have hd2 : decide ((2 : Int) ≤ (b : Int)) = true := by simp; omega
    rw [if_pos (show 1 < b by omega), if_neg (show ¬ b = 1 by omega)]
    obtain ⟨c', hc'⟩ : ∃ c' : Nat, b - 2 = c' := ⟨_, rfl⟩
    have hbc : (b : Int) - 2 = (c' : Int) := by omega
    rw [hc']
    clear hc'
    go_enter Tryz.func54, Tryz.ntmps54
    go_wp2_with fail
    refine (ctell_any s inp cb bb vg vcap yb zb vt hg hcap hbk HT c p n T (r : Int) (q : Int) _ hT HC.out).mono ?_
    rintro e w1 ⟨rfl, hb1, vt1, hc1⟩
    have HC1 := hidZ hc1
    have HB1 := hidZ hb1
    have q2 := hc1.k2
    have f2 := hc1.fz 259
    have q3 := (hc1.setC c').k3
    have f3 := (hc1.setC c').fz 260
    clear hc1 hb1 k0 m0
    go_wp2
    go_end0
    exact ⟨rfl, (HB1.out.setCell (p := ⟨cb, 259, none⟩) (Nat.le_refl _) _).setCell (p := ⟨cb, 260, none⟩) (Nat.le_refl _) _, vt1, ((HC1.out.setC c').setP q).raise⟩
end Go.Proofs.YtgjgjgihceijnaaGreat

namespace Go.Stn
open Go.RowKit
/-- What a fill of a part leaves. -/
theorem fold_get (off : Nat) : ∀ (l : List Value) (n : Nat) (Z : Array Value), ((l.zipIdx n).foldl (fun cs x => cs.setIfInBounds (off + x.2) x.1) Z).size = Z.size ∧
    ∀ k, ((l.zipIdx n).foldl (fun cs x => cs.setIfInBounds (off + x.2) x.1) Z)[k]? = if off + n ≤ k ∧ k < off + n + l.length ∧ k < Z.size then l[k - (off + n)]? else Z[k]? := by
  intro l
  induction l with
  | nil => intro n Z; refine ⟨rfl, fun k => ?_⟩; rw [if_neg (by simp; omega)]; rfl
  | cons v r ih =>
    intro n Z
    rw [List.zipIdx_cons, List.foldl_cons]
    obtain ⟨h1, h2⟩ := ih (n + 1) (Z.setIfInBounds (off + n) v)
    refine ⟨by rw [h1]; simp, fun k => ?_⟩
    rw [h2 k]
    simp only [Array.size_setIfInBounds, List.length_cons]
    by_cases e : k = off + n
    · subst e
      rw [if_neg (by omega)]
      by_cases hz : off + n < Z.size
      · rw [if_pos (by omega), Array.getElem?_setIfInBounds_self_of_lt hz]; simp
      · rw [if_neg (by omega), Array.getElem?_eq_none (by simp; omega), Array.getElem?_eq_none (by omega)]
    · by_cases hc : off + (n + 1) ≤ k ∧ k < off + (n + 1) + r.length ∧ k < Z.size
      · rw [if_pos hc, if_pos (by omega), show k - (off + n) = (k - (off + (n + 1))) + 1 by omega, List.getElem?_cons_succ]
      · rw [if_neg hc, if_neg (by omega), Array.getElem?_setIfInBounds_ne (by omega)]
theorem all_get {A : Array Value} {q : Value → Bool} (h : A.all q = true) {i : Nat} {v : Value} (hv : A[i]? = some v) : q v = true := by
  rw [Array.all_eq_true] at h
  obtain ⟨hi, rfl⟩ := Array.getElem?_eq_some_iff.1 hv
  exact h i hi
theorem fill_get (off : Nat) (A Z : Array Value) : (A.zipIdx.foldl (fun cs x => cs.setIfInBounds (off + x.2) x.1) Z).size = Z.size ∧
    ∀ k, (A.zipIdx.foldl (fun cs x => cs.setIfInBounds (off + x.2) x.1) Z)[k]? = if off ≤ k ∧ k < off + A.size ∧ k < Z.size then A[k - off]? else Z[k]? := by
  have h := fold_get off A.toList 0 Z
  have e : A.zipIdx.foldl (fun cs x => cs.setIfInBounds (off + x.2) x.1) Z = (A.toList.zipIdx 0).foldl (fun cs x => cs.setIfInBounds (off + x.2) x.1) Z := by
    rw [← Array.foldl_toList, Array.toList_zipIdx]
  rw [e]
  refine ⟨h.1, fun k => ?_⟩
  rw [h.2 k]
  simp
end Go.Stn
namespace Go.Proofs.YtgjgjgihceijnaaGreat
open Go.RowKit Go.Stn

theorem Tryz.cutZero : ((Tryz.prog.info? 141).map (·.zero)) = some (some (.agg Tryz.zeroCells141)) := by kernel_rfl
theorem Tryz.cutZeroTail : (List.range 6).map (fun k => Tryz.zeroCells141[258 + k]?) = [some (.string ByteArray.empty), some (.int .i64 0), some (.int .i64 0), some (.int .i64 0), some (.slice none 0 0), some (.slice none 0 0)] := by kernel_rfl
theorem Tryz.cutZeroSize : Tryz.zeroCells141.size = 264 := by kernel_rfl
theorem Tryz.cutSize : (Tryz.prog.info? 141).map (·.size) = some 264 := by kernel_rfl
theorem Tryz.cutZeroOne : Tryz.zeroCells141.all (·.oneCell') = true := by kernel_rfl
theorem Tryz.cutPlaces : (match Tryz.prog.underlying 141 with
    | some (.struct fs) => fs.toList.mapM (fun f => (Tryz.prog.info? f.type).map fun i => (f.offset, i.size))
    | _ => none) = some [(0, 258), (258, 1), (259, 1), (260, 1), (261, 1), (262, 1), (263, 1)] := by kernel_rfl
theorem Tryz.cutBuilt (parts : List (Nat × Value)) : Tryz.prog.built 141 parts = Instr.fill ([(0, 258), (258, 1), (259, 1), (260, 1), (261, 1), (262, 1), (263, 1)].toArray[·]?) Tryz.zeroCells141 parts := by
  have h0 := Tryz.cutZero
  have hp := Tryz.cutPlaces
  generalize Tryz.zeroCells141 = Z at *
  unfold Program.built
  cases hi : Tryz.prog.info? 141 with
  | none => rw [hi] at h0; cases h0
  | some it =>
    rw [hi] at h0
    have hz : it.zero = some (.agg Z) := by simpa using h0
    cases hu : Tryz.prog.underlying 141 with
    | none => rw [hu] at hp; cases hp
    | some d =>
      rw [hu] at hp
      cases d with
      | struct fs =>
        simp only at hp
        simp only [hz, hp, Value.cells]
      | _ => cases hp

/-- The cells of a new cutter. -/
theorem cut_built (A : Array Value) (hA : A.size = 258) (hone : A.all (·.oneCell') = true) (inp : ByteArray) (c0 : Int) : ∃ C : Array Value, Tryz.prog.built 141 [(0, .agg A), (1, .string inp), (2, .int .i64 c0)] = some C ∧ C.size = 264 ∧ C.all (·.oneCell') = true ∧
    (∀ k, k < 258 → C[k]? = A[k]?) ∧ C[258]? = some (.string inp) ∧ C[259]? = some (.int .i64 c0) ∧ C[260]? = some (.int .i64 0) ∧ C[261]? = some (.int .i64 0) ∧ C[262]? = some (.slice none 0 0) ∧ C[263]? = some (.slice none 0 0) := by
  have hz := Tryz.cutZeroSize
  have ht := Tryz.cutZeroTail
  have ho := Tryz.cutZeroOne
  rw [Tryz.cutBuilt]
  generalize Tryz.zeroCells141 = Z at *
  have htl : ∀ k v, [some (Value.string ByteArray.empty), some (.int .i64 0), some (.int .i64 0), some (.int .i64 0), some (.slice none 0 0), some (.slice none 0 0)][k]? = some v → k < 6 → Z[258 + k]? = v := fun k v hk h6 => by
    rw [← ht, List.getElem?_map, List.getElem?_range h6] at hk
    simpa using hk
  obtain ⟨s1, g1⟩ := fill_get 0 A Z
  obtain ⟨s2, g2⟩ := fill_get 258 #[Value.string inp] (A.zipIdx.foldl (fun cs x => cs.setIfInBounds (0 + x.2) x.1) Z)
  obtain ⟨s3, g3⟩ := fill_get 259 #[Value.int .i64 c0] (#[Value.string inp].zipIdx.foldl (fun cs x => cs.setIfInBounds (258 + x.2) x.1) (A.zipIdx.foldl (fun cs x => cs.setIfInBounds (0 + x.2) x.1) Z))
  refine ⟨#[Value.int .i64 c0].zipIdx.foldl (fun cs x => cs.setIfInBounds (259 + x.2) x.1) (#[Value.string inp].zipIdx.foldl (fun cs x => cs.setIfInBounds (258 + x.2) x.1) (A.zipIdx.foldl (fun cs x => cs.setIfInBounds (0 + x.2) x.1) Z)), ?_, by rw [s3, s2, s1, hz], ?_, fun k hk => ?_, ?_, ?_, ?_, ?_, ?_, ?_⟩
  · have e1 : (Value.agg A).cells = A := rfl
    have e2 : (Value.string inp).cells = #[Value.string inp] := rfl
    have e3 : (Value.int .i64 c0).cells = #[Value.int .i64 c0] := rfl
    unfold Instr.fill
    simp only [List.getElem?_toArray, List.getElem?_cons_zero, e1, hA, hz]
    rw [if_neg (by decide)]
    unfold Instr.fill
    simp only [List.getElem?_cons_succ, List.getElem?_cons_zero, e2]
    rw [if_neg (by rw [s1, hz]; simp)]
    unfold Instr.fill
    simp only [List.getElem?_cons_succ, List.getElem?_cons_zero, e3]
    rw [if_neg (by rw [s2, s1, hz]; simp)]
    unfold Instr.fill
    rfl
  · rw [Array.all_eq_true]
    intro i hi
    have hv := Array.getElem?_eq_getElem hi
    have hi2 := hi
    rw [s3, s2, s1, hz] at hi2
    rw [g3, g2, g1] at hv
    generalize (#[Value.int .i64 c0].zipIdx.foldl (fun cs x => cs.setIfInBounds (259 + x.2) x.1) (#[Value.string inp].zipIdx.foldl (fun cs x => cs.setIfInBounds (258 + x.2) x.1) (A.zipIdx.foldl (fun cs x => cs.setIfInBounds (0 + x.2) x.1) Z)))[i] = u at *
    split at hv
    · rename_i hc
      have e : i - 259 = 0 := by have := hc.2.1; simp at this; omega
      rw [e] at hv
      have hq : (#[Value.int .i64 c0] : Array Value).all (·.oneCell') = true := by simp [Value.oneCell']
      exact all_get hq hv
    · split at hv
      · rename_i hc
        have e : i - 258 = 0 := by have := hc.2.1; simp at this; omega
        rw [e] at hv
        have hq : (#[Value.string inp] : Array Value).all (·.oneCell') = true := by simp [Value.oneCell']
        exact all_get hq hv
      · split at hv
        · exact all_get hone hv
        · exact all_get ho hv
  · rw [g3, if_neg (by omega), g2, if_neg (by omega), g1, if_pos (by omega)]; rfl
  · rw [g3, if_neg (by omega), g2, if_pos ⟨by omega, by simp, by rw [s1, hz]; omega⟩]; rfl
  · rw [g3, if_pos ⟨by omega, by simp, by rw [s2, s1, hz]; omega⟩]; rfl
  · rw [g3, if_neg (by simp), g2, if_neg (by simp), g1, if_neg (by omega)]; exact htl 2 _ rfl (by omega)
  · rw [g3, if_neg (by simp), g2, if_neg (by simp), g1, if_neg (by omega)]; exact htl 3 _ rfl (by omega)
  · rw [g3, if_neg (by simp), g2, if_neg (by simp), g1, if_neg (by omega)]; exact htl 4 _ rfl (by omega)
  · rw [g3, if_neg (by simp), g2, if_neg (by simp), g1, if_neg (by omega)]; exact htl 5 _ rfl (by omega)
end Go.Proofs.YtgjgjgihceijnaaGreat

namespace Go.Proofs.YtgjgjgihceijnaaGreat
open Go.RowKit Go.Stn

def hopL (s inp : ByteArray) (hbk : Nat → Nat) (m : Nat) : List Value := (List.range m).map fun j => Value.slice (some ⟨hbk j, 0, none⟩) (nSt s j * inp.size) (nSt s j * inp.size)

structure CW0 (w : World) (cb : Nat) (s inp : ByteArray) (bb vg vcap : Nat) (yb : Nat → Nat) (zb : Nat → Nat → Nat) (vh : Value) (hbk : Nat → Nat) (c0 m : Nat) : Prop where
  mem : IM w s bb vg yb zb cb
  im : w.rangeAt cb 0 (imgC (.slice (some ⟨bb, 0, none⟩) (iR s) (iR s)) (lClassOf s) (.slice (some ⟨vg, 0, none⟩) (iM s) vcap))
  k1 : w.cell? ⟨cb, 258, none⟩ = some (.string inp)
  k2 : w.cell? ⟨cb, 259, none⟩ = some (.int .i64 c0)
  k3 : w.cell? ⟨cb, 260, none⟩ = some (.int .i64 0)
  k4 : w.cell? ⟨cb, 261, none⟩ = some (.int .i64 0)
  k5 : w.cell? ⟨cb, 262, none⟩ = some (.slice none 0 0)
  k6 : w.cell? ⟨cb, 263, none⟩ = some vh
  fz : ∀ i, w.frozen? ⟨cb, i, none⟩ = false
  rh : w.ownsRow (cb + 1) 80 1 vh m (hopL s inp hbk m)
  tb : ∀ j k, j < m → k < nSt s j * inp.size → w.cell? ⟨hbk j, k, none⟩ = some (.bool false) ∧ w.frozen? ⟨hbk j, k, none⟩ = false
  hb : cb < w.heap.size
  b2 : ∀ j, j < m → cb < hbk j ∧ hbk j < w.heap.size ∧ vh.ownBlock ≠ some (hbk j)
  bi : ∀ i j, i < m → j < m → hbk i = hbk j → i = j

variable {w w' : World} {cb : Nat} {s inp : ByteArray} {bb vg vcap : Nat} {yb : Nat → Nat} {zb : Nat → Nat → Nat} {vh : Value} {hbk : Nat → Nat} {c0 m : Nat}

theorem made_get (n k : Nat) (h : k < n) : (madeCells #[Value.bool false] n)[k]? = some (.bool false) := by
  unfold madeCells
  rw [Array.getElem?_map, Array.getElem?_range, if_pos h]
  simp [Nat.mod_one]

theorem CW0.more (h : CW0 w cb s inp bb vg vcap yb zb vh hbk c0 m) {e1 : TypeId} {o : Obj} {w4 : World} {NL g cap : Nat} (hNL : nSt s m * inp.size = NL)
    (hown : w4.ownsRow (cb + 1) 80 1 (.slice (some ⟨g, 0, none⟩) (m + 1) cap) (m + 1) (hopL s inp hbk m ++ [.slice (some ⟨w.heap.size, 0, none⟩) NL NL]))
    (hgrow : ((w.alloc (.cells (madeCells #[.bool false] NL) e1)).alloc o).grownBy w4 vh.ownBlock) (hat : vh.ownBlock = some g ∨ g = w.heap.size + 2) :
    CW0 (w4.setCell ⟨cb, 263, none⟩ (.slice (some ⟨g, 0, none⟩) (m + 1) cap)) cb s inp bb vg vcap yb zb (.slice (some ⟨g, 0, none⟩) (m + 1) cap) (fun j => if j = m then w.heap.size else hbk j) c0 (m + 1) := by
  have b0 := h.hb
  have hsz := hgrow.size
  simp at hsz
  have hvl : ∀ k, vh.ownBlock = some k → cb < k ∧ k < w.heap.size := fun k hk => by have := h.rh.lt k hk; omega
  have blk : ∀ k, k < w.heap.size → vh.ownBlock ≠ some k → w4.heap[k]? = w.heap[k]? := fun k hk hv => ((hgrow.block k (by simp; omega) (fun e => hv e.symm)).trans (Below.heap_alloc _ o k (by simp; omega))).trans (Below.heap_alloc w _ k hk)
  have blkN : w4.heap[w.heap.size]? = some (.cells (madeCells #[.bool false] NL) e1 (0, 0)) := ((hgrow.block _ (by simp; omega) (fun e => by have := hvl _ e.symm; omega)).trans (Below.heap_alloc _ o _ (by simp))).trans (heap_alloc_new w _)
  have ncb : vh.ownBlock ≠ some cb := fun e => by have := hvl cb e; omega
  have bel : Below cb w w4 := ⟨hgrow.os, hgrow.tape, hgrow.output, by omega, fun k hk => blk k (by omega) (fun e => by have := hvl k e; omega)⟩
  have cc : ∀ i, w4.cell? ⟨cb, i, none⟩ = w.cell? ⟨cb, i, none⟩ := fun i => World.cell?_of_block (w := w) (a := ⟨cb, i, none⟩) (blk cb b0 ncb)
  have cf : ∀ i, w4.frozen? ⟨cb, i, none⟩ = w.frozen? ⟨cb, i, none⟩ := fun i => World.frozen?_of_block (w := w) (a := ⟨cb, i, none⟩) (blk cb b0 ncb)
  have hlen : ∀ j u, (imgC (.slice (some ⟨bb, 0, none⟩) (iR s) (iR s)) (lClassOf s) (.slice (some ⟨vg, 0, none⟩) (iM s) vcap))[j]? = some u → j < 258 := fun j u hu => by
    have := (List.getElem?_eq_some_iff.1 hu).1
    rw [imgC_len _ _ _ (by unfold lClassOf; rw [numsP_len]; rfl)] at this; exact this
  have oc : ∀ j u, j ≠ 263 → w.cell? ⟨cb, j, none⟩ = some u → (w4.setCell ⟨cb, 263, none⟩ (.slice (some ⟨g, 0, none⟩) (m + 1) cap)).cell? ⟨cb, j, none⟩ = some u := fun j u hj hu => by
    rw [World.cell?_setCell_other (h := by intro e; injection e; omega), cc]; exact hu
  have hg2 : ∀ k, k < w.heap.size → vh.ownBlock ≠ some k → (Value.slice (some ⟨g, 0, none⟩) (m + 1) cap).ownBlock ≠ some k := fun k hk hv e => by
    have e' : g = k := by simpa [Value.ownBlock] using e
    subst e'
    rcases hat with h1 | h1
    · exact hv h1
    · omega
  refine ⟨(h.mem.below bel (Nat.le_refl _)).below (below_cell (Nat.le_refl _)) (Nat.le_refl _), fun j u hu => oc _ _ (by have := hlen j u hu; omega) (h.im j u hu), oc _ _ (by omega) h.k1, oc _ _ (by omega) h.k2, oc _ _ (by omega) h.k3, oc _ _ (by omega) h.k4, oc _ _ (by omega) h.k5,
    World.cell?_setCell_same (u := vh) _ _ _ ((cc 263).trans h.k6), fun i => by rw [World.frozen?_setCell, cf]; exact h.fz i, ?_, fun j k hj hk => ?_, by simp [World.setCell]; omega, fun j hj => ?_, fun i j hi hj he => ?_⟩
  · have e : hopL s inp (fun j => if j = m then w.heap.size else hbk j) (m + 1) = hopL s inp hbk m ++ [.slice (some ⟨w.heap.size, 0, none⟩) NL NL] := by
      unfold hopL
      rw [List.range_succ, List.map_append, List.map_singleton]
      congr 1
      · refine List.map_congr_left (fun j hj => ?_)
        simp only
        rw [if_neg (by have := List.mem_range.1 hj; omega)]
      · simp only [if_pos]; rw [hNL]
    rw [e]; exact ownsRow_setCell_below hown (Nat.lt_succ_self _) _
  · by_cases e : j = m
    · subst e
      rw [if_pos rfl]
      rw [hNL] at hk
      refine ⟨?_, ?_⟩
      · rw [World.cell?_setCell_other (h := by intro e; injection e; omega)]
        unfold World.cell?
        simp only [blkN]
        exact made_get NL k hk
      · rw [World.frozen?_setCell]
        unfold World.frozen?
        simp only [blkN]
        simp
    · rw [if_neg e]
      have hj' : j < m := by omega
      have b := h.b2 j hj'
      have bq := blk _ b.2.1 b.2.2
      refine ⟨?_, ?_⟩
      · rw [World.cell?_setCell_other (h := by intro e; injection e; omega), World.cell?_of_block (w := w) (a := ⟨hbk j, k, none⟩) bq]; exact (h.tb j k hj' hk).1
      · rw [World.frozen?_setCell, World.frozen?_of_block (w := w) (a := ⟨hbk j, k, none⟩) bq]; exact (h.tb j k hj' hk).2
  · by_cases e : j = m
    · subst e
      simp only [if_pos]
      refine ⟨b0, by simp [World.setCell]; omega, fun e' => ?_⟩
      have e2 : g = w.heap.size := by simpa [Value.ownBlock] using e'
      rcases hat with h1 | h1
      · have := hvl g h1; omega
      · omega
    · simp only [if_neg e]
      have b := h.b2 j (by omega)
      exact ⟨b.1, by simp [World.setCell]; omega, hg2 _ b.2.1 b.2.2⟩
  · by_cases e1 : i = m
    · by_cases e2 : j = m
      · omega
      · simp only [if_pos e1, if_neg e2] at he
        have := (h.b2 j (by omega)).2.1; omega
    · by_cases e2 : j = m
      · simp only [if_neg e1, if_pos e2] at he
        have := (h.b2 i (by omega)).2.1; omega
      · simp only [if_neg e1, if_neg e2] at he
        exact h.bi i j (by omega) (by omega) he

theorem CW0.drew (h : CW0 w cb s inp bb vg vcap yb zb vh hbk c0 m) : CW0 w.drew cb s inp bb vg vcap yb zb vh hbk c0 m := ⟨h.mem.drewN 1, h.im, h.k1, h.k2, h.k3, h.k4, h.k5, h.k6, h.fz, h.rh, h.tb, h.hb, h.b2, h.bi⟩

/-- All tables are made. -/
theorem CW0.done (h : CW0 w cb s inp bb vg vcap yb zb vh hbk c0 (iM s)) (hM : 1 ≤ iM s) : ∃ hg hcap, CW w cb w.heap.size s inp bb vg vcap yb zb (.slice none 0 0) hg hcap hbk (fun _ _ => false) c0 0 0 [] := by
  have hlt := h.rh.lt
  have hrh := h.rh
  obtain ⟨g, cap, hv, hbg, hgl⟩ := h.rh.form (by omega)
  have hk6 := h.k6
  have hb2 := h.b2
  rw [hv] at hlt hrh hk6 hb2
  refine ⟨g, cap, h.mem, h.im, h.k1, h.k2, h.k3, h.k4, h.k5, hk6, h.fz, World.ownsRow_nil _ _ _ _, fun j hj => ?_, h.tb, h.hb, ?_, fun j hj => ?_, h.bi, fun k hk => ?_, Nat.le_refl _⟩
  · have := row_range hrh j (.slice (some ⟨hbk j, 0, none⟩) (nSt s j * inp.size) (nSt s j * inp.size)) (by unfold hopL; rw [List.getElem?_map, List.getElem?_range hj]; rfl)
    rw [Nat.zero_add] at this; exact this
  · have := hlt g rfl; omega
  · have b := hb2 j hj
    refine ⟨b.1, b.2.1, fun e => b.2.2 ?_⟩
    rw [e]; rfl
  · cases hk
theorem hope_nil (s inp : ByteArray) : hopeOk s inp [] (fun _ _ => false) := fun _ _ _ _ _ _ => by simp [memB]
end Go.Proofs.YtgjgjgihceijnaaGreat

namespace Go.Stn
open Go.RowKit
theorem IM.mono {w : World} {s : ByteArray} {bb vg : Nat} {yb : Nat → Nat} {zb : Nat → Nat → Nat} {top top' : Nat} (h : IM w s bb vg yb zb top) (ht : top ≤ top') : IM w s bb vg yb zb top' :=
  ⟨h.be, h.co, h.tk, h.nx, h.ld, Nat.lt_of_lt_of_le h.b0 ht, Nat.lt_of_lt_of_le h.b1 ht, fun c hc => Nat.lt_of_lt_of_le (h.b2 c hc) ht, fun c st hc hs => Nat.lt_of_lt_of_le (h.b3 c st hc hs) ht⟩
end Go.Stn
namespace Go.Proofs.YtgjgjgihceijnaaGreat
open Go.RowKit Go.Stn

theorem Tryz.infoBool : (Tryz.prog.info? 4).map (fun i => (i.zero, i.size, i.bytes)) = some (some (.bool false), 1, 1) := by kernel_rfl
theorem Tryz.infoBools : (Tryz.prog.info? 80).map (fun i => (i.zero, i.size, i.bytes)) = some (some (.slice none 0 0), 1, 24) := by kernel_rfl

def lenV : Value → Nat
  | .int _ z => z.toNat
  | _ => 0
def okLen (v : Value) : Prop := ∃ z : Nat, v = .int .i64 (z : Int) ∧ z ≤ 30000
theorem Tryz.wpMakeBools {d : Option Tmp} {x : Operand} {ty : TypeId} {p : String} {af : Array Edge} {gd : Option (Nat × Bool)} {a : Act} {X : World} {K : Act → World → Prop} {Q : Exit → Act → World → Prop}
    (h : okLen (a.eval x)) :
    Oper.wp Tryz.prog { dst := d, op := .makeSlice 80 x x, type := ty, pos := p, after := af, guard := gd } a X K Q = K (a.put d (.slice (some ⟨X.heap.size, 0, none⟩) (lenV (a.eval x)) (lenV (a.eval x)))) (X.alloc (.cells (madeCells #[.bool false] (lenV (a.eval x))) 4)) := by
  obtain ⟨z, hz, hl⟩ := h
  have hr := run_make_row' (P := Tryz.prog) 80 4 (.bool false) 1 Tryz.underlying80 Tryz.infoBool rfl .i64 .i64 z (by omega) (by omega) X
  unfold Oper.wp execOp
  simp only [hz, Sem.run_bind, hr, Result.andThen_ok, lenV, Int.toNat_natCast]
  rfl

theorem frozen_setCells : ∀ (vs : List Value) (o : Nat) (w : World) (b : Nat) (a : Addr), (w.setCells b o vs).frozen? a = w.frozen? a := by
  intro vs
  induction vs with
  | nil => intro o w b a; rfl
  | cons v r ih => intro o w b a; exact (ih (o + 1) _ b a).trans (World.frozen?_setCell _ _ _ _)

theorem below_to_drew {B : Nat} {a w : World} (h : Below B a w) : Below B a w.drew := ⟨h.os, h.tape, h.output, h.size, h.block⟩

/-- What Cut comes to. -/
def CutOut (w : World) (s inp : ByteArray) (c0 : Nat) (e : Ending) (w' : World) : Prop :=
  ∃ vt, e = .returned (.tuple #[vt, .int .i64 ((cutP s inp c0).2.1 : Nat), .int .i64 ((cutP s inp c0).2.2 : Nat)]) ∧ w'.ownsRow (w.heap.size + 1 + 1) 79 3 vt (cutP s inp c0).1.length (cells3 (cutP s inp c0).1) ∧ Below w.heap.size w w'

attribute [local go_sem ↓] Go.wp_at_zero Go.wp_at_succ Tryz.wpMakeBools

set_option maxRecDepth 100000 in
set_option maxHeartbeats 2000000 in
theorem ccut_any (s inp : ByteArray) (c0 bb vg vcap : Nat) (yb : Nat → Nat) (zb : Nat → Nat → Nat) (A : Array Value) (w : World) (hi : imgOk s = true) (hin : inp.size ≤ 300) (hc0 : c0 < iM s)
    (hA : A.toList = imgC (.slice (some ⟨bb, 0, none⟩) (iR s) (iR s)) (lClassOf s) (.slice (some ⟨vg, 0, none⟩) (iM s) vcap)) (hm : IM w s bb vg yb zb w.heap.size) :
    Calls Tryz.prog 25 #[.agg A, .int .i64 (c0 : Int), .string inp] w fun e w' => CutOut w s inp c0 e w' := by
  have hlen := imgC_len (.slice (some ⟨bb, 0, none⟩) (iR s) (iR s)) (lClassOf s) (.slice (some ⟨vg, 0, none⟩) (iM s) vcap) (by unfold lClassOf; rw [numsP_len]; rfl)
  have hone := imgC_one (vb := .slice (some ⟨bb, 0, none⟩) (iR s) (iR s)) (vc := .slice (some ⟨vg, 0, none⟩) (iM s) vcap) (cs := lClassOf s) rfl rfl
  have hAs : A.size = 258 := by rw [← Array.length_toList, hA]; exact hlen
  have hAo : A.all (·.oneCell') = true := by
    rw [← hA] at hone
    have := all_oneCell_toArray hone
    simpa using this
  obtain ⟨C, hbu, hCs, hCo, hC0, hC1, hC2, hC3, hC4, hC5, hC6⟩ := cut_built A hAs hAo inp (c0 : Int)
  have HRA : Hid ((w.alloc (.cells A 72)).rangeAt w.heap.size 0 A.toList) := rangeAt_new w A _
  have HT := hidZ (there_newA (w.alloc (.cells A 72)) Tryz.zeroCells141 141 (w.heap.size + 1) 264 Tryz.cutZeroSize (by simp))
  have HBS : Hid (Below (w.heap.size + 1) (w.alloc (.cells A 72)) (((w.alloc (.cells A 72)).alloc (.cells Tryz.zeroCells141 141)).setCells (w.heap.size + 1) 0 C.toList)) :=
    below_setCells _ 0 _ (w.heap.size + 1) ((Below.refl _ _).alloc (by simp) _) (Nat.le_refl _)
  have HB0 : Hid (Below w.heap.size w (((w.alloc (.cells A 72)).alloc (.cells Tryz.zeroCells141 141)).setCells (w.heap.size + 1) 0 C.toList)) :=
    ((Below.refl w.heap.size w).alloc (Nat.le_refl _) _).trans (HBS.out.mono (by omega))
  have HRC : Hid ((((w.alloc (.cells A 72)).alloc (.cells Tryz.zeroCells141 141)).setCells (w.heap.size + 1) 0 C.toList).rangeAt (w.heap.size + 1) 0 C.toList) :=
    World.rangeAt_setCells_same _ _ _ _ (by rw [Array.length_toList, hCs]; exact HT.out)
  have HTC : Hid ((((w.alloc (.cells A 72)).alloc (.cells Tryz.zeroCells141 141)).setCells (w.heap.size + 1) 0 C.toList).there (w.heap.size + 1) 0 264) := World.there_setCells HT.out _ _ _
  have HCA : Hid ((((w.alloc (.cells A 72)).alloc (.cells Tryz.zeroCells141 141)).setCells (w.heap.size + 1) 0 C.toList).cell? ⟨w.heap.size, 257, none⟩ = some (.slice (some ⟨vg, 0, none⟩) (iM s) vcap)) := by
    unfold Hid
    rw [HBS.out.cell (p := ⟨w.heap.size, 257, none⟩) (Nat.lt_succ_self _)]
    have := HRA.out 257 (.slice (some ⟨vg, 0, none⟩) (iM s) vcap) (by rw [hA]; exact imgC_257 _ _ _ (by unfold lClassOf; rw [numsP_len]; rfl))
    rw [Nat.zero_add] at this; exact this
  have HZ3 : Hid (w.heap.size + 1 < (((w.alloc (.cells A 72)).alloc (.cells Tryz.zeroCells141 141)).setCells (w.heap.size + 1) 0 C.toList).heap.size) := by
    unfold Hid
    have := (below_setCells C.toList 0 ((w.alloc (.cells A 72)).alloc (.cells Tryz.zeroCells141 141)) (w.heap.size + 1) (Below.refl 0 _) (Nat.zero_le _)).size
    simp at this; omega
  have HBU := hidZ hbu
  have HSA := hidZ hAs
  have HSC := hidZ hCs
  have HOC := hidZ hCo
  have HCS : Hid ((∀ k, k < 258 → C[k]? = A[k]?) ∧ C[258]? = some (.string inp) ∧ C[259]? = some (.int .i64 (c0 : Int)) ∧ C[260]? = some (.int .i64 0) ∧ C[261]? = some (.int .i64 0) ∧ C[262]? = some (.slice none 0 0) ∧ C[263]? = some (.slice none 0 0)) := ⟨hC0, hC1, hC2, hC3, hC4, hC5, hC6⟩
  have HAL : Hid (A.toList.toArray = A) := by unfold Hid; simp
  have HM := hidZ hm
  have HI := hidZ hi
  have HA := hidZ hA
  clear hbu hAs hCs hCo hC0 hC1 hC2 hC3 hC4 hC5 hC6 hlen hone hAo hm hi hA
  go_enter Tryz.func25, Tryz.ntmps25
  go_upto_region 2 with (first
    | (refine wpList_boxTo rfl 72 (.tmp 0) rfl _ rfl w.heap.size rfl A rfl ?_)
    | (refine wpList_load_mid rfl 72 (.tmp 3) rfl w.heap.size 0 rfl A.toList _ HRA.out Tryz.underlying72 rfl ?_ ?_; (rw [Array.length_toList, HSA.out]; exact Tryz.imgSize); rw [HAL.out])
    | (refine wpList_buildTo rfl 141 _ rfl _ rfl C ?_ ?_; (simp only [List.map_toArray, List.map_cons, List.map_nil]; exact HBU.out))
    | (refine wpList_store_mid rfl 141 (.tmp 9) (.tmp 17) rfl (w.heap.size + 1) 0 C rfl rfl ?_ ?_ HOC.out ?_; (rw [HSC.out]; exact HT.out); (rw [HSC.out]; exact Tryz.cutSize)))
  have HFZ : Hid (∀ i, (((w.alloc (.cells A 72)).alloc (.cells Tryz.zeroCells141 141)).setCells (w.heap.size + 1) 0 C.toList).frozen? ⟨w.heap.size + 1, i, none⟩ = false) := fun i => by
    rw [frozen_setCells]
    have e : w.heap.size + 1 = (w.alloc (.cells A 72)).heap.size := by simp
    rw [e, World.frozen?_alloc_new]
  generalize ((w.alloc (.cells A 72)).alloc (.cells Tryz.zeroCells141 141)).setCells (w.heap.size + 1) 0 C.toList = W0 at *
  have hcC : ∀ k v, C[k]? = some v → W0.cell? ⟨w.heap.size + 1, k, none⟩ = some v := fun k v hk => by
    have := HRC.out k v (by simpa using hk)
    rw [Nat.zero_add] at this; exact this
  have HC0 : Hid (CW0 W0 (w.heap.size + 1) s inp bb vg vcap yb zb (.slice none 0 0) (fun _ => 0) c0 0) := by
    obtain ⟨h0, h1, h2, h3, h4, h5, h6⟩ := HCS.out
    refine ⟨(HM.out.below HB0.out (Nat.le_refl _)).mono (Nat.le_succ _), fun j u hu => ?_, hcC _ _ h1, hcC _ _ h2, hcC _ _ h3, hcC _ _ h4, hcC _ _ h5, hcC _ _ h6, HFZ.out, World.ownsRow_nil _ _ _ _, fun j k hj => by omega, HZ3.out, fun j hj => by omega, fun i j hi => by omega⟩
    have hj : j < 258 := by
      have := (List.getElem?_eq_some_iff.1 hu).1
      rw [imgC_len _ _ _ (by unfold lClassOf; rw [numsP_len]; rfl)] at this; exact this
    rw [Nat.zero_add]
    refine hcC j u ((h0 j hj).trans ?_)
    rw [← HA.out] at hu
    simpa using hu
  have hM := (img_head HI.out).2.2
  obtain ⟨M, EM⟩ : ∃ M, iM s = M := ⟨_, rfl⟩
  have c257 := HCA.out
  rw [EM] at c257 hM hc0
  have hMb : 1 ≤ M ∧ M ≤ 4 := ⟨hM.1, hM.2.1⟩
  replace EM := hidZ EM
  clear hM hcC HRC HTC HFZ HCS HBU HOC HSC HSA HAL HA HT HBS HRA HCA HZ3
  go_wp2_with fail
  clear c257
  go_loopw [21] (fun x wr => ∃ (m : Nat) (vh : Value) (hbk : Nat → Nat), x = .int .i64 (m : Int) ∧ m ≤ M ∧ CW0 wr (w.heap.size + 1) s inp bb vg vcap yb zb vh hbk c0 m ∧ Below w.heap.size w wr) (fun x _ => M - (intOf x).toNat)
  case atStart => exact ⟨0, _, _, rfl, Nat.zero_le _, HC0.out, HB0.out⟩
  case round =>
    obtain ⟨m, vh, hbk, rfl, hmM, hcw, hb⟩ := hrel
    have HC1 := hidZ hcw
    have HB1 := hidZ hb
    clear hcw hb HC0 HB0
    by_cases hlt : m < M
    · have hmi : m < iM s := by rw [EM.out]; exact hlt
      have m1 := HC1.out.mem.co m hmi
      have hns := nSt_le HI.out hmi
      obtain ⟨N, EN⟩ : ∃ N, nSt s m = N := ⟨_, rfl⟩
      rw [EN] at m1 hns
      obtain ⟨NL, ENL⟩ : ∃ NL, N * inp.size = NL := ⟨_, rfl⟩
      have hNL : NL ≤ 30000 := by rw [← ENL]; have := Nat.mul_le_mul hns.1 hin; omega
      have hNI : (N : Int) * (inp.size : Int) = (NL : Int) := by rw [← ENL]; simp
      have hwr : IntKind.i64.wrap ((N : Int) * (inp.size : Int)) = (NL : Int) := by rw [hNI]; exact IntWalk.i64_in _ (by omega)
      have hwr2 : IntKind.i64.wrap (NL : Int) = (NL : Int) := IntWalk.i64_in _ (by omega)
      have HNL2 : Hid (nSt s m * inp.size = NL) := by unfold Hid; rw [EN, ENL]
      replace EN := hidZ EN
      replace ENL := hidZ ENL
      obtain ⟨va, vcap', hv⟩ := rowSlice HC1.out.rh
      subst hv
      have k6 := HC1.out.k6
      have f6 := HC1.out.fz 263
      have hcb := HC1.out.hb
      have hol : okLen (.int .i64 (NL : Int)) := ⟨NL, rfl, hNL⟩
      have hll : lenV (.int .i64 (NL : Int)) = NL := by simp [lenV]
      have hmI : (0 : Int) ≤ (m : Int) ∧ (m : Int) < (M : Int) := by omega
      clear hmi
      have hd : decide ((m : Int) < (M : Int)) = true := by simp; omega
      go_wp2_with fail
      have x1 : (wr.alloc (.cells (madeCells #[.bool false] NL) 4)).cell? ⟨w.heap.size + 1, 263, none⟩ = some (.slice va m vcap') := (World.cell?_of_block (w := wr) (a := ⟨w.heap.size + 1, 263, none⟩) (Below.heap_alloc _ _ _ hcb)).trans k6
      have x2 : ((wr.alloc (.cells (madeCells #[.bool false] NL) 4)).alloc (.cells #[.slice (some ⟨wr.heap.size, 0, none⟩) NL NL] 80)).cell? ⟨w.heap.size + 1, 263, none⟩ = some (.slice va m vcap') := (World.cell?_of_block (w := wr) (a := ⟨w.heap.size + 1, 263, none⟩) ((Below.heap_alloc _ _ _ (by simp; omega)).trans (Below.heap_alloc _ _ _ hcb))).trans k6
      have hvl : ∀ q, (Value.slice va m vcap').ownBlock = some q → w.heap.size + 2 ≤ q ∧ q < wr.heap.size := fun q hq => HC1.out.rh.lt q hq
      go_region_law ((refine step_app1 (wr.drew.alloc (.cells (madeCells #[.bool false] NL) 4)) rfl (.tmp 26) (.tmp 33) 129 rfl (w.heap.size + 1 + 1) 80 (.slice none 0 0) 1 24 Tryz.underlying129 Tryz.infoBools rfl (by decide) (by decide) _ m (hopL s inp hbk m) [.slice (some ⟨wr.heap.size, 0, none⟩) NL NL] _ (by simp [Act.eval]) (HC1.out.rh.drew.alloc _) (wr.heap.size + 1) (by simp) (by simp [Act.eval]) rfl (by simp [Value.oneCell']) (by omega) (by simp; omega) ?_; intro g4 cap4 w4 hown4 hgrow4 hat4 hlt4; have e4 : w4.heap[w.heap.size + 1]? = wr.heap[w.heap.size + 1]? := ((hgrow4.block (w.heap.size + 1) (by simp; omega) (fun e => by have := hvl _ e.symm; omega)).trans (Below.heap_alloc _ _ _ (by simp; omega))).trans (Below.heap_alloc _ _ _ hcb); have m3 := (World.cell?_of_block (w := wr) (a := ⟨w.heap.size + 1, 263, none⟩) e4).trans k6; have n3 := (World.frozen?_of_block (w := wr) (a := ⟨w.heap.size + 1, 263, none⟩) e4).trans f6; have HMO := hidZ (HC1.out.drew.more HNL2.out hown4 hgrow4 (hat4.imp id (fun h => h.trans (by simp)))); have HBG : Hid (Below w.heap.size w w4) := (((below_to_drew HB1.out).alloc (by have := HB1.out.size; show w.heap.size ≤ wr.heap.size; omega) _).alloc (by have := HB1.out.size; simp; omega) _).grown hgrow4 (by have := HB1.out.size; simp; omega) (fun q hq => by have := hvl q hq; omega)))
      all_goals
        go_wp2
        go_roundw
        case rel => exact ⟨m + 1, _, _, by go_num, hlt, HMO.out, HBG.out.setCell (p := ⟨w.heap.size + 1, 263, none⟩) (Nat.le_succ _) _⟩
        case measure => simp [intOf]; omega
    · have e : m = M := by omega
      subst e
      have hd : decide ((m : Int) < (m : Int)) = false := by simp
      obtain ⟨hg, hcap, hcw⟩ := CW0.done (by rw [EM.out]; exact HC1.out) (by rw [EM.out]; exact hMb.1)
      have HCW := hidZ hcw
      clear hcw HC1
      go_wp2_with fail
      go_loopg [12] (inp.size + 1) (fun gk _ wr => ∃ (p c n : Nat) (H T : List (Int × Int × Int)) (HT : Nat → Nat → Bool) (vt : Value), p ≤ inp.size ∧ inp.size - p < gk ∧ c < m ∧ n ≤ p * 300 ∧ T.length ≤ p ∧ cutP s inp c0 = runP s inp gk p c H n T ∧
        CW wr (w.heap.size + 1) wr.heap.size s inp bb vg vcap yb zb vt hg hcap hbk HT c p n T ∧ hopeOk s inp H HT ∧ allDead s inp H ∧ Below w.heap.size w wr)
      case atStart => exact ⟨0, c0, 0, [], [], fun _ _ => false, .slice none 0 0, Nat.zero_le _, by omega, by omega, by omega, by simp, rfl, HCW.out, hope_nil _ _, fun _ _ _ h => absurd h (List.not_mem_nil), HB1.out⟩
      case round =>
        obtain ⟨p, c, n, H, T, HT, vt, hp, hgk, hc, hn, hT, hrun, hcw, hho, hdead, hb⟩ := hrel
        have HRN := hidZ hrun
        have HC2 := hidZ hcw
        have HH2 := hidZ hho
        have HD2 := hidZ hdead
        have HB2 := hidZ hb
        clear hrun hcw hho hdead hb HCW HB1
        have k3 := HC2.out.k3
        by_cases hlt : p < inp.size
        · have hci : c < iM s := by rw [EM.out]; exact hc
          have hlk := clook_any s inp (w.heap.size + 1) bb vg vcap yb zb vt hg hcap hbk HT c p n H T wr HI.out hin hp hci (by omega) HH2.out HC2.out
          have hlf := look_finds (c := c) HD2.out hp
          have hla := look_dead (c := c) HD2.out hp
          have hll := @lookFrom_len s inp c p H
          have hcs := lng_cases HI.out hci hp (inp := inp)
          obtain ⟨f, rfl⟩ : ∃ f, gk = f + 1 := ⟨gk - 1, by omega⟩
          have hrn0 := @runP_none s inp f p c n H T hlt
          have hrn1 := fun r q => @runP_some s inp f p c n r q H T hlt
          unfold LookOut at hlk
          generalize lookFrom s inp c H p = SF at *
          obtain ⟨SL, kk⟩ := SF
          generalize lookT s inp c H (inp.size - p) 0 p none = best at *
          simp only at *
          have hd2 : decide ((p : Int) < (inp.size : Int)) = true := by simp; omega
          have HLA := hidZ hla
          cases best with
          | none =>
            simp only at hlf
            have HE : Hid (cutP s inp c0 = (T ++ [(-1, (p : Int), (p : Int))], n + kk, c)) := HRN.out.trans (hrn0 hlf)
            clear hlf hla hcs hrn0 hrn1
            go_wp2_with fail
            refine hlk.mono ?_
            rintro e w1 ⟨rfl, hb1, HT1, hcw1, hho1⟩
            have HC3 := hidZ hcw1
            have HB3 := hidZ (HB2.out.trans (hb1.mono (Nat.le_succ _)))
            clear hcw1 hho1 hb1 hlk k3 HC2 HB2
            have k3 := HC3.out.k3
            go_wp2_with fail
            refine (ctell_any s inp (w.heap.size + 1) bb vg vcap yb zb vt hg hcap hbk HT1 c p (n + kk) T (-1) (p : Int) _ (by omega) HC3.out).mono ?_
            rintro e w2 ⟨rfl, hb2, vt2, hcw2⟩
            have HC4 := hidZ hcw2
            have HB4 := hidZ (HB3.out.trans (hb2.mono (Nat.le_succ _)))
            clear hcw2 hb2 HC3 HB3 k3
            have k2 := HC4.out.k2
            have k4 := HC4.out.k4
            have k5 := HC4.out.k5
            go_wp2
            go_quiet (fail)
            go_wp2
            go_ret3
            refine ⟨vt2, by rw [HE.out]; rfl, by rw [HE.out]; exact HC4.out.rt, ⟨HB4.out.os, HB4.out.tape, HB4.out.output, HB4.out.size, HB4.out.block⟩⟩
          | some x =>
            obtain ⟨r, q⟩ := x
            simp only at hlf
            have hx : r < iR s ∧ p < q ∧ q ≤ inp.size := by
              rcases hcs with h1 | ⟨r', q', h1, h2, h3, h4⟩
              · rw [hlf] at h1; injection h1 with h1 _; omega
              · rw [hlf] at h1
                injection h1 with h5 h6
                have h7 : r = r' := by omega
                rw [h7, h6]; exact ⟨h2, h3, h4⟩
            have HE := hidZ (HRN.out.trans (hrn1 r q hlf))
            have hth := then_le HI.out hx.1
            rw [EM.out] at hth
            clear hlf hla hcs hrn0 hrn1
            obtain ⟨tk, htk⟩ : ∃ tk : Nat, tk = tokN (some (r, q)) := ⟨_, rfl⟩
            obtain ⟨tq, htq⟩ : ∃ tq : Nat, tq = toN p (some (r, q)) := ⟨_, rfl⟩
            rw [← htk, ← htq] at hlk
            have htk1 : (tk : Int) - 1 = (r : Int) := by rw [htk]; simp [tokN]
            have htk0 : ((tk : Int) == 0) = false := by rw [beq_eq_false_iff_ne, htk]; simp only [tokN]; omega
            have HTQ : Hid (tq = q) := htq
            have hrb : r ≤ 8 := by have := (img_head HI.out).1; omega
            clear htk htq
            have htkb : tk ≤ 9 := by omega
            go_wp2_with fail
            refine hlk.mono ?_
            rintro e w1 ⟨rfl, hb1, HT1, hcw1, hho1⟩
            have HC3 := hidZ hcw1
            have HH3 := hidZ hho1
            have HB3 := hidZ (HB2.out.trans (hb1.mono (Nat.le_succ _)))
            clear hcw1 hho1 hb1 hlk k3 HC2 HB2
            go_wp2_with fail
            refine (cpass_any s inp (w.heap.size + 1) bb vg vcap yb zb vt hg hcap hbk HT1 c p (n + kk) T r tq _ HI.out hx.1 (by omega) HC3.out).mono ?_
            rintro e w2 ⟨rfl, hb2, vt2, hcw2⟩
            have HC4 := hidZ hcw2
            have HB4 := hidZ (HB3.out.trans (hb2.mono (Nat.le_succ _)))
            clear hcw2 hb2 HC3 HB3
            rw [HTQ.out] at HC4
            go_wp2
            go_roundg f
            case measure => omega
            case rel =>
              refine ⟨q, _, _, _, _, HT1, vt2, hx.2.2, by omega, ?_, ?_, ?_, HE.out, HC4.out, HH3.out, HLA.out, HB4.out⟩
              · split <;> omega
              · omega
              · split
                · omega
                · simp; omega
        · have HE : Hid (cutP s inp c0 = (T, n, c)) := by
            obtain ⟨f, rfl⟩ : ∃ f, gk = f + 1 := ⟨gk - 1, by omega⟩
            exact HRN.out.trans (runP_end hlt)
          have hd2 : decide ((p : Int) < (inp.size : Int)) = false := by simp; omega
          have k2 := HC2.out.k2
          have k4 := HC2.out.k4
          have k5 := HC2.out.k5
          go_wp2
          go_quiet (fail)
          go_wp2
          go_ret3
          refine ⟨vt, by rw [HE.out]; rfl, by rw [HE.out]; exact HC2.out.rt, ⟨HB2.out.os, HB2.out.tape, HB2.out.output, HB2.out.size, HB2.out.block⟩⟩
end Go.Proofs.YtgjgjgihceijnaaGreat

namespace Go.Proofs.YtgjgjgihceijnaaGreat
open Go.RowKit Go.Stn

/-- A cutter of the program in memory: its image, from lo on, and its condition. -/
structure CT (w : World) (cb lo : Nat) (s : ByteArray) (c bb vg vcap : Nat) (yb : Nat → Nat) (zb : Nat → Nat → Nat) : Prop where
  ok : imgOk s = true
  sz : s.size ≤ 120000
  hc : c < iM s
  mem : IM w s bb vg yb zb cb
  il : ILo s bb vg yb zb lo
  im : w.rangeAt cb 0 (imgC (.slice (some ⟨bb, 0, none⟩) (iR s) (iR s)) (lClassOf s) (.slice (some ⟨vg, 0, none⟩) (iM s) vcap))
  k1 : w.cell? ⟨cb, 258, none⟩ = some (.int .i64 c)
  fz : ∀ i, w.frozen? ⟨cb, i, none⟩ = false
  b0 : cb < w.heap.size
  b1 : lo ≤ cb

theorem CT.blocks {w w' : World} {cb lo : Nat} {s : ByteArray} {c bb vg vcap : Nat} {yb : Nat → Nat} {zb : Nat → Nat → Nat} (h : CT w cb lo s c bb vg vcap yb zb) (hB : ∀ k, lo ≤ k → k ≤ cb → w'.heap[k]? = w.heap[k]?) (hz : w.heap.size ≤ w'.heap.size) : CT w' cb lo s c bb vg vcap yb zb :=
  ⟨h.ok, h.sz, h.hc, h.mem.blocks h.il (fun k h1 h2 => hB k h1 (Nat.le_of_lt h2)), h.il, fun j v hv => (World.cell?_of_block (w := w) (a := ⟨cb, 0 + j, none⟩) (hB cb h.b1 (Nat.le_refl _))).trans (h.im j v hv),
    (World.cell?_of_block (w := w) (a := ⟨cb, 258, none⟩) (hB cb h.b1 (Nat.le_refl _))).trans h.k1, fun i => (World.frozen?_of_block (w := w) (a := ⟨cb, i, none⟩) (hB cb h.b1 (Nat.le_refl _))).trans (h.fz i), Nat.lt_of_lt_of_le h.b0 hz, h.b1⟩

theorem Tryz.ctrZero : ((Tryz.prog.info? 154).map (·.zero)) = some (some (.agg Tryz.zeroCells154)) := by kernel_rfl
theorem Tryz.ctrZeroSize : Tryz.zeroCells154.size = 259 := by kernel_rfl
theorem Tryz.ctrZeroTail : Tryz.zeroCells154[258]? = some (.int .i64 0) := by kernel_rfl
theorem Tryz.ctrZeroOne : Tryz.zeroCells154.all (·.oneCell') = true := by kernel_rfl
theorem Tryz.ctrPlaces : (match Tryz.prog.underlying 154 with
    | some (.struct fs) => fs.toList.mapM (fun f => (Tryz.prog.info? f.type).map fun i => (f.offset, i.size))
    | _ => none) = some [(0, 258), (258, 1)] := by kernel_rfl
theorem Tryz.ctrBuilt (parts : List (Nat × Value)) : Tryz.prog.built 154 parts = Instr.fill ([(0, 258), (258, 1)].toArray[·]?) Tryz.zeroCells154 parts := by
  have h0 := Tryz.ctrZero
  have hp := Tryz.ctrPlaces
  generalize Tryz.zeroCells154 = Z at *
  unfold Program.built
  cases hi : Tryz.prog.info? 154 with
  | none => rw [hi] at h0; cases h0
  | some it =>
    rw [hi] at h0
    have hz : it.zero = some (.agg Z) := by simpa using h0
    cases hu : Tryz.prog.underlying 154 with
    | none => rw [hu] at hp; cases hp
    | some d =>
      rw [hu] at hp
      cases d with
      | struct fs =>
        simp only at hp
        simp only [hz, hp, Value.cells]
      | _ => cases hp

/-- The cells of a new cutter. -/
theorem ctr_built (A : Array Value) (hA : A.size = 258) (hone : A.all (·.oneCell') = true) : ∃ C : Array Value, Tryz.prog.built 154 [(0, .agg A)] = some C ∧ C.size = 259 ∧ C.all (·.oneCell') = true ∧
    (∀ k, k < 258 → C[k]? = A[k]?) ∧ C[258]? = some (.int .i64 0) := by
  have hz := Tryz.ctrZeroSize
  have ht := Tryz.ctrZeroTail
  have ho := Tryz.ctrZeroOne
  rw [Tryz.ctrBuilt]
  generalize Tryz.zeroCells154 = Z at *
  obtain ⟨s1, g1⟩ := fill_get 0 A Z
  refine ⟨A.zipIdx.foldl (fun cs x => cs.setIfInBounds (0 + x.2) x.1) Z, ?_, by rw [s1, hz], ?_, fun k hk => ?_, ?_⟩
  · have e1 : (Value.agg A).cells = A := rfl
    unfold Instr.fill
    simp only [List.getElem?_toArray, List.getElem?_cons_zero, e1, hA, hz]
    rw [if_neg (by decide)]
    unfold Instr.fill
    rfl
  · rw [Array.all_eq_true]
    intro i hi
    have hv := Array.getElem?_eq_getElem hi
    rw [g1] at hv
    generalize (A.zipIdx.foldl (fun cs x => cs.setIfInBounds (0 + x.2) x.1) Z)[i] = u at *
    split at hv
    · exact all_get hone hv
    · exact all_get ho hv
  · rw [g1, if_pos (by omega)]; rfl
  · rw [g1, if_neg (by omega)]; exact ht

/-- What Open comes to. -/
def OpenOut (w : World) (s : ByteArray) (e : Ending) (w' : World) : Prop :=
  Below w.heap.size w w' ∧ ((¬ (s.size ≤ 120000 ∧ imgOk s = true) ∧ e = .returned (.tuple #[.pointer none, .int .i64 (chk s)])) ∨ (s.size ≤ 120000 ∧ imgOk s = true ∧
    ∃ (cb bb vg vcap : Nat) (yb : Nat → Nat) (zb : Nat → Nat → Nat), e = .returned (.tuple #[.pointer (some ⟨cb, 0, none⟩), .int .i64 0]) ∧ CT w' cb w.heap.size s 0 bb vg vcap yb zb))

set_option maxRecDepth 100000 in
set_option maxHeartbeats 1000000 in
theorem popen_any (s : ByteArray) (w : World) :
    Calls Tryz.prog 90 #[.string s] w fun e w' => OpenOut w s e w' := by
  go_enter Tryz.func90, Tryz.ntmps90
  go_wp2_with fail
  refine (lread_any s _).mono ?_
  by_cases hok : s.size ≤ 120000 ∧ imgOk s = true
  · rintro e w1 ⟨hb1, ⟨hno, _⟩ | ⟨_, hi, bb, vc, ys, rfl, hn, ho, hm, hc, hk⟩⟩
    · exact absurd hok hno
    obtain ⟨vg, cap, yb, zb, rfl, him, hil⟩ := read_mem hi hn ho hm hc hk
    have hlen := imgC_len (.slice (some ⟨bb, 0, none⟩) (lRules s) (lRules s)) (lClassOf s) (.slice (some ⟨vg, 0, none⟩) (iM s) cap) (by unfold lClassOf; rw [numsP_len]; rfl)
    have hone := imgC_one (vb := .slice (some ⟨bb, 0, none⟩) (lRules s) (lRules s)) (vc := .slice (some ⟨vg, 0, none⟩) (iM s) cap) (cs := lClassOf s) rfl rfl
    obtain ⟨IL, EIL⟩ : ∃ l, imgC (.slice (some ⟨bb, 0, none⟩) (lRules s) (lRules s)) (lClassOf s) (.slice (some ⟨vg, 0, none⟩) (iM s) cap) = l := ⟨_, rfl⟩
    rw [EIL] at hlen hone ⊢
    have HTL : Hid (IL.toArray.toList = IL) := by unfold Hid; simp
    have HSZ : Hid (IL.toArray.size = 258) := by unfold Hid; simpa using hlen
    have HALL : Hid (IL.toArray.all (·.oneCell') = true) := all_oneCell_toArray hone
    obtain ⟨A, EA⟩ : ∃ a, IL.toArray = a := ⟨_, rfl⟩
    rw [EA] at HTL HSZ HALL ⊢
    have HA : Hid (A.toList = imgC (.slice (some ⟨bb, 0, none⟩) (iR s) (iR s)) (lClassOf s) (.slice (some ⟨vg, 0, none⟩) (iM s) cap)) := by
      unfold Hid; rw [HTL.out, ← EIL, (img_read hi).ru]
    have HIM := hidZ him
    have HIL := hidZ hil
    have HI := hidZ hi
    have HB1 := hidZ hb1
    have HOK := hidZ hok
    obtain ⟨C, hbu, hCs, hCo, hC0, hC1⟩ := ctr_built A HSZ.out HALL.out
    have HBU := hidZ hbu
    have HSC := hidZ hCs
    have HOC := hidZ hCo
    clear EIL hlen hone EA HTL him hi hb1 hn ho hm hc hok hil hk hbu hCs hCo
    have HN2 := hidZ (there_newA w1 Tryz.zeroCells72 72 w1.heap.size 258 Tryz.imgZero rfl)
    have HBS : Hid (Below w1.heap.size w1 ((w1.alloc (.cells Tryz.zeroCells72 72)).setCells w1.heap.size 0 A.toList)) := below_setCells _ 0 _ w1.heap.size ((Below.refl _ _).alloc (Nat.le_refl _) _) (Nat.le_refl _)
    have HRI : Hid (((w1.alloc (.cells Tryz.zeroCells72 72)).setCells w1.heap.size 0 A.toList).rangeAt w1.heap.size 0 A.toList) := World.rangeAt_setCells_same _ _ _ _ (by rw [Array.length_toList, HSZ.out]; exact HN2.out)
    have HIM2 : Hid (IM ((w1.alloc (.cells Tryz.zeroCells72 72)).setCells w1.heap.size 0 A.toList) s bb vg yb zb ((w1.alloc (.cells Tryz.zeroCells72 72)).setCells w1.heap.size 0 A.toList).heap.size) := (HIM.out.below HBS.out (Nat.le_refl _)).mono HBS.out.size
    have HB2 : Hid (Below w.heap.size w ((w1.alloc (.cells Tryz.zeroCells72 72)).setCells w1.heap.size 0 A.toList)) := HB1.out.trans (HBS.out.mono HB1.out.size)
    generalize hW2 : (w1.alloc (.cells Tryz.zeroCells72 72)).setCells w1.heap.size 0 A.toList = w2 at *
    replace hW2 := hidZ hW2
    clear HIM HB1 HBS
    have HC0 := hidZ hC0
    have HC1 := hidZ hC1
    clear hC0 hC1
    go_wp2_with (first
      | (refine wpList_store_mid rfl 72 (.tmp 4) (.tmp 9) rfl w1.heap.size 0 A rfl rfl ?_ ?_ HALL.out ?_; (rw [HSZ.out]; exact HN2.out); (rw [HSZ.out]; exact Tryz.imgSize); rw [hW2.out])
      | (refine wpList_load_mid rfl 72 (.tmp 4) rfl w1.heap.size 0 rfl A.toList _ HRI.out Tryz.underlying72 rfl ?_ ?_; (rw [Array.length_toList, HSZ.out]; exact Tryz.imgSize); rw [Array.toArray_toList])
      | (refine wpList_buildTo rfl 154 _ rfl _ rfl C ?_ ?_; (simp only [List.map_toArray, List.map_cons, List.map_nil]; exact HBU.out))
      | (refine wpList_boxTo rfl 154 (.tmp 15) rfl _ rfl w2.heap.size rfl C rfl ?_)
      | fail)
    go_ret2
    have hr := rangeAt_new w2 C 154
    have hbn : Below w2.heap.size w2 (w2.alloc (.cells C 154)) := (Below.refl _ _).alloc (Nat.le_refl _) _
    have hz := HB2.out.size
    have cellC : ∀ k v, C[k]? = some v → (w2.alloc (.cells C 154)).cell? ⟨w2.heap.size, k, none⟩ = some v := fun k v hv => by
      have := hr k v (by simpa using hv); rw [Nat.zero_add] at this; exact this
    refine ⟨HB2.out.trans (hbn.mono hz), .inr ⟨HOK.out.1, HOK.out.2, w2.heap.size, bb, vg, cap, yb, zb, rfl, HOK.out.2, HOK.out.1, (img_head HI.out).2.2.1, HIM2.out.below hbn (Nat.le_refl _), HIL.out, ?_, cellC _ _ HC1.out, fun i => by rw [World.frozen?_alloc_new], by simp, hz⟩⟩
    intro j u hu
    have hj : j < 258 := by
      have := (List.getElem?_eq_some_iff.1 hu).1
      rw [imgC_len _ _ _ (by unfold lClassOf; rw [numsP_len]; rfl)] at this; exact this
    rw [Nat.zero_add]
    refine cellC j u ((HC0.out j hj).trans ?_)
    rw [← HA.out] at hu
    simpa using hu
  · have hne : ((chk s : Int) != 0) = true := by
      rw [bne_iff_ne]
      unfold chk
      by_cases h1 : 120000 < s.size
      · rw [if_pos h1]; decide
      · have h2 : ¬ imgOk s = true := fun h => hok ⟨by omega, h⟩
        rw [if_neg h1, if_neg h2]; decide
    have HNO := hidZ hok
    rintro e w1 ⟨hb1, ⟨_, rfl⟩ | ⟨h1, h2, _⟩⟩
    · have HB1 := hidZ hb1
      have HN2 := hidZ (there_newA w1 Tryz.zeroCells72 72 w1.heap.size 258 Tryz.imgZero rfl)
      have HBS : Hid (Below w1.heap.size w1 ((w1.alloc (.cells Tryz.zeroCells72 72)).setCells w1.heap.size 0 Tryz.zeroCells72.toList)) := below_setCells _ 0 _ w1.heap.size ((Below.refl _ _).alloc (Nat.le_refl _) _) (Nat.le_refl _)
      clear hb1 hok
      obtain ⟨ck, hck⟩ : ∃ ck, chk s = ck := ⟨_, rfl⟩
      rw [hck] at hne ⊢
      replace hck := hidZ hck
      go_wp2_with (first
        | (refine wpList_store_mid rfl 72 (.tmp 4) (.tmp 9) rfl w1.heap.size 0 Tryz.zeroCells72 rfl rfl ?_ ?_ Tryz.imgZeroOne ?_; (rw [Tryz.imgZero]; exact HN2.out); (rw [Tryz.imgZero]; exact Tryz.imgSize))
        | fail)
      go_ret2
      exact ⟨HB1.out.trans (HBS.out.mono HB1.out.size), .inl ⟨HNO.out, by rw [hck.out]; rfl⟩⟩
    · exact absurd ⟨h1, h2⟩ hok
end Go.Proofs.YtgjgjgihceijnaaGreat

