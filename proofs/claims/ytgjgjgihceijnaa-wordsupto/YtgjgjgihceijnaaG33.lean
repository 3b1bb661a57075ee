/- Texts put together: KtBuiltM, KtZ. -/
import Derived.Test.YtgjgjgihceijnaaG32
import Derived.Test.YtgjgjgihceijnaaG02
import Derived.Great.BuildSlice
namespace Go.Stn
def nodesC (l : List Nd) : List Value := l.flatMap Nd.cells
def topsC (l : List Nat) : List Value := l.map fun (t : Nat) => Value.int .i64 (t : Int)
theorem nodesC_app (l m : List Nd) : nodesC (l ++ m) = nodesC l ++ nodesC m := by unfold nodesC; simp
theorem nodesC_get : ∀ (l : List Nd) (j : Nat) (x : Nd) (i : Nat) (v : Value), l[j]? = some x → x.cells[i]? = some v → (nodesC l)[j * 9 + i]? = some v
  | [], j, x, i, v, h, _ => by simp at h
  | y :: l, 0, x, i, v, h, hv => by
    have e : y = x := by simpa using h
    subst e
    show (y.cells ++ nodesC l)[0 * 9 + i]? = some v
    have hi : i < y.cells.length := (List.getElem?_eq_some_iff.1 hv).1
    rw [show 0 * 9 + i = i by omega, List.getElem?_append_left hi]
    exact hv
  | y :: l, j + 1, x, i, v, h, hv => by
    show (y.cells ++ nodesC l)[(j + 1) * 9 + i]? = some v
    have hl : y.cells.length = 9 := rfl
    rw [List.getElem?_append_right (by omega), show (j + 1) * 9 + i - y.cells.length = j * 9 + i by omega]
    exact nodesC_get l j x i v (by simpa using h) hv
theorem topsC_get {l : List Nat} {j t : Nat} (h : l[j]? = some t) : (topsC l)[j]? = some (.int .i64 (t : Int)) := by unfold topsC; rw [List.getElem?_map, h]; rfl
theorem topsC_len (l : List Nat) : (topsC l).length = l.length := by unfold topsC; simp
end Go.Stn
namespace Go.Proofs.Ytgjgjgihceijnaa
open Go.RowKit Go.Stn
/-- The rules under way. -/
structure BI (w0 w : World) (vA vT : Value) (s : PB) : Prop where
  c0 : w.cell? ⟨w0.heap.size + 1, 0, none⟩ = some vA
  c1 : w.cell? ⟨w0.heap.size + 1, 1, none⟩ = some vT
  fz : ∀ i, w.frozen? ⟨w0.heap.size + 1, i, none⟩ = false
  th : w.there w0.heap.size 0 2
  ra : w.ownsRow (w0.heap.size + 2) 109 9 vA s.1.length (nodesC s.1)
  rt : w.ownsRow (w0.heap.size + 2) 3 1 vT s.2.length (topsC s.2)
  ap : apartV vA vT
  bl : Below w0.heap.size w0 w
  hz : w0.heap.size + 2 ≤ w.heap.size
variable {w0 w w' : World} {vA vT : Value} {s : PB}
theorem BI.below (h : BI w0 w vA vT s) (hB : Below w.heap.size w w') : BI w0 w' vA vT s := by
  have hz := h.hz
  exact ⟨(hB.cell (p := ⟨w0.heap.size + 1, 0, none⟩) (by show w0.heap.size + 1 < w.heap.size; omega)).trans h.c0, (hB.cell (p := ⟨w0.heap.size + 1, 1, none⟩) (by show w0.heap.size + 1 < w.heap.size; omega)).trans h.c1,
    fun i => (hB.frozen (p := ⟨w0.heap.size + 1, i, none⟩) (by show w0.heap.size + 1 < w.heap.size; omega)).trans (h.fz i), there_below h.th hB (by omega),
    row_below h.ra hB (fun k hk => (h.ra.lt k hk).2), row_below h.rt hB (fun k hk => (h.rt.lt k hk).2), h.ap, h.bl.trans (hB.mono h.bl.size), Nat.le_trans h.hz hB.size⟩
theorem BI.ruin {ga ca gt ct : Nat} (h : BI w0 w (.slice (some ⟨ga, 0, none⟩) s.1.length ca) (.slice (some ⟨gt, 0, none⟩) s.2.length ct) s) (hok : ∀ (j t : Nat), s.2[j]? = some t → t < s.1.length) : RuIn w ga gt s.1 s.2 := by
  refine ⟨fun j x hx i v hv => ?_, fun i t ht => ?_, hok, (h.ra.lt ga rfl).2, (h.rt.lt gt rfl).2⟩
  · have := h.ra.cells rfl (j * 9 + i) v (nodesC_get _ _ _ _ _ hx hv)
    rw [show ((⟨ga, 0, none⟩ : Addr).add (j * 9 + i)) = ⟨ga, j * 9 + i, none⟩ by simp [Addr.add]; omega] at this
    exact this
  · have := h.rt.cells rfl i _ (topsC_get ht)
    rw [show ((⟨gt, 0, none⟩ : Addr).add i) = ⟨gt, i, none⟩ by simp [Addr.add]; omega] at this
    exact this
/-- The first k tops. -/
theorem BI.shrink {a : Option Addr} {n cap : Nat} (h : BI w0 w vA (.slice a n cap) s) {k : Nat} (hk : k ≤ s.2.length) : BI w0 (w.setCell ⟨w0.heap.size + 1, 1, none⟩ (.slice a k cap)) vA (.slice a k cap) (s.1, s.2.take k) := by
  have hz := h.hz
  refine ⟨?_, World.cell?_setCell_same _ _ _ h.c1, fun i => by rw [World.frozen?_setCell]; exact h.fz i, there_set h.th _ _, ownsRow_setCell_below h.ra (show w0.heap.size + 1 < w0.heap.size + 2 by omega) _, ?_, ?_, h.bl.setCell (p := ⟨w0.heap.size + 1, 1, none⟩) (by show w0.heap.size ≤ w0.heap.size + 1; omega) _, by simp [World.setCell]; omega⟩
  · rw [World.cell?_setCell_other (h := by intro e; injection e; omega)]; exact h.c0
  · refine ownsRow_setCell_below ?_ (show w0.heap.size + 1 < w0.heap.size + 2 by omega) _
    have hkl : (s.2.take k).length = k := by rw [List.length_take]; omega
    rw [show (s.1, s.2.take k).2 = s.2.take k from rfl, hkl]
    refine ⟨by rw [topsC_len, hkl]; omega, ?_⟩
    rcases h.rt.2 with ⟨e, e2⟩ | ⟨g, c, cur, e, hbg, hg, hnc, hcm, hcs, htake⟩
    · injection e with e1 e3 e4
      subst e1 e3 e4
      have hk0 : k = 0 := by omega
      subst hk0
      exact .inl ⟨rfl, rfl⟩
    · injection e with e1 e3 e4
      subst e1 e4
      refine .inr ⟨g, cap, cur, rfl, hbg, hg, by omega, hcm, hcs, ?_⟩
      rw [Nat.mul_one] at htake ⊢
      rw [show topsC (s.2.take k) = (topsC s.2).take k by unfold topsC; rw [List.map_take], ← htake, List.take_take, Nat.min_eq_left hk]
  · intro b e1 e2
    refine h.ap b e1 ?_
    cases a with
    | none => cases e2
    | some ad => exact e2
/-- One top more. -/
theorem BI.moreT {w4 : World} {o : Obj} {g cap : Nat} (h : BI w0 w vA vT s) (t : Nat)
    (hown : w4.ownsRow (w0.heap.size + 2) 3 1 (.slice (some ⟨g, 0, none⟩) (s.2.length + 1) cap) (s.2.length + 1) (topsC s.2 ++ [.int .i64 (t : Int)]))
    (hgrow : (w.alloc o).grownBy w4 vT.ownBlock) (hat : vT.ownBlock = some g ∨ g = w.heap.size + 1) :
    BI w0 (w4.setCell ⟨w0.heap.size + 1, 1, none⟩ (.slice (some ⟨g, 0, none⟩) (s.2.length + 1) cap)) vA (.slice (some ⟨g, 0, none⟩) (s.2.length + 1) cap) (s.1, s.2 ++ [t]) := by
  have hz := h.hz
  have hsz := hgrow.size
  simp at hsz
  have hne : ∀ k, k < w0.heap.size + 2 → some k ≠ vT.ownBlock := fun k hk e => by have := (h.rt.lt k e.symm).1; omega
  obtain ⟨gc, gf⟩ := grow_cell hgrow (k := w0.heap.size + 1) (by omega) (hne _ (by omega))
  have hbl : (w.alloc o).heap[w0.heap.size]? = w.heap[w0.heap.size]? := Below.heap_alloc w o _ (by omega)
  refine ⟨?_, World.cell?_setCell_same (u := vT) _ _ _ ((gc 1).trans h.c1), fun i => by rw [World.frozen?_setCell, gf]; exact h.fz i, there_set (there_block h.th ((hgrow.block w0.heap.size (by simp; omega) (hne _ (by omega))).trans hbl)) _ _, ?_, ?_, ?_, ?_, ?_⟩
  · rw [World.cell?_setCell_other (h := by intro e; injection e; omega), gc]; exact h.c0
  · refine ownsRow_setCell_below ((h.ra.alloc o).kept hgrow ?_) (show w0.heap.size + 1 < w0.heap.size + 2 by omega) _
    cases hv : vA.ownBlock with
    | none => exact .inl rfl
    | some k => right; intro e; exact h.ap k hv e.symm
  · have e : topsC (s.2 ++ [t]) = topsC s.2 ++ [.int .i64 (t : Int)] := by unfold topsC; simp
    show World.ownsRow _ _ _ _ _ (s.2 ++ [t]).length (topsC (s.2 ++ [t]))
    rw [e, show (s.2 ++ [t]).length = s.2.length + 1 by simp]
    exact ownsRow_setCell_below hown (show w0.heap.size + 1 < w0.heap.size + 2 by omega) _
  · intro k e1 e2
    have e2 : some g = some k := e2
    injection e2 with e2
    subst e2
    rcases hat with hat | hat
    · exact h.ap g e1 hat
    · have := (h.ra.lt g e1).2; omega
  · exact (below_app h.bl (by omega) h.rt (by omega) hgrow).setCell (p := ⟨w0.heap.size + 1, 1, none⟩) (by show w0.heap.size ≤ w0.heap.size + 1; omega) _
  · simp [World.setCell]; omega
/-- One node more. -/
theorem BI.moreA {w4 : World} {o : Obj} {g cap : Nat} (h : BI w0 w vA vT s) (x : Nd)
    (hown : w4.ownsRow (w0.heap.size + 2) 109 9 (.slice (some ⟨g, 0, none⟩) (s.1.length + 1) cap) (s.1.length + 1) (nodesC s.1 ++ x.cells))
    (hgrow : (w.alloc o).grownBy w4 vA.ownBlock) (hat : vA.ownBlock = some g ∨ g = w.heap.size + 1) :
    BI w0 (w4.setCell ⟨w0.heap.size + 1, 0, none⟩ (.slice (some ⟨g, 0, none⟩) (s.1.length + 1) cap)) (.slice (some ⟨g, 0, none⟩) (s.1.length + 1) cap) vT (s.1 ++ [x], s.2) := by
  have hz := h.hz
  have hsz := hgrow.size
  simp at hsz
  have hne : ∀ k, k < w0.heap.size + 2 → some k ≠ vA.ownBlock := fun k hk e => by have := (h.ra.lt k e.symm).1; omega
  obtain ⟨gc, gf⟩ := grow_cell hgrow (k := w0.heap.size + 1) (by omega) (hne _ (by omega))
  have hbl : (w.alloc o).heap[w0.heap.size]? = w.heap[w0.heap.size]? := Below.heap_alloc w o _ (by omega)
  refine ⟨World.cell?_setCell_same (u := vA) _ _ _ ((gc 0).trans h.c0), ?_, fun i => by rw [World.frozen?_setCell, gf]; exact h.fz i, there_set (there_block h.th ((hgrow.block w0.heap.size (by simp; omega) (hne _ (by omega))).trans hbl)) _ _, ?_, ?_, ?_, ?_, ?_⟩
  · rw [World.cell?_setCell_other (h := by intro e; injection e; omega), gc]; exact h.c1
  · have e : nodesC (s.1 ++ [x]) = nodesC s.1 ++ x.cells := by rw [nodesC_app]; show _ ++ (x.cells ++ []) = _; rw [List.append_nil]
    show World.ownsRow _ _ _ _ _ (s.1 ++ [x]).length (nodesC (s.1 ++ [x]))
    rw [e, show (s.1 ++ [x]).length = s.1.length + 1 by simp]
    exact ownsRow_setCell_below hown (show w0.heap.size + 1 < w0.heap.size + 2 by omega) _
  · refine ownsRow_setCell_below ((h.rt.alloc o).kept hgrow ?_) (show w0.heap.size + 1 < w0.heap.size + 2 by omega) _
    cases hv : vT.ownBlock with
    | none => exact .inl rfl
    | some k => right; intro e; exact h.ap k e.symm hv
  · intro k e1 e2
    have e1 : some g = some k := e1
    injection e1 with e1
    subst e1
    rcases hat with hat | hat
    · exact h.ap g hat e2
    · have := (h.rt.lt g e2).2; omega
  · exact (below_app h.bl (by omega) h.ra (by omega) hgrow).setCell (p := ⟨w0.heap.size + 1, 0, none⟩) (by show w0.heap.size ≤ w0.heap.size + 1; omega) _
  · simp [World.setCell]; omega
end Go.Proofs.Ytgjgjgihceijnaa

namespace Go.Proofs.Ytgjgjgihceijnaa
open Go.RowKit Go.Stn
theorem Try.zKNode : (Value.agg #[.int .i64 0, .int .u8 0, .int .u8 0, .int .i64 0, .int .i64 0, .string ⟨#[]⟩, .string ⟨#[]⟩, .int .i64 0, .int .i64 0]).cells.size = 9 := rfl
theorem Try.oneX (X : Nd) : ∀ u ∈ X.cells, u.oneCell' = true := by
  intro u hu
  unfold Nd.cells at hu
  simp only [List.mem_cons, List.not_mem_nil, or_false] at hu
  rcases hu with rfl | rfl | rfl | rfl | rfl | rfl | rfl | rfl | rfl <;> rfl
theorem Try.infoKNode : (Try.prog.info? 109).map (fun i => (i.zero, i.size, i.bytes)) = some (some (.agg #[.int .i64 0, .int .u8 0, .int .u8 0, .int .i64 0, .int .i64 0, .string ⟨#[]⟩, .string ⟨#[]⟩, .int .i64 0, .int .i64 0]), 9, 80) := by kernel_rfl
theorem fill_node (X : Nd) (cells : Array Value) (h : cells.size = 9) : Instr.fill (fun i => some (i * 9, 9)) cells [(0, .agg X.cells.toArray)] = some X.cells.toArray := by
  have hf := Go.Great.fill_whole (s := 9) (by decide) [.agg X.cells.toArray] cells (fun v hv => by rw [List.mem_singleton] at hv; subst hv; rfl) (by simp [h])
  have e : ([Value.agg X.cells.toArray].flatMap fun v => v.cells.toList).toArray = X.cells.toArray := by simp [Value.cells]
  rw [e] at hf
  exact hf
theorem Try.wpBuildNode {ops : Array Oper} {rest : List Oper} {o : Oper} {a : Act} {w : World} {Q : Exit → Act → World → Prop} (hg : o.guard = none) (x : Operand) (ho : o.op = .buildSlice 47 1 #[(0, x)])
    (X : Nd) (hx : a.eval x = .agg X.cells.toArray) (h : wpList Try.prog ops Q rest (a.put o.dst (.slice (some ⟨w.heap.size, 0, none⟩) 1 1)) (w.alloc (.cells X.cells.toArray 109))) : wpList Try.prog ops Q (o :: rest) a w := by
  refine wpList_plain hg fun K hK => ?_
  obtain ⟨i, hi, hz, hsize, hb⟩ := info_parts Try.infoKNode
  have hr := run_buildSlice (P := Try.prog) w 47 109 1 #[(0, .agg X.cells.toArray)] X.cells.toArray i _ Try.underlying47 hi hz (by rw [hsize]; decide) (by rw [hsize]; decide)
    (by rw [hsize]; exact fill_node X _ (by simp))
  unfold Oper.wp execOp
  simp only [ho, List.map_toArray, List.map_cons, List.map_nil, hx, Sem.run_bind, hr, Result.andThen_ok]
  exact hK _ _ h
end Go.Proofs.Ytgjgjgihceijnaa
namespace Go.Proofs.Ytgjgjgihceijnaa
open Go.RowKit Go.Stn
theorem setCells_blk : ∀ (vs : List Value) (o : Nat) (w : World) (b k : Nat), k ≠ b → (w.setCells b o vs).heap[k]? = w.heap[k]? := by
  intro vs
  induction vs with
  | nil => intro o w b k _; rfl
  | cons v r ih => intro o w b k hk; exact (ih (o + 1) _ b k hk).trans (Below.heap_setCell w ⟨b, o, none⟩ v k hk)
theorem row_blk {w w' : World} {base : Nat} {e : TypeId} {size : Nat} {v : Value} {m : Nat} {xs : List Value} (hr : w.ownsRow base e size v m xs) (hB : ∀ k, v.ownBlock = some k → w'.heap[k]? = w.heap[k]?) : w'.ownsRow base e size v m xs := by
  refine ⟨hr.1, ?_⟩
  rcases hr.2 with hn | ⟨g, cap, cur, rfl, hbg, hg, rest⟩
  · exact .inl hn
  · exact .inr ⟨g, cap, cur, rfl, hbg, (hB g rfl).trans hg, rest⟩
theorem BI.put {w0 w : World} {vA vT : Value} {s : PB} (h : BI w0 w vA vT s) {b : Nat} (hb : w0.heap.size + 2 ≤ b) (hA : ∀ k, vA.ownBlock = some k → k < b) (hT : ∀ k, vT.ownBlock = some k → k < b) (vs : List Value) : BI w0 (w.setCells b 0 vs) vA vT s := by
  have hr : (w.setCells b 0 vs).heap[w0.heap.size + 1]? = w.heap[w0.heap.size + 1]? := setCells_blk vs 0 w b _ (by omega)
  have hs : (w.setCells b 0 vs).heap[w0.heap.size]? = w.heap[w0.heap.size]? := setCells_blk vs 0 w b _ (by omega)
  have hbl := below_setCells vs 0 w b h.bl (by omega)
  exact ⟨(World.cell?_of_block (w := w) (a := ⟨w0.heap.size + 1, 0, none⟩) hr).trans h.c0, (World.cell?_of_block (w := w) (a := ⟨w0.heap.size + 1, 1, none⟩) hr).trans h.c1, fun i => (World.frozen?_of_block (w := w) (a := ⟨w0.heap.size + 1, i, none⟩) hr).trans (h.fz i), there_block h.th hs,
    row_blk h.ra (fun k hk => setCells_blk vs 0 w b k (by have := hA k hk; omega)), row_blk h.rt (fun k hk => setCells_blk vs 0 w b k (by have := hT k hk; omega)), h.ap, hbl, Nat.le_trans h.hz (below_setCells vs 0 w b (Below.refl 0 w) (Nat.zero_le _)).size⟩
theorem BI.moreT' {w0 w w4 : World} {vA vT : Value} {s : PB} {o : Obj} {g cap n : Nat} (h : BI w0 w vA vT s) (t : Nat) (hn : s.2.length = n)
    (hown : w4.ownsRow (w0.heap.size + 2) 3 1 (.slice (some ⟨g, 0, none⟩) (n + 1) cap) (n + 1) (topsC s.2 ++ [.int .i64 (t : Int)]))
    (hgrow : (w.alloc o).grownBy w4 vT.ownBlock) (hat : vT.ownBlock = some g ∨ g = w.heap.size + 1) :
    BI w0 (w4.setCell ⟨w0.heap.size + 1, 1, none⟩ (.slice (some ⟨g, 0, none⟩) (n + 1) cap)) vA (.slice (some ⟨g, 0, none⟩) (n + 1) cap) (s.1, s.2 ++ [t]) := by
  subst hn
  exact h.moreT t hown hgrow hat
end Go.Proofs.Ytgjgjgihceijnaa
namespace Go.Proofs.Ytgjgjgihceijnaa
open Go.RowKit Go.Stn
theorem RuIn.put {w : World} {ga gt : Nat} {all : List Nd} {tops : List Nat} (h : RuIn w ga gt all tops) {b : Nat} (h1 : ga ≠ b) (h2 : gt ≠ b) (vs : List Value) : RuIn (w.setCells b 0 vs) ga gt all tops := by
  have hz := (below_setCells vs 0 w b (Below.refl 0 w) (Nat.zero_le _)).size
  exact ⟨fun j x hx => rangeAt_block (h.nd j x hx) (setCells_blk vs 0 w b ga h1), fun i t ht => (World.cell?_of_block (w := w) (a := ⟨gt, i, none⟩) (setCells_blk vs 0 w b gt h2)).trans (h.tp i t ht), h.ok, Nat.lt_of_lt_of_le h.ba hz, Nat.lt_of_lt_of_le h.bt hz⟩
end Go.Proofs.Ytgjgjgihceijnaa

