/- Laws of my own: sets of bytes (256 bools) in memory. -/
import Derived.WalkKit
import Derived.WalkSpells
import Derived.WalkLawsBesides
import Derived.Deep.MidRow
import Derived.Deep.WholeRow
import Derived.Laws.ResultCell
namespace Go.Stn
open Go.RowKit
/-- A set of bytes as it lies in memory. -/
def bitL (f : Nat → Bool) : List Value := (List.range 256).map fun i => Value.bool (f i)
theorem bitL_len (f : Nat → Bool) : (bitL f).length = 256 := by simp [bitL]
theorem bitL_size (f : Nat → Bool) : (bitL f).toArray.size = 256 := by simp [bitL]
theorem bitL_get (f : Nat → Bool) (k : Nat) (h : k < 256) : (bitL f)[k]? = some (.bool (f k)) := by
  unfold bitL; rw [List.getElem?_map, List.getElem?_range h]; rfl
theorem bitL_one (f : Nat → Bool) : ∀ v ∈ bitL f, v.oneCell' = true := by
  intro v hv
  unfold bitL at hv
  rw [List.mem_map] at hv
  obtain ⟨i, _, rfl⟩ := hv
  rfl
theorem bitL_congr {f g : Nat → Bool} (h : ∀ i, i < 256 → f i = g i) : bitL f = bitL g := by
  unfold bitL
  exact List.map_congr_left (fun i hi => by rw [h i (List.mem_range.1 hi)])

theorem rangeAt_set {w : World} {b : Nat} {f : Nat → Bool} (h : w.rangeAt b 0 (bitL f)) {k : Nat} (hk : k < 256) (v : Bool) : (w.setCell ⟨b, k, none⟩ (.bool v)).rangeAt b 0 (bitL fun i => if i = k then v else f i) := by
  intro j u hu
  have hj : j < 256 := by have := (List.getElem?_eq_some_iff.1 hu).1; rw [bitL_len] at this; exact this
  rw [bitL_get _ _ hj] at hu
  injection hu with hu
  by_cases e : j = k
  · subst e
    rw [← hu, if_pos rfl, Nat.zero_add]
    have := h j _ (bitL_get f j hj)
    rw [Nat.zero_add] at this
    exact World.cell?_setCell_same _ _ _ this
  · rw [← hu, if_neg e, Nat.zero_add, World.cell?_setCell_other (h := by intro e'; injection e'; omega)]
    have := h j _ (bitL_get f j hj)
    rw [Nat.zero_add] at this
    exact this

theorem there_set {w : World} {b o n : Nat} (h : w.there b o n) (a : Addr) (v : Value) : (w.setCell a v).there b o n := by
  intro j hj
  obtain ⟨h1, h2⟩ := h j hj
  refine ⟨?_, by rw [World.frozen?_setCell]; exact h2⟩
  obtain ⟨u, hu⟩ := Option.isSome_iff_exists.1 h1
  obtain ⟨v', hv'⟩ := cell?_setCell_some (p := a) (x := v) hu
  rw [hv']; rfl

theorem there_below {w w' : World} {B b o n : Nat} (h : w.there b o n) (hB : Below B w w') (hb : b < B) : w'.there b o n := by
  intro j hj
  obtain ⟨h1, h2⟩ := h j hj
  exact ⟨by rw [hB.cell (p := ⟨b, o + j, none⟩) hb]; exact h1, by rw [hB.frozen (p := ⟨b, o + j, none⟩) hb]; exact h2⟩

theorem rangeAt_below {w w' : World} {B b o : Nat} {cs : List Value} (h : w.rangeAt b o cs) (hB : Below B w w') (hb : b < B) : w'.rangeAt b o cs := by
  intro j v hv
  rw [hB.cell (p := ⟨b, o + j, none⟩) hb]; exact h j v hv

/-- A block just made. -/
theorem there_new (w : World) (c : Array Value) (t : TypeId) : (w.alloc (.cells c t)).there w.heap.size 0 c.size := by
  intro j hj
  rw [Nat.zero_add, World.cell?_alloc_new, World.frozen?_alloc_new]
  exact ⟨by simp [hj], rfl⟩
theorem there_newL (w : World) (cs : List Value) (t : TypeId) (n : Nat) (h : cs.length = n) : (w.alloc (.cells cs.toArray t)).there w.heap.size 0 n := by
  intro j hj
  rw [Nat.zero_add, World.cell?_alloc_new, World.frozen?_alloc_new]
  exact ⟨by simp; omega, rfl⟩
theorem rangeAt_newL (w : World) (cs : List Value) (t : TypeId) : (w.alloc (.cells cs.toArray t)).rangeAt w.heap.size 0 cs := by
  intro j v hv
  rw [Nat.zero_add, World.cell?_alloc_new]
  simpa using hv
theorem there_newA (w : World) (c : Array Value) (t : TypeId) (B n : Nat) (h : c.size = n) (hB : w.heap.size = B) : (w.alloc (.cells c t)).there B 0 n := by
  subst hB; subst h; exact there_new w c t
theorem rangeAt_new (w : World) (c : Array Value) (t : TypeId) : (w.alloc (.cells c t)).rangeAt w.heap.size 0 c.toList := by
  intro j v hv
  rw [Nat.zero_add, World.cell?_alloc_new]
  simpa using hv

theorem results_cell1 {fn : Func} {p : Tmp} {ty : TypeId} (h : fn.results = #[.cell p ty]) (tmps : Array Value) (P : Program) (w : World) :
    (results fn tmps).run P w = ((asAddr (tmps.getD p undef)).run P w).andThen fun a w₁ => (loadVar ty a).run P w₁ := by
  simp only [results, h]
  simp [Sem.run_bind, Result.andThen]

/-- A result that lies in memory, of many cells. -/
theorem ret_cell1 {P : Program} {fn : Func} {R : Ending → World → Prop} {a : Act} {w : World} {p : Tmp} {ty : TypeId} (h : fn.results = #[.cell p ty]) (b o : Nat) (cs : List Value) (d : TypeDesc)
    (hp : a.tmps.getD p undef = .pointer (some ⟨b, o, none⟩)) (hc : w.rangeAt b o cs) (hu : P.underlying ty = some d) (hd : d.isRow = true) (hi : (P.info? ty).map (·.size) = some cs.length)
    (hdf : a.defers = []) (hR : R (.returned (.agg cs.toArray)) w) : bodyPost P fn R .ret a w := by
  refine bodyPost_ret (v := .agg cs.toArray) ?_ hdf hR
  rw [results_cell1 h, hp]
  simp [Result.andThen, asAddr, run_loadVar_mid w b o ty cs d hc hu hd hi]

theorem ret_cell2 {P : Program} {fn : Func} {R : Ending → World → Prop} {a : Act} {w : World} {p u : Tmp} {ty : TypeId} (h : fn.results = #[.cell p ty, .tmp u]) (b o : Nat) (cs : List Value) (d : TypeDesc) (v : Value)
    (hp : a.tmps.getD p undef = .pointer (some ⟨b, o, none⟩)) (hv : a.tmps.getD u undef = v) (hc : w.rangeAt b o cs) (hu : P.underlying ty = some d) (hd : d.isRow = true) (hi : (P.info? ty).map (·.size) = some cs.length)
    (hdf : a.defers = []) (hR : R (.returned (.tuple #[.agg cs.toArray, v])) w) : bodyPost P fn R .ret a w := by
  refine bodyPost_ret (v := .tuple #[.agg cs.toArray, v]) ?_ hdf hR
  rw [results_cell_tmp h, hp, hv]
  simp [Result.andThen, asAddr, run_loadVar_mid w b o ty cs d hc hu hd hi]

theorem grown_trans {a b c : World} {r : Option Nat} (h : a.grownBy b r) (k : b.grownBy c r) : a.grownBy c r :=
  ⟨k.os.trans h.os, k.tape.trans h.tape, k.output.trans h.output, Nat.le_trans h.size k.size, fun i hi hr => (k.block i (Nat.lt_of_lt_of_le hi h.size) hr).trans (h.block i hi hr)⟩
theorem grown_drewN {a w : World} {r : Option Nat} (h : a.grownBy w r) (n : Nat) : a.grownBy (w.drewN n) r := ⟨h.os, h.tape, h.output, h.size, h.block⟩
theorem grown_set {a w : World} {b : Nat} (h : a.grownBy w (some b)) (i : Nat) (v : Value) : a.grownBy (w.setCell ⟨b, i, none⟩ v) (some b) :=
  ⟨h.os, h.tape, h.output, by have := h.size; simp [World.setCell]; omega, fun k hk hr => (Below.heap_setCell w ⟨b, i, none⟩ v k (by intro e; exact hr (by rw [e]))).trans (h.block k hk hr)⟩
theorem grown_below {a w : World} {b : Nat} (h : a.grownBy w (some b)) (hb : b ≤ a.heap.size) : Below b a w :=
  ⟨h.os, h.tape, h.output, h.size, fun k hk => h.block k (by omega) (by intro e; injection e; omega)⟩
theorem rangeAt_block {w w' : World} {b o : Nat} {cs : List Value} (h : w.rangeAt b o cs) (he : w'.heap[b]? = w.heap[b]?) : w'.rangeAt b o cs := fun j v hv => by
  rw [World.cell?_of_block (w := w) he]; exact h j v hv
theorem there_block {w w' : World} {b o n : Nat} (h : w.there b o n) (he : w'.heap[b]? = w.heap[b]?) : w'.there b o n := fun j hj => by
  rw [World.cell?_of_block (w := w) he, World.frozen?_of_block (w := w) he]; exact h j hj

theorem wpList_store_bits {P : Program} {ops : Array Oper} {rest : List Oper} {op : Oper} {a : Act} {w : World} {Q : Exit → Act → World → Prop} (hgd : op.guard = none) (ty : TypeId) (x y : Operand) (ho : op.op = .store ty x y)
    (b o : Nat) (f : Nat → Bool) (hx : a.eval x = .pointer (some ⟨b, o, none⟩)) (hy : a.eval y = .agg (bitL f).toArray) (ht : w.there b o 256) (hi : (P.info? ty).map (·.size) = some 256)
    (h : wpList P ops Q rest (a.put op.dst undef) (w.setCells b o (bitL f))) : wpList P ops Q (op :: rest) a w :=
  wpList_store_mid hgd ty x y ho b o (bitL f).toArray hx hy (by rw [bitL_size]; exact ht) (by rw [bitL_size]; exact hi) (all_oneCell_toArray (bitL_one f)) h
theorem wpList_load_bits {P : Program} {ops : Array Oper} {rest : List Oper} {op : Oper} {a : Act} {w : World} {Q : Exit → Act → World → Prop} (hgd : op.guard = none) (ty : TypeId) (x : Operand) (ho : op.op = .load ty x)
    (b o : Nat) (f : Nat → Bool) (d : TypeDesc) (hx : a.eval x = .pointer (some ⟨b, o, none⟩)) (hc : w.rangeAt b o (bitL f)) (hu : P.underlying ty = some d) (hd : d.isRow = true) (hi : (P.info? ty).map (·.size) = some 256)
    (h : wpList P ops Q rest (a.put op.dst (.agg (bitL f).toArray)) w) : wpList P ops Q (op :: rest) a w :=
  wpList_load_mid hgd ty x ho b o hx (bitL f) d hc hu hd (by rw [bitL_len]; exact hi) h

/-- The set of bytes that lies at the head of a block. -/
def bitsAt (X : World) (B : Nat) : Nat → Bool := fun i => match X.cell? ⟨B, i, none⟩ with
  | some (.bool b) => b
  | _ => false
def isBits (X : World) (B : Nat) : Prop := X.rangeAt B 0 (bitL (bitsAt X B))
theorem isBits_of {X : World} {B : Nat} {f : Nat → Bool} (h : X.rangeAt B 0 (bitL f)) : bitL (bitsAt X B) = bitL f ∧ isBits X B := by
  have e : bitL (bitsAt X B) = bitL f := bitL_congr (fun i hi => by
    have := h i _ (bitL_get f i hi)
    rw [Nat.zero_add] at this
    unfold bitsAt; rw [this])
  exact ⟨e, by unfold isBits; rw [e]; exact h⟩

theorem rowSlice {w : World} {base : Nat} {e : TypeId} {size : Nat} {v : Value} {n : Nat} {xs : List Value} (h : w.ownsRow base e size v n xs) : ∃ a cap, v = .slice a n cap := by
  rcases h.2 with ⟨rfl, rfl⟩ | ⟨g, cap, _, rfl, _⟩
  · exact ⟨none, 0, rfl⟩
  · exact ⟨_, cap, rfl⟩

theorem grow_cell {W w4 : World} {o : Obj} {r : Option Nat} (hg : (W.alloc o).grownBy w4 r) {k : Nat} (hk : k < W.heap.size) (hr : some k ≠ r) : (∀ i, w4.cell? ⟨k, i, none⟩ = W.cell? ⟨k, i, none⟩) ∧ ∀ i, w4.frozen? ⟨k, i, none⟩ = W.frozen? ⟨k, i, none⟩ := by
  have he : w4.heap[k]? = W.heap[k]? := (hg.block k (by simp; omega) hr).trans (Below.heap_alloc W o k hk)
  exact ⟨fun i => World.cell?_of_block (w := W) (a := ⟨k, i, none⟩) he, fun i => World.frozen?_of_block (w := W) (a := ⟨k, i, none⟩) he⟩

theorem grown_alloc2 {a w : World} {r : Option Nat} (h : a.grownBy w r) (o : Obj) : a.grownBy (w.alloc o) r := grown_trans h (World.grownBy_alloc w o r)
theorem grown_of_below {a w : World} {B : Nat} (h : Below B a w) (hB : a.heap.size ≤ B) (r : Option Nat) : a.grownBy w r := ⟨h.os, h.tape, h.output, h.size, fun k hk _ => h.block k (by omega)⟩

theorem below_setCells {B : Nat} {a : World} : ∀ (vs : List Value) (o : Nat) (w : World) (b : Nat), Below B a w → B ≤ b → Below B a (w.setCells b o vs) := by
  intro vs
  induction vs with
  | nil => intro o w b h _; exact h
  | cons v r ih => intro o w b h hb; exact ih (o + 1) _ b (h.setCell (p := ⟨b, o, none⟩) hb v) hb


theorem grown_setCells {a w : World} {r : Option Nat} (h : a.grownBy w r) (b o : Nat) (vs : List Value) (hb : a.heap.size ≤ b) : a.grownBy (w.setCells b o vs) r := by
  have hB : Below a.heap.size w (w.setCells b o vs) := below_setCells vs o w b (Below.refl _ _) hb
  exact ⟨hB.os.trans h.os, hB.tape.trans h.tape, hB.output.trans h.output, Nat.le_trans h.size hB.size, fun k hk hr => (hB.block k hk).trans (h.block k hk hr)⟩
end Go.Stn
