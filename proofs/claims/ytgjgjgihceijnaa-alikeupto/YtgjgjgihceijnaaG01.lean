/- Texts put together: RfKit, Kit1, CkPure, CkPure2, CkPure3, ScPure. -/
import Derived.WalkKit
import Derived.WalkSpells
import Derived.WalkLawsBesides
import Derived.Deep.MidRow
import Derived.Deep.WholeRow
import Derived.Laws.ResultCell
import Derived.Deep.AppendLies
import Derived.Deep.AppendSrc
/- Laws of my own: sets of bytes (256 bools) in memory. -/
namespace Go.Stn
open Go.RowKit
/-- A set of bytes as it lies in memory. -/
def bitL (f : Nat → Bool) : List Value := (List.range 256).map fun i => Value.bool (f i)
theorem bitL_len (f : Nat → Bool) : (bitL f).length = 256 := by simp [bitL]
theorem bitL_size (f : Nat → Bool) : (bitL f).toArray.size = 256 := by simp [bitL]
theorem bitL_get (f : Nat → Bool) (k : Nat) (h : k < 256) : (bitL f)[k]? = some (.bool (f k)) := by
  unfold bitL; rw [List.getElem?_map, List.getElem?_range h]; rfl
theorem bitL_one (f : Nat → Bool) : ∀ v ∈ bitL f, v.oneCell' = true := by
  intro v hv
  unfold bitL at hv
  rw [List.mem_map] at hv
  obtain ⟨i, _, rfl⟩ := hv
  rfl
theorem bitL_congr {f g : Nat → Bool} (h : ∀ i, i < 256 → f i = g i) : bitL f = bitL g := by
  unfold bitL
  exact List.map_congr_left (fun i hi => by rw [h i (List.mem_range.1 hi)])

theorem rangeAt_set {w : World} {b : Nat} {f : Nat → Bool} (h : w.rangeAt b 0 (bitL f)) {k : Nat} (hk : k < 256) (v : Bool) : (w.setCell ⟨b, k, none⟩ (.bool v)).rangeAt b 0 (bitL fun i => if i = k then v else f i) := by
  intro j u hu
  have hj : j < 256 := by have := (List.getElem?_eq_some_iff.1 hu).1; rw [bitL_len] at this; exact this
  rw [bitL_get _ _ hj] at hu
  injection hu with hu
  by_cases e : j = k
  · subst e
    rw [← hu, if_pos rfl, Nat.zero_add]
    have := h j _ (bitL_get f j hj)
    rw [Nat.zero_add] at this
    exact World.cell?_setCell_same _ _ _ this
  · rw [← hu, if_neg e, Nat.zero_add, World.cell?_setCell_other (h := by intro e'; injection e'; omega)]
    have := h j _ (bitL_get f j hj)
    rw [Nat.zero_add] at this
    exact this

theorem there_set {w : World} {b o n : Nat} (h : w.there b o n) (a : Addr) (v : Value) : (w.setCell a v).there b o n := by
  intro j hj
  obtain ⟨h1, h2⟩ := h j hj
  refine ⟨?_, by rw [World.frozen?_setCell]; exact h2⟩
  obtain ⟨u, hu⟩ := Option.isSome_iff_exists.1 h1
  obtain ⟨v', hv'⟩ := cell?_setCell_some (p := a) (x := v) hu
  rw [hv']; rfl

theorem there_below {w w' : World} {B b o n : Nat} (h : w.there b o n) (hB : Below B w w') (hb : b < B) : w'.there b o n := by
  intro j hj
  obtain ⟨h1, h2⟩ := h j hj
  exact ⟨by rw [hB.cell (p := ⟨b, o + j, none⟩) hb]; exact h1, by rw [hB.frozen (p := ⟨b, o + j, none⟩) hb]; exact h2⟩

theorem rangeAt_below {w w' : World} {B b o : Nat} {cs : List Value} (h : w.rangeAt b o cs) (hB : Below B w w') (hb : b < B) : w'.rangeAt b o cs := by
  intro j v hv
  rw [hB.cell (p := ⟨b, o + j, none⟩) hb]; exact h j v hv

/-- A block just made. -/
theorem there_new (w : World) (c : Array Value) (t : TypeId) : (w.alloc (.cells c t)).there w.heap.size 0 c.size := by
  intro j hj
  rw [Nat.zero_add, World.cell?_alloc_new, World.frozen?_alloc_new]
  exact ⟨by simp [hj], rfl⟩
theorem there_newL (w : World) (cs : List Value) (t : TypeId) (n : Nat) (h : cs.length = n) : (w.alloc (.cells cs.toArray t)).there w.heap.size 0 n := by
  intro j hj
  rw [Nat.zero_add, World.cell?_alloc_new, World.frozen?_alloc_new]
  exact ⟨by simp; omega, rfl⟩
theorem rangeAt_newL (w : World) (cs : List Value) (t : TypeId) : (w.alloc (.cells cs.toArray t)).rangeAt w.heap.size 0 cs := by
  intro j v hv
  rw [Nat.zero_add, World.cell?_alloc_new]
  simpa using hv
theorem there_newA (w : World) (c : Array Value) (t : TypeId) (B n : Nat) (h : c.size = n) (hB : w.heap.size = B) : (w.alloc (.cells c t)).there B 0 n := by
  subst hB; subst h; exact there_new w c t
theorem rangeAt_new (w : World) (c : Array Value) (t : TypeId) : (w.alloc (.cells c t)).rangeAt w.heap.size 0 c.toList := by
  intro j v hv
  rw [Nat.zero_add, World.cell?_alloc_new]
  simpa using hv

theorem results_cell1 {fn : Func} {p : Tmp} {ty : TypeId} (h : fn.results = #[.cell p ty]) (tmps : Array Value) (P : Program) (w : World) :
    (results fn tmps).run P w = ((asAddr (tmps.getD p undef)).run P w).andThen fun a w₁ => (loadVar ty a).run P w₁ := by
  simp only [results, h]
  simp [Sem.run_bind, Result.andThen]

/-- A result that lies in memory, of many cells. -/
theorem ret_cell1 {P : Program} {fn : Func} {R : Ending → World → Prop} {a : Act} {w : World} {p : Tmp} {ty : TypeId} (h : fn.results = #[.cell p ty]) (b o : Nat) (cs : List Value) (d : TypeDesc)
    (hp : a.tmps.getD p undef = .pointer (some ⟨b, o, none⟩)) (hc : w.rangeAt b o cs) (hu : P.underlying ty = some d) (hd : d.isRow = true) (hi : (P.info? ty).map (·.size) = some cs.length)
    (hdf : a.defers = []) (hR : R (.returned (.agg cs.toArray)) w) : bodyPost P fn R .ret a w := by
  refine bodyPost_ret (v := .agg cs.toArray) ?_ hdf hR
  rw [results_cell1 h, hp]
  simp [Result.andThen, asAddr, run_loadVar_mid w b o ty cs d hc hu hd hi]

theorem ret_cell2 {P : Program} {fn : Func} {R : Ending → World → Prop} {a : Act} {w : World} {p u : Tmp} {ty : TypeId} (h : fn.results = #[.cell p ty, .tmp u]) (b o : Nat) (cs : List Value) (d : TypeDesc) (v : Value)
    (hp : a.tmps.getD p undef = .pointer (some ⟨b, o, none⟩)) (hv : a.tmps.getD u undef = v) (hc : w.rangeAt b o cs) (hu : P.underlying ty = some d) (hd : d.isRow = true) (hi : (P.info? ty).map (·.size) = some cs.length)
    (hdf : a.defers = []) (hR : R (.returned (.tuple #[.agg cs.toArray, v])) w) : bodyPost P fn R .ret a w := by
  refine bodyPost_ret (v := .tuple #[.agg cs.toArray, v]) ?_ hdf hR
  rw [results_cell_tmp h, hp, hv]
  simp [Result.andThen, asAddr, run_loadVar_mid w b o ty cs d hc hu hd hi]

theorem grown_trans {a b c : World} {r : Option Nat} (h : a.grownBy b r) (k : b.grownBy c r) : a.grownBy c r :=
  ⟨k.os.trans h.os, k.tape.trans h.tape, k.output.trans h.output, Nat.le_trans h.size k.size, fun i hi hr => (k.block i (Nat.lt_of_lt_of_le hi h.size) hr).trans (h.block i hi hr)⟩
theorem grown_drewN {a w : World} {r : Option Nat} (h : a.grownBy w r) (n : Nat) : a.grownBy (w.drewN n) r := ⟨h.os, h.tape, h.output, h.size, h.block⟩
theorem grown_set {a w : World} {b : Nat} (h : a.grownBy w (some b)) (i : Nat) (v : Value) : a.grownBy (w.setCell ⟨b, i, none⟩ v) (some b) :=
  ⟨h.os, h.tape, h.output, by have := h.size; simp [World.setCell]; omega, fun k hk hr => (Below.heap_setCell w ⟨b, i, none⟩ v k (by intro e; exact hr (by rw [e]))).trans (h.block k hk hr)⟩
theorem grown_below {a w : World} {b : Nat} (h : a.grownBy w (some b)) (hb : b ≤ a.heap.size) : Below b a w :=
  ⟨h.os, h.tape, h.output, h.size, fun k hk => h.block k (by omega) (by intro e; injection e; omega)⟩
theorem rangeAt_block {w w' : World} {b o : Nat} {cs : List Value} (h : w.rangeAt b o cs) (he : w'.heap[b]? = w.heap[b]?) : w'.rangeAt b o cs := fun j v hv => by
  rw [World.cell?_of_block (w := w) he]; exact h j v hv
theorem there_block {w w' : World} {b o n : Nat} (h : w.there b o n) (he : w'.heap[b]? = w.heap[b]?) : w'.there b o n := fun j hj => by
  rw [World.cell?_of_block (w := w) he, World.frozen?_of_block (w := w) he]; exact h j hj

theorem wpList_store_bits {P : Program} {ops : Array Oper} {rest : List Oper} {op : Oper} {a : Act} {w : World} {Q : Exit → Act → World → Prop} (hgd : op.guard = none) (ty : TypeId) (x y : Operand) (ho : op.op = .store ty x y)
    (b o : Nat) (f : Nat → Bool) (hx : a.eval x = .pointer (some ⟨b, o, none⟩)) (hy : a.eval y = .agg (bitL f).toArray) (ht : w.there b o 256) (hi : (P.info? ty).map (·.size) = some 256)
    (h : wpList P ops Q rest (a.put op.dst undef) (w.setCells b o (bitL f))) : wpList P ops Q (op :: rest) a w :=
  wpList_store_mid hgd ty x y ho b o (bitL f).toArray hx hy (by rw [bitL_size]; exact ht) (by rw [bitL_size]; exact hi) (all_oneCell_toArray (bitL_one f)) h
theorem wpList_load_bits {P : Program} {ops : Array Oper} {rest : List Oper} {op : Oper} {a : Act} {w : World} {Q : Exit → Act → World → Prop} (hgd : op.guard = none) (ty : TypeId) (x : Operand) (ho : op.op = .load ty x)
    (b o : Nat) (f : Nat → Bool) (d : TypeDesc) (hx : a.eval x = .pointer (some ⟨b, o, none⟩)) (hc : w.rangeAt b o (bitL f)) (hu : P.underlying ty = some d) (hd : d.isRow = true) (hi : (P.info? ty).map (·.size) = some 256)
    (h : wpList P ops Q rest (a.put op.dst (.agg (bitL f).toArray)) w) : wpList P ops Q (op :: rest) a w :=
  wpList_load_mid hgd ty x ho b o hx (bitL f) d hc hu hd (by rw [bitL_len]; exact hi) h

/-- The set of bytes that lies at the head of a block. -/
def bitsAt (X : World) (B : Nat) : Nat → Bool := fun i => match X.cell? ⟨B, i, none⟩ with
  | some (.bool b) => b
  | _ => false
def isBits (X : World) (B : Nat) : Prop := X.rangeAt B 0 (bitL (bitsAt X B))
theorem isBits_of {X : World} {B : Nat} {f : Nat → Bool} (h : X.rangeAt B 0 (bitL f)) : bitL (bitsAt X B) = bitL f ∧ isBits X B := by
  have e : bitL (bitsAt X B) = bitL f := bitL_congr (fun i hi => by
    have := h i _ (bitL_get f i hi)
    rw [Nat.zero_add] at this
    unfold bitsAt; rw [this])
  exact ⟨e, by unfold isBits; rw [e]; exact h⟩

theorem rowSlice {w : World} {base : Nat} {e : TypeId} {size : Nat} {v : Value} {n : Nat} {xs : List Value} (h : w.ownsRow base e size v n xs) : ∃ a cap, v = .slice a n cap := by
  rcases h.2 with ⟨rfl, rfl⟩ | ⟨g, cap, _, rfl, _⟩
  · exact ⟨none, 0, rfl⟩
  · exact ⟨_, cap, rfl⟩

theorem grow_cell {W w4 : World} {o : Obj} {r : Option Nat} (hg : (W.alloc o).grownBy w4 r) {k : Nat} (hk : k < W.heap.size) (hr : some k ≠ r) : (∀ i, w4.cell? ⟨k, i, none⟩ = W.cell? ⟨k, i, none⟩) ∧ ∀ i, w4.frozen? ⟨k, i, none⟩ = W.frozen? ⟨k, i, none⟩ := by
  have he : w4.heap[k]? = W.heap[k]? := (hg.block k (by simp; omega) hr).trans (Below.heap_alloc W o k hk)
  exact ⟨fun i => World.cell?_of_block (w := W) (a := ⟨k, i, none⟩) he, fun i => World.frozen?_of_block (w := W) (a := ⟨k, i, none⟩) he⟩

theorem grown_alloc2 {a w : World} {r : Option Nat} (h : a.grownBy w r) (o : Obj) : a.grownBy (w.alloc o) r := grown_trans h (World.grownBy_alloc w o r)
theorem grown_of_below {a w : World} {B : Nat} (h : Below B a w) (hB : a.heap.size ≤ B) (r : Option Nat) : a.grownBy w r := ⟨h.os, h.tape, h.output, h.size, fun k hk _ => h.block k (by omega)⟩

theorem below_setCells {B : Nat} {a : World} : ∀ (vs : List Value) (o : Nat) (w : World) (b : Nat), Below B a w → B ≤ b → Below B a (w.setCells b o vs) := by
  intro vs
  induction vs with
  | nil => intro o w b h _; exact h
  | cons v r ih => intro o w b h hb; exact ih (o + 1) _ b (h.setCell (p := ⟨b, o, none⟩) hb v) hb


theorem grown_setCells {a w : World} {r : Option Nat} (h : a.grownBy w r) (b o : Nat) (vs : List Value) (hb : a.heap.size ≤ b) : a.grownBy (w.setCells b o vs) r := by
  have hB : Below a.heap.size w (w.setCells b o vs) := below_setCells vs o w b (Below.refl _ _) hb
  exact ⟨hB.os.trans h.os, hB.tape.trans h.tape, hB.output.trans h.output, Nat.le_trans h.size hB.size, fun k hk hr => (hB.block k hk).trans (h.block k hk hr)⟩
end Go.Stn

/- Laws of my own: an append of one element, the element's cells in a block just made. -/
namespace Go.Stn
open Go.RowKit

/-- 'x = append(x, v)' onto what the call owns: v's cells lie in the block made just before. -/
theorem wpList_app1 {P : Program} (w : World) {ops : Array Oper} {rest : List Oper} {o : Oper} {a : Act} {Q : Exit → Act → World → Prop} (hgd : o.guard = none) (s x : Operand) (t : TypeId)
    (ho : o.op = .call { callee := .builtin .append, args := #[s, x], argTypes := #[t, t] })
    (base : Nat) (e : TypeId) (z : Value) (size bytes : Nat) (ht : P.underlying t = some (.slice e)) (hinfo : (P.info? e).map (fun i => (i.zero, i.size, i.bytes)) = some (some z, size, bytes))
    (hzs : z.cells.size = size) (hsz : 0 < size) (hby : bytes ≤ 1000)
    (v : Value) (n : Nat) (xs : List Value) (cs : List Value) (e' : TypeId) (hs : a.eval s = v) (hown : w.ownsRow base e size v n xs)
    (B : Nat) (hB : w.heap.size = B) (hx : a.eval x = .slice (some ⟨B, 0, none⟩) 1 1) (hl : cs.length = size) (h1 : ∀ u ∈ cs, u.oneCell' = true)
    (hn : n ≤ 1000000000) (hbase : base ≤ w.heap.size)
    (h : ∀ g cap w', w'.ownsRow base e size (.slice (some ⟨g, 0, none⟩) (n + 1) cap) (n + 1) (xs ++ cs) → (w.alloc (.cells cs.toArray e')).grownBy w' v.ownBlock → (v.ownBlock = some g ∨ g = w.heap.size + 1) → g < w'.heap.size →
      wpList P ops Q rest (a.put o.dst (.slice (some ⟨g, 0, none⟩) (n + 1) cap)) w') : wpList P ops Q (o :: rest) a (w.alloc (.cells cs.toArray e')) := by
  subst hB
  obtain ⟨i, hi, hz, hsize, hb⟩ := info_parts hinfo
  refine wpList_append_lies _ hgd s x t ho base e i z size bytes ht hi hz hsize hb hzs hsz v n xs hs (hown.alloc _) ⟨w.heap.size, 0, none⟩ 1 1 cs hx (by omega) ?_ h1 (by omega) (by unfold maxLen; omega) ?_ (by simp; omega) (w.heap.size + 1) (by simp) h
  · have := World.news_of_block (w := w.alloc (.cells cs.toArray e')) (B := w.heap.size) (cs := cs.toArray) (t := e') (fr := (0, 0)) (heap_alloc_new w _)
    simpa using this
  · have := Nat.mul_le_mul (show n + 1 ≤ 1000000001 by omega) hby
    omega

/-- The same, at a step of a region that draws its order. -/
theorem step_app1 {P : Program} (w : World) {ops : Array Oper} {o : Oper} {a : Act} {K : Act → World → Prop} {Q : Exit → Act → World → Prop} {E : Prop} (hgd : o.guard = none) (s x : Operand) (t : TypeId)
    (ho : o.op = .call { callee := .builtin .append, args := #[s, x], argTypes := #[t, t] })
    (base : Nat) (e : TypeId) (z : Value) (size bytes : Nat) (ht : P.underlying t = some (.slice e)) (hinfo : (P.info? e).map (fun i => (i.zero, i.size, i.bytes)) = some (some z, size, bytes))
    (hzs : z.cells.size = size) (hsz : 0 < size) (hby : bytes ≤ 1000)
    (v : Value) (n : Nat) (xs : List Value) (cs : List Value) (e' : TypeId) (hs : a.eval s = v) (hown : w.ownsRow base e size v n xs)
    (B : Nat) (hB : w.heap.size = B) (hx : a.eval x = .slice (some ⟨B, 0, none⟩) 1 1) (hl : cs.length = size) (h1 : ∀ u ∈ cs, u.oneCell' = true)
    (hn : n ≤ 1000000000) (hbase : base ≤ w.heap.size)
    (h : ∀ g cap w', w'.ownsRow base e size (.slice (some ⟨g, 0, none⟩) (n + 1) cap) (n + 1) (xs ++ cs) → (w.alloc (.cells cs.toArray e')).grownBy w' v.ownBlock → (v.ownBlock = some g ∨ g = w.heap.size + 1) → g < w'.heap.size →
      K (a.put o.dst (.slice (some ⟨g, 0, none⟩) (n + 1) cap)) w') : if Region.wanted o (yielded ops a.tmps) = true then Oper.wp P o a (w.alloc (.cells cs.toArray e')) K Q else E := by
  subst hB
  obtain ⟨i, hi, hz, hsize, hb⟩ := info_parts hinfo
  refine step_append_lies _ hgd s x t ho base e i z size bytes ht hi hz hsize hb hzs hsz v n xs hs (hown.alloc _) ⟨w.heap.size, 0, none⟩ 1 1 cs hx (by omega) ?_ h1 (by omega) (by unfold maxLen; omega) ?_ (by simp; omega) (w.heap.size + 1) (by simp) h
  · have := World.news_of_block (w := w.alloc (.cells cs.toArray e')) (B := w.heap.size) (cs := cs.toArray) (t := e') (fr := (0, 0)) (heap_alloc_new w _)
    simpa using this
  · have := Nat.mul_le_mul (show n + 1 ≤ 1000000001 by omega) hby
    omega

/-- 'append(v, nil...)' is v. -/
theorem run_app_nil {P : Program} (w : World) (t ty : TypeId) (base : Nat) (e : TypeId) (z : Value) (size bytes : Nat) (ht : P.underlying t = some (.slice e)) (hinfo : (P.info? e).map (fun i => (i.zero, i.size, i.bytes)) = some (some z, size, bytes))
    (v : Value) (n : Nat) (xs : List Value) (hown : w.ownsRow base e size v n xs) : (Builtin.append_ #[t, t] ty #[v, .slice none 0 0]).run P w = .ok v w := by
  obtain ⟨i, hi, hz, hsize, hb⟩ := info_parts hinfo
  rcases hown.2 with ⟨rfl, rfl⟩ | ⟨g, cap, cur, rfl, hbg, hg, hnc, hcm, hcs, htake⟩
  · simp [Builtin.append_, run_underlying ht, sizeOf, typeInfo, hi, Builtin.lenOf, Builtin.firstCells]
  · have h := run_append_room_src (P := P) w t t ty e i ht hi g 0 n cap (.slice none 0 0) 0 [] (Src.ofNil (size := i.size) w ht 0) (by omega) (fun j hj => by simp at hj) (fun j hj => by simp at hj)
    rw [h]
    rfl

theorem wpList_app0 {P : Program} (w : World) {ops : Array Oper} {rest : List Oper} {o : Oper} {a : Act} {Q : Exit → Act → World → Prop} (hgd : o.guard = none) (s x : Operand) (t : TypeId)
    (ho : o.op = .call { callee := .builtin .append, args := #[s, x], argTypes := #[t, t] })
    (base : Nat) (e : TypeId) (z : Value) (size bytes : Nat) (ht : P.underlying t = some (.slice e)) (hinfo : (P.info? e).map (fun i => (i.zero, i.size, i.bytes)) = some (some z, size, bytes))
    (v : Value) (n : Nat) (xs : List Value) (hs : a.eval s = v) (hown : w.ownsRow base e size v n xs) (hx : a.eval x = .slice none 0 0)
    (h : wpList P ops Q rest (a.put o.dst v) w) : wpList P ops Q (o :: rest) a w := by
  refine wpList_plain hgd fun K hK => ?_
  have hr := run_app_nil (P := P) w t o.type base e z size bytes ht hinfo v n xs hown
  unfold Oper.wp execOp
  simp only [ho, resolve, invoke, builtin, Sem.run_bind, Sem.run_pure, Result.andThen_ok, List.map_toArray, List.map_cons, List.map_nil, hs, hx, hr]
  exact hK _ _ h

/-- 'append(v, sv...)' of two rows that the call owns. -/
theorem wpList_appRow {P : Program} (w : World) {ops : Array Oper} {rest : List Oper} {o : Oper} {a : Act} {Q : Exit → Act → World → Prop} (hgd : o.guard = none) (s x : Operand) (t : TypeId)
    (ho : o.op = .call { callee := .builtin .append, args := #[s, x], argTypes := #[t, t] })
    (base base2 : Nat) (e : TypeId) (z : Value) (size bytes : Nat) (ht : P.underlying t = some (.slice e)) (hinfo : (P.info? e).map (fun i => (i.zero, i.size, i.bytes)) = some (some z, size, bytes))
    (hzs : z.cells.size = size) (hsz : 0 < size) (hby : bytes ≤ 1000)
    (v : Value) (n : Nat) (xs : List Value) (sv : Value) (m : Nat) (ys : List Value) (hs : a.eval s = v) (hown : w.ownsRow base e size v n xs)
    (hx : a.eval x = sv) (hsrc : w.ownsRow base2 e size sv m ys) (h1 : ∀ u ∈ ys, u.oneCell' = true) (hm : 0 < m)
    (hn : n + m ≤ 1000000000) (hbase : base ≤ w.heap.size)
    (h : ∀ g cap w', w'.ownsRow base e size (.slice (some ⟨g, 0, none⟩) (n + m) cap) (n + m) (xs ++ ys) → w.grownBy w' v.ownBlock → (v.ownBlock = some g ∨ g = w.heap.size) → g < w'.heap.size →
      wpList P ops Q rest (a.put o.dst (.slice (some ⟨g, 0, none⟩) (n + m) cap)) w') : wpList P ops Q (o :: rest) a w := by
  obtain ⟨i, hi, hz, hsize, hb⟩ := info_parts hinfo
  obtain ⟨g, cap, rfl, hbg, hgl⟩ := hsrc.form hm
  refine wpList_append_lies _ hgd s x t ho base e i z size bytes ht hi hz hsize hb hzs hsz v n xs hs hown ⟨g, 0, none⟩ m cap ys hx hsrc.1 (hsrc.cells rfl) h1 hm (by unfold maxLen; omega) ?_ hbase _ rfl h
  have := Nat.mul_le_mul hn hby
  omega

/-- 'Below' over such an append. -/
theorem below_app {B base : Nat} {a w w1 : World} {o : Obj} {e : TypeId} {size : Nat} {v : Value} {n : Nat} {xs : List Value} (h : Below B a w) (hz : B ≤ w.heap.size) (hv : w.ownsRow base e size v n xs) (hb : B ≤ base)
    (hg : (w.alloc o).grownBy w1 v.ownBlock) : Below B a w1 :=
  (h.alloc hz o).grown hg (by simp; omega) (fun k hk => by have := hv.lt k hk; omega)

end Go.Stn

/- Plain functions: what stencilref's reading of an image computes, over bytes. -/
namespace Go.Stn

/-- The byte of a text at a place; 0 behind its end. -/
def bt (s : ByteArray) (i : Nat) : Nat := (s.data.toList.getD i 0).toNat

theorem bt_lt (s : ByteArray) (i : Nat) : bt s i < 256 := by
  unfold bt; exact UInt8.toNat_lt _

theorem bt_eq (s : ByteArray) (i : Nat) (h : i < s.size) : (s[i]).toNat = bt s i := by
  unfold bt
  have : i < s.data.toList.length := by simpa using h
  rw [List.getD_eq_getElem?_getD, List.getElem?_eq_getElem this]
  rfl

/-- Are the bytes of s from i on, n of them, there, and none above most? -/
def belowB (s : ByteArray) (i n : Nat) (most : Int) : Bool :=
  decide (i + n ≤ s.size) && decide (∀ j, j < n → (bt s (i + j) : Int) ≤ most)

theorem belowB_short {s : ByteArray} {i n : Nat} {most : Int} (h : s.size < i + n) : belowB s i n most = false := by
  unfold belowB; simp; omega

theorem belowB_yes {s : ByteArray} {i n : Nat} {most : Int} (h : i + n ≤ s.size) (ha : ∀ j, j < n → (bt s (i + j) : Int) ≤ most) : belowB s i n most = true := by
  unfold belowB; simp [h]; exact ha

theorem belowB_no {s : ByteArray} {i n j : Nat} {most : Int} (hj : j < n) (ha : most < (bt s (i + j) : Int)) : belowB s i n most = false := by
  unfold belowB
  simp only [Bool.and_eq_false_iff, decide_eq_false_iff_not]
  right; intro h; have := h j hj; omega

end Go.Stn

/- Plain functions: the states of a condition, read off an image. -/
namespace Go.Stn

/-- One row of a state table is fine: the mark at most rules, each lead below n or 255. -/
def rowOk (s : ByteArray) (rules many n at_ : Nat) : Bool :=
  decide (bt s at_ ≤ rules) && decide (∀ k, k < many → bt s (at_ + (k + 1)) < n ∨ bt s (at_ + (k + 1)) = 255)

/-- A condition's part of an image that begins at i is fine. -/
def stOk (s : ByteArray) (rules many i : Nat) : Bool :=
  decide (i + 1 ≤ s.size) && (decide (bt s i ≤ 100) && (decide (bt s i ≠ 0) && (decide (i + 1 + bt s i * (1 + many) ≤ s.size) &&
    decide (∀ st, st < bt s i → rowOk s rules many (bt s i) (i + 1 + st * (1 + many)) = true))))

theorem rowOk_iff {s : ByteArray} {rules many n at_ : Nat} : rowOk s rules many n at_ = true ↔
    bt s at_ ≤ rules ∧ ∀ k, k < many → bt s (at_ + (k + 1)) < n ∨ bt s (at_ + (k + 1)) = 255 := by
  unfold rowOk; simp only [Bool.and_eq_true, decide_eq_true_eq]

theorem stOk_iff {s : ByteArray} {rules many i : Nat} : stOk s rules many i = true ↔
    i + 1 ≤ s.size ∧ bt s i ≤ 100 ∧ bt s i ≠ 0 ∧ i + 1 + bt s i * (1 + many) ≤ s.size ∧
      ∀ st, st < bt s i → rowOk s rules many (bt s i) (i + 1 + st * (1 + many)) = true := by
  unfold stOk; simp only [Bool.and_eq_true, decide_eq_true_eq]

/-- What states answers: how many, the place behind. -/
def stN (s : ByteArray) (rules many i : Nat) : Nat := if stOk s rules many i = true then bt s i else 0
def stNext (s : ByteArray) (rules many i : Nat) : Nat := if stOk s rules many i = true then i + 1 + bt s i * (1 + many) else i

/-- What states answers, as a value. -/
theorem st_no {s : ByteArray} {rules many i : Nat} (h : ¬ (stOk s rules many i = true)) :
    stN s rules many i = 0 ∧ stNext s rules many i = i ∧ stOk s rules many i = false := by
  refine ⟨?_, ?_, ?_⟩
  · simp [stN, h]
  · simp [stNext, h]
  · simpa using h

theorem st_yes {s : ByteArray} {rules many i : Nat} (h : stOk s rules many i = true) :
    stN s rules many i = bt s i ∧ stNext s rules many i = i + 1 + bt s i * (1 + many) := by
  refine ⟨?_, ?_⟩
  · simp [stN, h]
  · simp [stNext, h]

end Go.Stn

/- Plain functions: an image, as stencilref.Parse reads it. -/
namespace Go.Stn

/-- How many rules, conditions, classes an image tells. -/
def iR (s : ByteArray) : Nat := bt s 3
def iM (s : ByteArray) : Nat := bt s (4 + iR s)
def iK (s : ByteArray) : Nat := bt s (5 + iR s) + 1

/-- Where the part of condition c begins. -/
def iAt (s : ByteArray) : Nat → Nat
  | 0 => 262 + iR s
  | c + 1 => stNext s (iR s) (iK s) (iAt s c)

/-- The head of an image: letters, rules, conditions. -/
def headA (s : ByteArray) : Bool :=
  decide (4 ≤ s.size) && (decide (bt s 0 = 83 ∧ bt s 1 = 84 ∧ bt s 2 = 1) && (decide (1 ≤ iR s) && decide (iR s ≤ 8)))
def headB (s : ByteArray) : Bool := belowB s (4 + iR s) 1 4 && decide (iM s ≠ 0)
def headC (s : ByteArray) : Bool := belowB s 4 (iR s) (1 + (iM s : Int)) && belowB s (5 + iR s) 1 255
def headD (s : ByteArray) : Bool := belowB s (6 + iR s) 256 ((iK s : Int) - 1)

/-- Is a text an image? -/
def imgOk (s : ByteArray) : Bool :=
  headA s && (headB s && (headC s && (headD s && (decide (∀ c, c < iM s → stOk s (iR s) (iK s) (iAt s c) = true) && decide (iAt s (iM s) = s.size)))))

theorem iK_pos (s : ByteArray) : 1 ≤ iK s := by unfold iK; omega
theorem iK_le (s : ByteArray) : iK s ≤ 256 := by unfold iK; have := bt_lt s (5 + iR s); omega

theorem imgOk_iff {s : ByteArray} : imgOk s = true ↔
    headA s = true ∧ headB s = true ∧ headC s = true ∧ headD s = true ∧ (∀ c, c < iM s → stOk s (iR s) (iK s) (iAt s c) = true) ∧ iAt s (iM s) = s.size := by
  unfold imgOk; simp only [Bool.and_eq_true, decide_eq_true_eq]

theorem headA_iff {s : ByteArray} : headA s = true ↔ 4 ≤ s.size ∧ (bt s 0 = 83 ∧ bt s 1 = 84 ∧ bt s 2 = 1) ∧ 1 ≤ iR s ∧ iR s ≤ 8 := by
  unfold headA; simp only [Bool.and_eq_true, decide_eq_true_eq]

theorem iAt_step {s : ByteArray} {c : Nat} (h : stOk s (iR s) (iK s) (iAt s c) = true) :
    iAt s (c + 1) = iAt s c + 1 + bt s (iAt s c) * (1 + iK s) ∧ iAt s (c + 1) ≤ s.size := by
  have h2 : iAt s (c + 1) = stNext s (iR s) (iK s) (iAt s c) := rfl
  rw [h2, (st_yes h).2]
  exact ⟨rfl, (stOk_iff.1 h).2.2.2.1⟩

theorem belowB_size {s : ByteArray} {i n : Nat} {m : Int} (h : belowB s i n m = true) : i + n ≤ s.size := by
  unfold belowB at h; simp only [Bool.and_eq_true, decide_eq_true_eq] at h; exact h.1
theorem belowB_le {s : ByteArray} {i n : Nat} {m : Int} (h : belowB s i n m = true) : ∀ j, j < n → (bt s (i + j) : Int) ≤ m := by
  unfold belowB at h; simp only [Bool.and_eq_true, decide_eq_true_eq] at h; exact h.2

theorem not_img_A {s : ByteArray} (h : headA s = false) : imgOk s = false := by
  unfold imgOk; rw [h]; rfl
theorem not_img_B {s : ByteArray} (h : headB s = false) : imgOk s = false := by
  unfold imgOk; rw [h]; simp
theorem not_img_C {s : ByteArray} (h : headC s = false) : imgOk s = false := by
  unfold imgOk; rw [h]; simp
theorem not_img_D {s : ByteArray} (h : headD s = false) : imgOk s = false := by
  unfold imgOk; rw [h]; simp
theorem not_img_st {s : ByteArray} {c : Nat} (hc : c < iM s) (h : stOk s (iR s) (iK s) (iAt s c) = false) : imgOk s = false := by
  cases hi : imgOk s with
  | false => rfl
  | true => rw [imgOk_iff] at hi; rw [hi.2.2.2.2.1 c hc] at h; cases h

end Go.Stn

/- Plain functions: stepping through an image's tables. -/
namespace Go.Stn

/-- How many states a condition has. -/
def nSt (s : ByteArray) (c : Nat) : Nat := bt s (iAt s c)
/-- The place of a state's row. -/
def rwAt (s : ByteArray) (c st : Nat) : Nat := iAt s c + 1 + st * (1 + iK s)
/-- A byte's class. -/
def clsN (s : ByteArray) (v : Nat) : Nat := bt s (6 + iR s + v)
/-- Where a byte leads: the byte of the table. -/
def leadN (s : ByteArray) (c st v : Nat) : Nat := bt s (rwAt s c st + 1 + clsN s v)
/-- A state's first byte. -/
def markN (s : ByteArray) (c st : Nat) : Nat := bt s (rwAt s c st)

theorem img_head {s : ByteArray} (h : imgOk s = true) : iR s ≤ 8 ∧ 1 ≤ iR s ∧ 1 ≤ iM s ∧ iM s ≤ 4 ∧ 6 + iR s + 256 ≤ s.size := by
  rw [imgOk_iff] at h
  have hA := headA_iff.1 h.1
  have hB := h.2.1
  unfold headB at hB
  simp only [Bool.and_eq_true, decide_eq_true_eq] at hB
  have hm := belowB_le hB.1 0 (by omega)
  have hD := h.2.2.2.1
  unfold headD at hD
  have := belowB_size hD
  have e : (bt s (4 + iR s + 0) : Int) = (iM s : Int) := rfl
  rw [e] at hm
  exact ⟨hA.2.2.2, hA.2.2.1, by omega, by omega, by omega⟩

theorem cls_lt {s : ByteArray} (h : imgOk s = true) (v : Nat) (hv : v < 256) : clsN s v < iK s := by
  rw [imgOk_iff] at h
  have hD := h.2.2.2.1
  unfold headD at hD
  have := belowB_le hD v hv
  unfold clsN
  omega

theorem img_st {s : ByteArray} (h : imgOk s = true) {c : Nat} (hc : c < iM s) : stOk s (iR s) (iK s) (iAt s c) = true := (imgOk_iff.1 h).2.2.2.2.1 c hc

theorem row_in {s : ByteArray} (h : imgOk s = true) {c st : Nat} (hc : c < iM s) (hst : st < nSt s c) : rwAt s c st + iK s < s.size := by
  have hs := stOk_iff.1 (img_st h hc)
  have h4 := hs.2.2.2.1
  unfold rwAt nSt at *
  have : st * (1 + iK s) + (1 + iK s) ≤ bt s (iAt s c) * (1 + iK s) := by
    have := Nat.mul_le_mul_right (1 + iK s) (show st + 1 ≤ bt s (iAt s c) from hst)
    rw [Nat.add_mul] at this; omega
  omega

theorem lead_in {s : ByteArray} (h : imgOk s = true) {c st v : Nat} (hc : c < iM s) (hst : st < nSt s c) (hv : v < 256) : rwAt s c st + 1 + clsN s v < s.size := by
  have := row_in h hc hst
  have := cls_lt h v hv
  omega

theorem lead_lt {s : ByteArray} (h : imgOk s = true) {c st v : Nat} (hc : c < iM s) (hst : st < nSt s c) (hv : v < 256) : leadN s c st v < nSt s c ∨ leadN s c st v = 255 := by
  have hs := stOk_iff.1 (img_st h hc)
  have hr := hs.2.2.2.2 st hst
  rw [rowOk_iff] at hr
  have := hr.2 (clsN s v) (cls_lt h v hv)
  unfold leadN rwAt nSt
  have e : iAt s c + 1 + st * (1 + iK s) + (clsN s v + 1) = iAt s c + 1 + st * (1 + iK s) + 1 + clsN s v := by omega
  rw [e] at this
  exact this

theorem mark_le {s : ByteArray} (h : imgOk s = true) {c st : Nat} (hc : c < iM s) (hst : st < nSt s c) : markN s c st ≤ iR s := by
  have hs := stOk_iff.1 (img_st h hc)
  have hr := hs.2.2.2.2 st hst
  rw [rowOk_iff] at hr
  exact hr.1

theorem nSt_le {s : ByteArray} (h : imgOk s = true) {c : Nat} (hc : c < iM s) : nSt s c ≤ 100 ∧ 1 ≤ nSt s c := by
  have hs := stOk_iff.1 (img_st h hc)
  unfold nSt
  have := hs.2.1
  have := hs.2.2.1
  omega

theorem rwAt_int (s : ByteArray) (c st : Nat) : ((iAt s c + 1 : Nat) : Int) + (st : Int) * (1 + (iK s : Int)) = (rwAt s c st : Int) := by
  unfold rwAt; simp

end Go.Stn

