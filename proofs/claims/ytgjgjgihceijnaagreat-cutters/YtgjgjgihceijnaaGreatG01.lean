/- Texts put together: RfKit, Kit1, CkPure, CkPure2, CkPure3, ScPure, LyPure, LyRd, LyNums. -/
import Derived.WalkKit
import Derived.WalkSpells
import Derived.WalkLawsBesides
import Derived.Deep.MidRow
import Derived.Deep.WholeRow
import Derived.Laws.ResultCell
import Derived.Deep.AppendLies
import Derived.Deep.AppendSrc
import Derived.Test.YtgjgjgihceijnaaGreatChecked
import Derived.Deep.QuietTactic
import Derived.Deep.LoopGhost
import Derived.BigQuiet
namespace Go.Stn
open Go.RowKit
theorem there_set {w : World} {b o n : Nat} (h : w.there b o n) (a : Addr) (v : Value) : (w.setCell a v).there b o n := by
  intro j hj
  obtain ⟨h1, h2⟩ := h j hj
  refine ⟨?_, by rw [World.frozen?_setCell]; exact h2⟩
  obtain ⟨u, hu⟩ := Option.isSome_iff_exists.1 h1
  obtain ⟨v', hv'⟩ := cell?_setCell_some (p := a) (x := v) hu
  rw [hv']; rfl

theorem there_below {w w' : World} {B b o n : Nat} (h : w.there b o n) (hB : Below B w w') (hb : b < B) : w'.there b o n := by
  intro j hj
  obtain ⟨h1, h2⟩ := h j hj
  exact ⟨by rw [hB.cell (p := ⟨b, o + j, none⟩) hb]; exact h1, by rw [hB.frozen (p := ⟨b, o + j, none⟩) hb]; exact h2⟩

theorem rangeAt_below {w w' : World} {B b o : Nat} {cs : List Value} (h : w.rangeAt b o cs) (hB : Below B w w') (hb : b < B) : w'.rangeAt b o cs := by
  intro j v hv
  rw [hB.cell (p := ⟨b, o + j, none⟩) hb]; exact h j v hv

/-- A block just made. -/
theorem there_new (w : World) (c : Array Value) (t : TypeId) : (w.alloc (.cells c t)).there w.heap.size 0 c.size := by
  intro j hj
  rw [Nat.zero_add, World.cell?_alloc_new, World.frozen?_alloc_new]
  exact ⟨by simp [hj], rfl⟩
theorem there_newA (w : World) (c : Array Value) (t : TypeId) (B n : Nat) (h : c.size = n) (hB : w.heap.size = B) : (w.alloc (.cells c t)).there B 0 n := by
  subst hB; subst h; exact there_new w c t
theorem rangeAt_new (w : World) (c : Array Value) (t : TypeId) : (w.alloc (.cells c t)).rangeAt w.heap.size 0 c.toList := by
  intro j v hv
  rw [Nat.zero_add, World.cell?_alloc_new]
  simpa using hv

theorem results_cell1 {fn : Func} {p : Tmp} {ty : TypeId} (h : fn.results = #[.cell p ty]) (tmps : Array Value) (P : Program) (w : World) :
    (results fn tmps).run P w = ((asAddr (tmps.getD p undef)).run P w).andThen fun a w₁ => (loadVar ty a).run P w₁ := by
  simp only [results, h]
  simp [Sem.run_bind, Result.andThen]

/-- A result that lies in memory, of many cells. -/
theorem ret_cell1 {P : Program} {fn : Func} {R : Ending → World → Prop} {a : Act} {w : World} {p : Tmp} {ty : TypeId} (h : fn.results = #[.cell p ty]) (b o : Nat) (cs : List Value) (d : TypeDesc)
    (hp : a.tmps.getD p undef = .pointer (some ⟨b, o, none⟩)) (hc : w.rangeAt b o cs) (hu : P.underlying ty = some d) (hd : d.isRow = true) (hi : (P.info? ty).map (·.size) = some cs.length)
    (hdf : a.defers = []) (hR : R (.returned (.agg cs.toArray)) w) : bodyPost P fn R .ret a w := by
  refine bodyPost_ret (v := .agg cs.toArray) ?_ hdf hR
  rw [results_cell1 h, hp]
  simp [Result.andThen, asAddr, run_loadVar_mid w b o ty cs d hc hu hd hi]

theorem ret_cell2 {P : Program} {fn : Func} {R : Ending → World → Prop} {a : Act} {w : World} {p u : Tmp} {ty : TypeId} (h : fn.results = #[.cell p ty, .tmp u]) (b o : Nat) (cs : List Value) (d : TypeDesc) (v : Value)
    (hp : a.tmps.getD p undef = .pointer (some ⟨b, o, none⟩)) (hv : a.tmps.getD u undef = v) (hc : w.rangeAt b o cs) (hu : P.underlying ty = some d) (hd : d.isRow = true) (hi : (P.info? ty).map (·.size) = some cs.length)
    (hdf : a.defers = []) (hR : R (.returned (.tuple #[.agg cs.toArray, v])) w) : bodyPost P fn R .ret a w := by
  refine bodyPost_ret (v := .tuple #[.agg cs.toArray, v]) ?_ hdf hR
  rw [results_cell_tmp h, hp, hv]
  simp [Result.andThen, asAddr, run_loadVar_mid w b o ty cs d hc hu hd hi]

theorem grown_trans {a b c : World} {r : Option Nat} (h : a.grownBy b r) (k : b.grownBy c r) : a.grownBy c r :=
  ⟨k.os.trans h.os, k.tape.trans h.tape, k.output.trans h.output, Nat.le_trans h.size k.size, fun i hi hr => (k.block i (Nat.lt_of_lt_of_le hi h.size) hr).trans (h.block i hi hr)⟩
theorem grown_drewN {a w : World} {r : Option Nat} (h : a.grownBy w r) (n : Nat) : a.grownBy (w.drewN n) r := ⟨h.os, h.tape, h.output, h.size, h.block⟩
theorem grown_set {a w : World} {b : Nat} (h : a.grownBy w (some b)) (i : Nat) (v : Value) : a.grownBy (w.setCell ⟨b, i, none⟩ v) (some b) :=
  ⟨h.os, h.tape, h.output, by have := h.size; simp [World.setCell]; omega, fun k hk hr => (Below.heap_setCell w ⟨b, i, none⟩ v k (by intro e; exact hr (by rw [e]))).trans (h.block k hk hr)⟩
theorem grown_below {a w : World} {b : Nat} (h : a.grownBy w (some b)) (hb : b ≤ a.heap.size) : Below b a w :=
  ⟨h.os, h.tape, h.output, h.size, fun k hk => h.block k (by omega) (by intro e; injection e; omega)⟩
theorem rangeAt_block {w w' : World} {b o : Nat} {cs : List Value} (h : w.rangeAt b o cs) (he : w'.heap[b]? = w.heap[b]?) : w'.rangeAt b o cs := fun j v hv => by
  rw [World.cell?_of_block (w := w) he]; exact h j v hv
theorem there_block {w w' : World} {b o n : Nat} (h : w.there b o n) (he : w'.heap[b]? = w.heap[b]?) : w'.there b o n := fun j hj => by
  rw [World.cell?_of_block (w := w) he, World.frozen?_of_block (w := w) he]; exact h j hj

theorem rowSlice {w : World} {base : Nat} {e : TypeId} {size : Nat} {v : Value} {n : Nat} {xs : List Value} (h : w.ownsRow base e size v n xs) : ∃ a cap, v = .slice a n cap := by
  rcases h.2 with ⟨rfl, rfl⟩ | ⟨g, cap, _, rfl, _⟩
  · exact ⟨none, 0, rfl⟩
  · exact ⟨_, cap, rfl⟩

theorem grow_cell {W w4 : World} {o : Obj} {r : Option Nat} (hg : (W.alloc o).grownBy w4 r) {k : Nat} (hk : k < W.heap.size) (hr : some k ≠ r) : (∀ i, w4.cell? ⟨k, i, none⟩ = W.cell? ⟨k, i, none⟩) ∧ ∀ i, w4.frozen? ⟨k, i, none⟩ = W.frozen? ⟨k, i, none⟩ := by
  have he : w4.heap[k]? = W.heap[k]? := (hg.block k (by simp; omega) hr).trans (Below.heap_alloc W o k hk)
  exact ⟨fun i => World.cell?_of_block (w := W) (a := ⟨k, i, none⟩) he, fun i => World.frozen?_of_block (w := W) (a := ⟨k, i, none⟩) he⟩

theorem grown_alloc2 {a w : World} {r : Option Nat} (h : a.grownBy w r) (o : Obj) : a.grownBy (w.alloc o) r := grown_trans h (World.grownBy_alloc w o r)
theorem grown_of_below {a w : World} {B : Nat} (h : Below B a w) (hB : a.heap.size ≤ B) (r : Option Nat) : a.grownBy w r := ⟨h.os, h.tape, h.output, h.size, fun k hk _ => h.block k (by omega)⟩

theorem below_setCells {B : Nat} {a : World} : ∀ (vs : List Value) (o : Nat) (w : World) (b : Nat), Below B a w → B ≤ b → Below B a (w.setCells b o vs) := by
  intro vs
  induction vs with
  | nil => intro o w b h _; exact h
  | cons v r ih => intro o w b h hb; exact ih (o + 1) _ b (h.setCell (p := ⟨b, o, none⟩) hb v) hb


theorem grown_setCells {a w : World} {r : Option Nat} (h : a.grownBy w r) (b o : Nat) (vs : List Value) (hb : a.heap.size ≤ b) : a.grownBy (w.setCells b o vs) r := by
  have hB : Below a.heap.size w (w.setCells b o vs) := below_setCells vs o w b (Below.refl _ _) hb
  exact ⟨hB.os.trans h.os, hB.tape.trans h.tape, hB.output.trans h.output, Nat.le_trans h.size hB.size, fun k hk hr => (hB.block k hk).trans (h.block k hk hr)⟩
end Go.Stn

namespace Go.Stn
open Go.RowKit

/-- 'x = append(x, v)' onto what the call owns: v's cells lie in the block made just before. -/
theorem wpList_app1 {P : Program} (w : World) {ops : Array Oper} {rest : List Oper} {o : Oper} {a : Act} {Q : Exit → Act → World → Prop} (hgd : o.guard = none) (s x : Operand) (t : TypeId)
    (ho : o.op = .call { callee := .builtin .append, args := #[s, x], argTypes := #[t, t] })
    (base : Nat) (e : TypeId) (z : Value) (size bytes : Nat) (ht : P.underlying t = some (.slice e)) (hinfo : (P.info? e).map (fun i => (i.zero, i.size, i.bytes)) = some (some z, size, bytes))
    (hzs : z.cells.size = size) (hsz : 0 < size) (hby : bytes ≤ 1000)
    (v : Value) (n : Nat) (xs : List Value) (cs : List Value) (e' : TypeId) (hs : a.eval s = v) (hown : w.ownsRow base e size v n xs)
    (B : Nat) (hB : w.heap.size = B) (hx : a.eval x = .slice (some ⟨B, 0, none⟩) 1 1) (hl : cs.length = size) (h1 : ∀ u ∈ cs, u.oneCell' = true)
    (hn : n ≤ 1000000000) (hbase : base ≤ w.heap.size)
    (h : ∀ g cap w', w'.ownsRow base e size (.slice (some ⟨g, 0, none⟩) (n + 1) cap) (n + 1) (xs ++ cs) → (w.alloc (.cells cs.toArray e')).grownBy w' v.ownBlock → (v.ownBlock = some g ∨ g = w.heap.size + 1) → g < w'.heap.size →
      wpList P ops Q rest (a.put o.dst (.slice (some ⟨g, 0, none⟩) (n + 1) cap)) w') : wpList P ops Q (o :: rest) a (w.alloc (.cells cs.toArray e')) := by
  subst hB
  obtain ⟨i, hi, hz, hsize, hb⟩ := info_parts hinfo
  refine wpList_append_lies _ hgd s x t ho base e i z size bytes ht hi hz hsize hb hzs hsz v n xs hs (hown.alloc _) ⟨w.heap.size, 0, none⟩ 1 1 cs hx (by omega) ?_ h1 (by omega) (by unfold maxLen; omega) ?_ (by simp; omega) (w.heap.size + 1) (by simp) h
  · have := World.news_of_block (w := w.alloc (.cells cs.toArray e')) (B := w.heap.size) (cs := cs.toArray) (t := e') (fr := (0, 0)) (heap_alloc_new w _)
    simpa using this
  · have := Nat.mul_le_mul (show n + 1 ≤ 1000000001 by omega) hby
    omega

/-- The same, at a step of a region that draws its order. -/
theorem step_app1 {P : Program} (w : World) {ops : Array Oper} {o : Oper} {a : Act} {K : Act → World → Prop} {Q : Exit → Act → World → Prop} {E : Prop} (hgd : o.guard = none) (s x : Operand) (t : TypeId)
    (ho : o.op = .call { callee := .builtin .append, args := #[s, x], argTypes := #[t, t] })
    (base : Nat) (e : TypeId) (z : Value) (size bytes : Nat) (ht : P.underlying t = some (.slice e)) (hinfo : (P.info? e).map (fun i => (i.zero, i.size, i.bytes)) = some (some z, size, bytes))
    (hzs : z.cells.size = size) (hsz : 0 < size) (hby : bytes ≤ 1000)
    (v : Value) (n : Nat) (xs : List Value) (cs : List Value) (e' : TypeId) (hs : a.eval s = v) (hown : w.ownsRow base e size v n xs)
    (B : Nat) (hB : w.heap.size = B) (hx : a.eval x = .slice (some ⟨B, 0, none⟩) 1 1) (hl : cs.length = size) (h1 : ∀ u ∈ cs, u.oneCell' = true)
    (hn : n ≤ 1000000000) (hbase : base ≤ w.heap.size)
    (h : ∀ g cap w', w'.ownsRow base e size (.slice (some ⟨g, 0, none⟩) (n + 1) cap) (n + 1) (xs ++ cs) → (w.alloc (.cells cs.toArray e')).grownBy w' v.ownBlock → (v.ownBlock = some g ∨ g = w.heap.size + 1) → g < w'.heap.size →
      K (a.put o.dst (.slice (some ⟨g, 0, none⟩) (n + 1) cap)) w') : if Region.wanted o (yielded ops a.tmps) = true then Oper.wp P o a (w.alloc (.cells cs.toArray e')) K Q else E := by
  subst hB
  obtain ⟨i, hi, hz, hsize, hb⟩ := info_parts hinfo
  refine step_append_lies _ hgd s x t ho base e i z size bytes ht hi hz hsize hb hzs hsz v n xs hs (hown.alloc _) ⟨w.heap.size, 0, none⟩ 1 1 cs hx (by omega) ?_ h1 (by omega) (by unfold maxLen; omega) ?_ (by simp; omega) (w.heap.size + 1) (by simp) h
  · have := World.news_of_block (w := w.alloc (.cells cs.toArray e')) (B := w.heap.size) (cs := cs.toArray) (t := e') (fr := (0, 0)) (heap_alloc_new w _)
    simpa using this
  · have := Nat.mul_le_mul (show n + 1 ≤ 1000000001 by omega) hby
    omega

/-- 'append(v, nil...)' is v. -/
theorem run_app_nil {P : Program} (w : World) (t ty : TypeId) (base : Nat) (e : TypeId) (z : Value) (size bytes : Nat) (ht : P.underlying t = some (.slice e)) (hinfo : (P.info? e).map (fun i => (i.zero, i.size, i.bytes)) = some (some z, size, bytes))
    (v : Value) (n : Nat) (xs : List Value) (hown : w.ownsRow base e size v n xs) : (Builtin.append_ #[t, t] ty #[v, .slice none 0 0]).run P w = .ok v w := by
  obtain ⟨i, hi, hz, hsize, hb⟩ := info_parts hinfo
  rcases hown.2 with ⟨rfl, rfl⟩ | ⟨g, cap, cur, rfl, hbg, hg, hnc, hcm, hcs, htake⟩
  · simp [Builtin.append_, run_underlying ht, sizeOf, typeInfo, hi, Builtin.lenOf, Builtin.firstCells]
  · have h := run_append_room_src (P := P) w t t ty e i ht hi g 0 n cap (.slice none 0 0) 0 [] (Src.ofNil (size := i.size) w ht 0) (by omega) (fun j hj => by simp at hj) (fun j hj => by simp at hj)
    rw [h]
    rfl

theorem wpList_app0 {P : Program} (w : World) {ops : Array Oper} {rest : List Oper} {o : Oper} {a : Act} {Q : Exit → Act → World → Prop} (hgd : o.guard = none) (s x : Operand) (t : TypeId)
    (ho : o.op = .call { callee := .builtin .append, args := #[s, x], argTypes := #[t, t] })
    (base : Nat) (e : TypeId) (z : Value) (size bytes : Nat) (ht : P.underlying t = some (.slice e)) (hinfo : (P.info? e).map (fun i => (i.zero, i.size, i.bytes)) = some (some z, size, bytes))
    (v : Value) (n : Nat) (xs : List Value) (hs : a.eval s = v) (hown : w.ownsRow base e size v n xs) (hx : a.eval x = .slice none 0 0)
    (h : wpList P ops Q rest (a.put o.dst v) w) : wpList P ops Q (o :: rest) a w := by
  refine wpList_plain hgd fun K hK => ?_
  have hr := run_app_nil (P := P) w t o.type base e z size bytes ht hinfo v n xs hown
  unfold Oper.wp execOp
  simp only [ho, resolve, invoke, builtin, Sem.run_bind, Sem.run_pure, Result.andThen_ok, List.map_toArray, List.map_cons, List.map_nil, hs, hx, hr]
  exact hK _ _ h

/-- 'append(v, sv...)' of two rows that the call owns. -/
theorem wpList_appRow {P : Program} (w : World) {ops : Array Oper} {rest : List Oper} {o : Oper} {a : Act} {Q : Exit → Act → World → Prop} (hgd : o.guard = none) (s x : Operand) (t : TypeId)
    (ho : o.op = .call { callee := .builtin .append, args := #[s, x], argTypes := #[t, t] })
    (base base2 : Nat) (e : TypeId) (z : Value) (size bytes : Nat) (ht : P.underlying t = some (.slice e)) (hinfo : (P.info? e).map (fun i => (i.zero, i.size, i.bytes)) = some (some z, size, bytes))
    (hzs : z.cells.size = size) (hsz : 0 < size) (hby : bytes ≤ 1000)
    (v : Value) (n : Nat) (xs : List Value) (sv : Value) (m : Nat) (ys : List Value) (hs : a.eval s = v) (hown : w.ownsRow base e size v n xs)
    (hx : a.eval x = sv) (hsrc : w.ownsRow base2 e size sv m ys) (h1 : ∀ u ∈ ys, u.oneCell' = true) (hm : 0 < m)
    (hn : n + m ≤ 1000000000) (hbase : base ≤ w.heap.size)
    (h : ∀ g cap w', w'.ownsRow base e size (.slice (some ⟨g, 0, none⟩) (n + m) cap) (n + m) (xs ++ ys) → w.grownBy w' v.ownBlock → (v.ownBlock = some g ∨ g = w.heap.size) → g < w'.heap.size →
      wpList P ops Q rest (a.put o.dst (.slice (some ⟨g, 0, none⟩) (n + m) cap)) w') : wpList P ops Q (o :: rest) a w := by
  obtain ⟨i, hi, hz, hsize, hb⟩ := info_parts hinfo
  obtain ⟨g, cap, rfl, hbg, hgl⟩ := hsrc.form hm
  refine wpList_append_lies _ hgd s x t ho base e i z size bytes ht hi hz hsize hb hzs hsz v n xs hs hown ⟨g, 0, none⟩ m cap ys hx hsrc.1 (hsrc.cells rfl) h1 hm (by unfold maxLen; omega) ?_ hbase _ rfl h
  have := Nat.mul_le_mul hn hby
  omega

/-- 'Below' over such an append. -/
theorem below_app {B base : Nat} {a w w1 : World} {o : Obj} {e : TypeId} {size : Nat} {v : Value} {n : Nat} {xs : List Value} (h : Below B a w) (hz : B ≤ w.heap.size) (hv : w.ownsRow base e size v n xs) (hb : B ≤ base)
    (hg : (w.alloc o).grownBy w1 v.ownBlock) : Below B a w1 :=
  (h.alloc hz o).grown hg (by simp; omega) (fun k hk => by have := hv.lt k hk; omega)

end Go.Stn

namespace Go.Stn
/-- The byte of a text at a place; 0 behind its end. -/
def bt (s : ByteArray) (i : Nat) : Nat := (s.data.toList.getD i 0).toNat

theorem bt_lt (s : ByteArray) (i : Nat) : bt s i < 256 := by
  unfold bt; exact UInt8.toNat_lt _

theorem bt_eq (s : ByteArray) (i : Nat) (h : i < s.size) : (s[i]).toNat = bt s i := by
  unfold bt
  have : i < s.data.toList.length := by simpa using h
  rw [List.getD_eq_getElem?_getD, List.getElem?_eq_getElem this]
  rfl

/-- Are the bytes of s from i on, n of them, there, and none above most? -/
def belowB (s : ByteArray) (i n : Nat) (most : Int) : Bool :=
  decide (i + n ≤ s.size) && decide (∀ j, j < n → (bt s (i + j) : Int) ≤ most)

theorem belowB_short {s : ByteArray} {i n : Nat} {most : Int} (h : s.size < i + n) : belowB s i n most = false := by
  unfold belowB; simp; omega

theorem belowB_yes {s : ByteArray} {i n : Nat} {most : Int} (h : i + n ≤ s.size) (ha : ∀ j, j < n → (bt s (i + j) : Int) ≤ most) : belowB s i n most = true := by
  unfold belowB; simp [h]; exact ha

theorem belowB_no {s : ByteArray} {i n j : Nat} {most : Int} (hj : j < n) (ha : most < (bt s (i + j) : Int)) : belowB s i n most = false := by
  unfold belowB
  simp only [Bool.and_eq_false_iff, decide_eq_false_iff_not]
  right; intro h; have := h j hj; omega

end Go.Stn

namespace Go.Stn
/-- One row of a state table is fine: the mark at most rules, each lead below n or 255. -/
def rowOk (s : ByteArray) (rules many n at_ : Nat) : Bool :=
  decide (bt s at_ ≤ rules) && decide (∀ k, k < many → bt s (at_ + (k + 1)) < n ∨ bt s (at_ + (k + 1)) = 255)

/-- A condition's part of an image that begins at i is fine. -/
def stOk (s : ByteArray) (rules many i : Nat) : Bool :=
  decide (i + 1 ≤ s.size) && (decide (bt s i ≤ 100) && (decide (bt s i ≠ 0) && (decide (i + 1 + bt s i * (1 + many) ≤ s.size) &&
    decide (∀ st, st < bt s i → rowOk s rules many (bt s i) (i + 1 + st * (1 + many)) = true))))

theorem rowOk_iff {s : ByteArray} {rules many n at_ : Nat} : rowOk s rules many n at_ = true ↔
    bt s at_ ≤ rules ∧ ∀ k, k < many → bt s (at_ + (k + 1)) < n ∨ bt s (at_ + (k + 1)) = 255 := by
  unfold rowOk; simp only [Bool.and_eq_true, decide_eq_true_eq]

theorem stOk_iff {s : ByteArray} {rules many i : Nat} : stOk s rules many i = true ↔
    i + 1 ≤ s.size ∧ bt s i ≤ 100 ∧ bt s i ≠ 0 ∧ i + 1 + bt s i * (1 + many) ≤ s.size ∧
      ∀ st, st < bt s i → rowOk s rules many (bt s i) (i + 1 + st * (1 + many)) = true := by
  unfold stOk; simp only [Bool.and_eq_true, decide_eq_true_eq]

/-- What states answers: how many, the place behind. -/
def stN (s : ByteArray) (rules many i : Nat) : Nat := if stOk s rules many i = true then bt s i else 0
def stNext (s : ByteArray) (rules many i : Nat) : Nat := if stOk s rules many i = true then i + 1 + bt s i * (1 + many) else i

/-- What states answers, as a value. -/
theorem st_no {s : ByteArray} {rules many i : Nat} (h : ¬ (stOk s rules many i = true)) :
    stN s rules many i = 0 ∧ stNext s rules many i = i ∧ stOk s rules many i = false := by
  refine ⟨?_, ?_, ?_⟩
  · simp [stN, h]
  · simp [stNext, h]
  · simpa using h

theorem st_yes {s : ByteArray} {rules many i : Nat} (h : stOk s rules many i = true) :
    stN s rules many i = bt s i ∧ stNext s rules many i = i + 1 + bt s i * (1 + many) := by
  refine ⟨?_, ?_⟩
  · simp [stN, h]
  · simp [stNext, h]

end Go.Stn

namespace Go.Stn
/-- How many rules, conditions, classes an image tells. -/
def iR (s : ByteArray) : Nat := bt s 3
def iM (s : ByteArray) : Nat := bt s (4 + iR s)
def iK (s : ByteArray) : Nat := bt s (5 + iR s) + 1

/-- Where the part of condition c begins. -/
def iAt (s : ByteArray) : Nat → Nat
  | 0 => 262 + iR s
  | c + 1 => stNext s (iR s) (iK s) (iAt s c)

/-- The head of an image: letters, rules, conditions. -/
def headA (s : ByteArray) : Bool :=
  decide (4 ≤ s.size) && (decide (bt s 0 = 83 ∧ bt s 1 = 84 ∧ bt s 2 = 1) && (decide (1 ≤ iR s) && decide (iR s ≤ 8)))
def headB (s : ByteArray) : Bool := belowB s (4 + iR s) 1 4 && decide (iM s ≠ 0)
def headC (s : ByteArray) : Bool := belowB s 4 (iR s) (1 + (iM s : Int)) && belowB s (5 + iR s) 1 255
def headD (s : ByteArray) : Bool := belowB s (6 + iR s) 256 ((iK s : Int) - 1)

/-- Is a text an image? -/
def imgOk (s : ByteArray) : Bool :=
  headA s && (headB s && (headC s && (headD s && (decide (∀ c, c < iM s → stOk s (iR s) (iK s) (iAt s c) = true) && decide (iAt s (iM s) = s.size)))))

theorem iK_pos (s : ByteArray) : 1 ≤ iK s := by unfold iK; omega
theorem iK_le (s : ByteArray) : iK s ≤ 256 := by unfold iK; have := bt_lt s (5 + iR s); omega

theorem imgOk_iff {s : ByteArray} : imgOk s = true ↔
    headA s = true ∧ headB s = true ∧ headC s = true ∧ headD s = true ∧ (∀ c, c < iM s → stOk s (iR s) (iK s) (iAt s c) = true) ∧ iAt s (iM s) = s.size := by
  unfold imgOk; simp only [Bool.and_eq_true, decide_eq_true_eq]

theorem headA_iff {s : ByteArray} : headA s = true ↔ 4 ≤ s.size ∧ (bt s 0 = 83 ∧ bt s 1 = 84 ∧ bt s 2 = 1) ∧ 1 ≤ iR s ∧ iR s ≤ 8 := by
  unfold headA; simp only [Bool.and_eq_true, decide_eq_true_eq]

theorem iAt_step {s : ByteArray} {c : Nat} (h : stOk s (iR s) (iK s) (iAt s c) = true) :
    iAt s (c + 1) = iAt s c + 1 + bt s (iAt s c) * (1 + iK s) ∧ iAt s (c + 1) ≤ s.size := by
  have h2 : iAt s (c + 1) = stNext s (iR s) (iK s) (iAt s c) := rfl
  rw [h2, (st_yes h).2]
  exact ⟨rfl, (stOk_iff.1 h).2.2.2.1⟩

theorem belowB_size {s : ByteArray} {i n : Nat} {m : Int} (h : belowB s i n m = true) : i + n ≤ s.size := by
  unfold belowB at h; simp only [Bool.and_eq_true, decide_eq_true_eq] at h; exact h.1
theorem belowB_le {s : ByteArray} {i n : Nat} {m : Int} (h : belowB s i n m = true) : ∀ j, j < n → (bt s (i + j) : Int) ≤ m := by
  unfold belowB at h; simp only [Bool.and_eq_true, decide_eq_true_eq] at h; exact h.2

theorem not_img_A {s : ByteArray} (h : headA s = false) : imgOk s = false := by
  unfold imgOk; rw [h]; rfl
theorem not_img_B {s : ByteArray} (h : headB s = false) : imgOk s = false := by
  unfold imgOk; rw [h]; simp
theorem not_img_C {s : ByteArray} (h : headC s = false) : imgOk s = false := by
  unfold imgOk; rw [h]; simp
theorem not_img_D {s : ByteArray} (h : headD s = false) : imgOk s = false := by
  unfold imgOk; rw [h]; simp
theorem not_img_st {s : ByteArray} {c : Nat} (hc : c < iM s) (h : stOk s (iR s) (iK s) (iAt s c) = false) : imgOk s = false := by
  cases hi : imgOk s with
  | false => rfl
  | true => rw [imgOk_iff] at hi; rw [hi.2.2.2.2.1 c hc] at h; cases h

end Go.Stn

namespace Go.Stn
/-- How many states a condition has. -/
def nSt (s : ByteArray) (c : Nat) : Nat := bt s (iAt s c)
/-- The place of a state's row. -/
def rwAt (s : ByteArray) (c st : Nat) : Nat := iAt s c + 1 + st * (1 + iK s)
/-- A byte's class. -/
def clsN (s : ByteArray) (v : Nat) : Nat := bt s (6 + iR s + v)
/-- Where a byte leads: the byte of the table. -/
def leadN (s : ByteArray) (c st v : Nat) : Nat := bt s (rwAt s c st + 1 + clsN s v)
/-- A state's first byte. -/
def markN (s : ByteArray) (c st : Nat) : Nat := bt s (rwAt s c st)

theorem img_head {s : ByteArray} (h : imgOk s = true) : iR s ≤ 8 ∧ 1 ≤ iR s ∧ 1 ≤ iM s ∧ iM s ≤ 4 ∧ 6 + iR s + 256 ≤ s.size := by
  rw [imgOk_iff] at h
  have hA := headA_iff.1 h.1
  have hB := h.2.1
  unfold headB at hB
  simp only [Bool.and_eq_true, decide_eq_true_eq] at hB
  have hm := belowB_le hB.1 0 (by omega)
  have hD := h.2.2.2.1
  unfold headD at hD
  have := belowB_size hD
  have e : (bt s (4 + iR s + 0) : Int) = (iM s : Int) := rfl
  rw [e] at hm
  exact ⟨hA.2.2.2, hA.2.2.1, by omega, by omega, by omega⟩

theorem cls_lt {s : ByteArray} (h : imgOk s = true) (v : Nat) (hv : v < 256) : clsN s v < iK s := by
  rw [imgOk_iff] at h
  have hD := h.2.2.2.1
  unfold headD at hD
  have := belowB_le hD v hv
  unfold clsN
  omega

theorem img_st {s : ByteArray} (h : imgOk s = true) {c : Nat} (hc : c < iM s) : stOk s (iR s) (iK s) (iAt s c) = true := (imgOk_iff.1 h).2.2.2.2.1 c hc

theorem row_in {s : ByteArray} (h : imgOk s = true) {c st : Nat} (hc : c < iM s) (hst : st < nSt s c) : rwAt s c st + iK s < s.size := by
  have hs := stOk_iff.1 (img_st h hc)
  have h4 := hs.2.2.2.1
  unfold rwAt nSt at *
  have : st * (1 + iK s) + (1 + iK s) ≤ bt s (iAt s c) * (1 + iK s) := by
    have := Nat.mul_le_mul_right (1 + iK s) (show st + 1 ≤ bt s (iAt s c) from hst)
    rw [Nat.add_mul] at this; omega
  omega

theorem lead_in {s : ByteArray} (h : imgOk s = true) {c st v : Nat} (hc : c < iM s) (hst : st < nSt s c) (hv : v < 256) : rwAt s c st + 1 + clsN s v < s.size := by
  have := row_in h hc hst
  have := cls_lt h v hv
  omega

theorem lead_lt {s : ByteArray} (h : imgOk s = true) {c st v : Nat} (hc : c < iM s) (hst : st < nSt s c) (hv : v < 256) : leadN s c st v < nSt s c ∨ leadN s c st v = 255 := by
  have hs := stOk_iff.1 (img_st h hc)
  have hr := hs.2.2.2.2 st hst
  rw [rowOk_iff] at hr
  have := hr.2 (clsN s v) (cls_lt h v hv)
  unfold leadN rwAt nSt
  have e : iAt s c + 1 + st * (1 + iK s) + (clsN s v + 1) = iAt s c + 1 + st * (1 + iK s) + 1 + clsN s v := by omega
  rw [e] at this
  exact this

theorem mark_le {s : ByteArray} (h : imgOk s = true) {c st : Nat} (hc : c < iM s) (hst : st < nSt s c) : markN s c st ≤ iR s := by
  have hs := stOk_iff.1 (img_st h hc)
  have hr := hs.2.2.2.2 st hst
  rw [rowOk_iff] at hr
  exact hr.1

theorem nSt_le {s : ByteArray} (h : imgOk s = true) {c : Nat} (hc : c < iM s) : nSt s c ≤ 100 ∧ 1 ≤ nSt s c := by
  have hs := stOk_iff.1 (img_st h hc)
  unfold nSt
  have := hs.2.1
  have := hs.2.2.1
  omega

theorem rwAt_int (s : ByteArray) (c st : Nat) : ((iAt s c + 1 : Nat) : Int) + (st : Int) * (1 + (iK s : Int)) = (rwAt s c st : Int) := by
  unfold rwAt; simp

end Go.Stn

namespace Go.Stn
/-- A reader's state: where it stands, whether it is bad. -/
abbrev LSt := Nat × Bool

def numP (s : ByteArray) (lo hi : Nat) (r : LSt) : Nat × LSt :=
  if r.1 < s.size then
    if bt s r.1 < lo ∨ hi < bt s r.1 then (lo, (r.1 + 1, true)) else (bt s r.1, (r.1 + 1, r.2))
  else (lo, (r.1, true))

def numsP (s : ByteArray) (hi : Nat) : Nat → List Nat → LSt → List Nat × LSt
  | 0, l, r => (l, r)
  | n + 1, l, r => numsP s hi n (l ++ [(numP s 0 hi r).1]) (numP s 0 hi r).2

def leadP (s : ByteArray) (count : Nat) (r : LSt) : Int × LSt :=
  if (numP s 0 255 r).1 = 255 then (-1, (numP s 0 255 r).2)
  else if count ≤ (numP s 0 255 r).1 then (((numP s 0 255 r).1 : Int), ((numP s 0 255 r).2.1, true))
  else (((numP s 0 255 r).1 : Int), (numP s 0 255 r).2)

def leadsP (s : ByteArray) (count : Nat) : Nat → List Int → LSt → List Int × LSt
  | 0, l, r => (l, r)
  | n + 1, l, r => leadsP s count n (l ++ [(leadP s count r).1]) (leadP s count r).2

def stsP (s : ByteArray) (rules classes count : Nat) : Nat → List (Nat × List Int) → LSt → List (Nat × List Int) × LSt
  | 0, l, r => (l, r)
  | n + 1, l, r => stsP s rules classes count n (l ++ [((numP s 0 rules r).1, (leadsP s count classes [] (numP s 0 rules r).2).1)]) (leadsP s count classes [] (numP s 0 rules r).2).2

def condP (s : ByteArray) (rules classes : Nat) (r : LSt) : List (Nat × List Int) × LSt :=
  stsP s rules classes (numP s 1 100 r).1 (numP s 1 100 r).1 [] (numP s 1 100 r).2

def condsP (s : ByteArray) (rules classes : Nat) : Nat → List (List (Nat × List Int)) → LSt → List (List (Nat × List Int)) × LSt
  | 0, l, r => (l, r)
  | n + 1, l, r => condsP s rules classes n (l ++ [(condP s rules classes r).1]) (condP s rules classes r).2

/-- Is one above? -/
def overB (l : List Nat) (m : Nat) : Bool := decide (∃ x ∈ l, m < x)

/-- The head: rules, what is behind each, conditions, classes. -/
def lh3 (s : ByteArray) : LSt := (numP s 1 1 (numP s 84 84 (numP s 83 83 (0, false)).2).2).2
def lRules (s : ByteArray) : Nat := (numP s 1 8 (lh3 s)).1
def lh4 (s : ByteArray) : LSt := (numP s 1 8 (lh3 s)).2
def lBehind (s : ByteArray) : List Nat := (numsP s 5 (lRules s) [] (lh4 s)).1
def lh5 (s : ByteArray) : LSt := (numsP s 5 (lRules s) [] (lh4 s)).2
def lMany (s : ByteArray) : Nat := (numP s 1 4 (lh5 s)).1
def lh6 (s : ByteArray) : LSt := ((numP s 1 4 (lh5 s)).2.1, (numP s 1 4 (lh5 s)).2.2 || overB (lBehind s) (1 + lMany s))
def lClasses (s : ByteArray) : Nat := 1 + (numP s 0 255 (lh6 s)).1
def lh7 (s : ByteArray) : LSt := (numP s 0 255 (lh6 s)).2
def lClassOf (s : ByteArray) : List Nat := (numsP s (lClasses s - 1) 256 [] (lh7 s)).1
def lh8 (s : ByteArray) : LSt := (numsP s (lClasses s - 1) 256 [] (lh7 s)).2
def lConds (s : ByteArray) : List (List (Nat × List Int)) := (condsP s (lRules s) (lClasses s) (lMany s) [] (lh8 s)).1
def lh9 (s : ByteArray) : LSt := (condsP s (lRules s) (lClasses s) (lMany s) [] (lh8 s)).2

theorem numP_le {s : ByteArray} {lo hi : Nat} {r : LSt} (h : lo ≤ hi) : lo ≤ (numP s lo hi r).1 ∧ (numP s lo hi r).1 ≤ hi := by
  unfold numP; split
  · split
    · exact ⟨Nat.le_refl _, h⟩
    · rename_i hn; simp only; omega
  · exact ⟨Nat.le_refl _, h⟩
theorem numP_at {s : ByteArray} {lo hi : Nat} {r : LSt} (h : r.1 ≤ s.size) : (numP s lo hi r).2.1 ≤ s.size := by
  unfold numP; split
  · split <;> simp only <;> omega
  · exact h
theorem numP_bad {s : ByteArray} {lo hi : Nat} {r : LSt} (h : r.2 = true) : (numP s lo hi r).2.2 = true := by
  unfold numP; split
  · split
    · rfl
    · exact h
  · rfl
theorem numP_yes {s : ByteArray} {lo hi a : Nat} (h : a < s.size) (h1 : lo ≤ bt s a) (h2 : bt s a ≤ hi) : numP s lo hi (a, false) = (bt s a, (a + 1, false)) := by
  unfold numP; rw [if_pos h, if_neg (by simp only; omega)]
theorem numP_good {s : ByteArray} {lo hi : Nat} {r : LSt} (h : (numP s lo hi r).2.2 = false) : r.2 = false ∧ r.1 < s.size ∧ lo ≤ bt s r.1 ∧ bt s r.1 ≤ hi := by
  unfold numP at h
  split at h
  · split at h
    · cases h
    · rename_i h1 h2; exact ⟨h, h1, by omega, by omega⟩
  · cases h

theorem numsP_at {s : ByteArray} {hi : Nat} : ∀ n l r, r.1 ≤ s.size → (numsP s hi n l r).2.1 ≤ s.size := by
  intro n; induction n with
  | zero => intro l r h; exact h
  | succ k ih => intro l r h; exact ih _ _ (numP_at h)
theorem numsP_len {s : ByteArray} {hi : Nat} : ∀ n l r, (numsP s hi n l r).1.length = l.length + n := by
  intro n; induction n with
  | zero => intro l r; rfl
  | succ k ih => intro l r; rw [numsP, ih]; simp; omega
theorem numsP_le {s : ByteArray} {hi : Nat} : ∀ n l r, (∀ x ∈ l, x ≤ hi) → ∀ x ∈ (numsP s hi n l r).1, x ≤ hi := by
  intro n; induction n with
  | zero => intro l r h; exact h
  | succ k ih =>
    intro l r h
    refine ih _ _ (fun x hx => ?_)
    rcases List.mem_append.1 hx with h1 | h1
    · exact h x h1
    · rw [List.mem_singleton] at h1; rw [h1]; exact (numP_le (Nat.zero_le _)).2
theorem numsP_good {s : ByteArray} {hi : Nat} : ∀ n l r, (numsP s hi n l r).2.2 = false → r.2 = false ∧ (r.1 ≤ s.size → r.1 + n ≤ s.size) ∧ ∀ j, j < n → bt s (r.1 + j) ≤ hi := by
  intro n; induction n with
  | zero => intro l r h; exact ⟨h, fun h => h, fun j hj => by omega⟩
  | succ k ih =>
    intro l r h
    rw [numsP] at h
    obtain ⟨h1, h2, h3⟩ := ih _ _ h
    obtain ⟨g1, g2, g3, g4⟩ := numP_good h1
    have e : numP s 0 hi r = (bt s r.1, (r.1 + 1, false)) := by
      have : r = (r.1, false) := by rw [← g1]
      rw [this]; exact numP_yes g2 (by omega) g4
    rw [e] at h2 h3
    simp only at h2 h3
    refine ⟨g1, fun _ => by have := h2 (by omega); omega, fun j hj => ?_⟩
    cases j with
    | zero => exact g4
    | succ m => have := h3 m (by omega); rw [show r.1 + (m + 1) = r.1 + 1 + m by omega]; exact this
theorem numsP_yes {s : ByteArray} {hi : Nat} : ∀ n l a, a + n ≤ s.size → (∀ j, j < n → bt s (a + j) ≤ hi) → numsP s hi n l (a, false) = (l ++ (List.range n).map (fun j => bt s (a + j)), (a + n, false)) := by
  intro n; induction n with
  | zero => intro l a _ _; simp [numsP]
  | succ k ih =>
    intro l a h1 h2
    have e := numP_yes (s := s) (lo := 0) (hi := hi) (a := a) (by omega) (Nat.zero_le _) (h2 0 (by omega))
    rw [numsP, e]
    rw [ih _ _ (by omega) (fun j hj => by have := h2 (j + 1) (by omega); rw [show a + 1 + j = a + (j + 1) by omega]; exact this)]
    refine Prod.ext ?_ (by simp only; congr 1; omega)
    simp only [List.append_assoc]
    congr 1
    rw [List.range_succ_eq_map]
    simp only [List.map_cons, List.map_map]
    rw [List.singleton_append]
    congr 1
    refine List.map_congr_left (fun j _ => ?_)
    simp only [Function.comp]
    rw [show a + 1 + j = a + (j + 1) by omega]

/-- Where a lead byte leads. -/
def leadI (x : Nat) : Int := if x = 255 then -1 else (x : Int)

theorem leadP_at {s : ByteArray} {n : Nat} {r : LSt} (h : r.1 ≤ s.size) : (leadP s n r).2.1 ≤ s.size := by
  unfold leadP; split
  · exact numP_at h
  · split <;> exact numP_at h
theorem leadP_bad {s : ByteArray} {n : Nat} {r : LSt} (h : r.2 = true) : (leadP s n r).2.2 = true := by
  unfold leadP; split
  · exact numP_bad h
  · split
    · rfl
    · exact numP_bad h
theorem leadP_good {s : ByteArray} {n : Nat} {r : LSt} (h : (leadP s n r).2.2 = false) : r.2 = false ∧ r.1 < s.size ∧ (bt s r.1 < n ∨ bt s r.1 = 255) := by
  have hg : (numP s 0 255 r).2.2 = false := by
    unfold leadP at h; split at h
    · exact h
    · split at h
      · cases h
      · exact h
  obtain ⟨g1, g2, g3, g4⟩ := numP_good hg
  have e : numP s 0 255 r = (bt s r.1, (r.1 + 1, false)) := by
    have : r = (r.1, false) := by rw [← g1]
    rw [this]; exact numP_yes g2 (by omega) g4
  refine ⟨g1, g2, ?_⟩
  unfold leadP at h
  rw [e] at h
  simp only at h
  split at h
  · right; assumption
  · split at h
    · cases h
    · left; omega
theorem leadP_yes {s : ByteArray} {n a : Nat} (h : a < s.size) (h1 : bt s a < n ∨ bt s a = 255) : leadP s n (a, false) = (leadI (bt s a), (a + 1, false)) := by
  have e := numP_yes (s := s) (lo := 0) (hi := 255) (a := a) h (Nat.zero_le _) (by have := bt_lt s a; omega)
  unfold leadP leadI
  rw [e]
  simp only
  by_cases h2 : bt s a = 255
  · rw [if_pos h2, if_pos h2]
  · rw [if_neg h2, if_neg h2, if_neg (by omega)]

theorem leadsP_at {s : ByteArray} {c : Nat} : ∀ n l r, r.1 ≤ s.size → (leadsP s c n l r).2.1 ≤ s.size := by
  intro n; induction n with
  | zero => intro l r h; exact h
  | succ k ih => intro l r h; exact ih _ _ (leadP_at h)
theorem leadsP_bad {s : ByteArray} {c : Nat} : ∀ n l r, r.2 = true → (leadsP s c n l r).2.2 = true := by
  intro n; induction n with
  | zero => intro l r h; exact h
  | succ k ih => intro l r h; exact ih _ _ (leadP_bad h)
theorem leadsP_good {s : ByteArray} {c : Nat} : ∀ n l r, (leadsP s c n l r).2.2 = false → r.2 = false ∧ (r.1 ≤ s.size → r.1 + n ≤ s.size) ∧ ∀ j, j < n → bt s (r.1 + j) < c ∨ bt s (r.1 + j) = 255 := by
  intro n; induction n with
  | zero => intro l r h; exact ⟨h, fun h => h, fun j hj => by omega⟩
  | succ k ih =>
    intro l r h
    rw [leadsP] at h
    obtain ⟨h1, h2, h3⟩ := ih _ _ h
    obtain ⟨g1, g2, g4⟩ := leadP_good h1
    have e : leadP s c r = (leadI (bt s r.1), (r.1 + 1, false)) := by
      have : r = (r.1, false) := by rw [← g1]
      rw [this]; exact leadP_yes g2 g4
    rw [e] at h2 h3
    simp only at h2 h3
    refine ⟨g1, fun _ => by have := h2 (by omega); omega, fun j hj => ?_⟩
    cases j with
    | zero => exact g4
    | succ m => have := h3 m (by omega); rw [show r.1 + (m + 1) = r.1 + 1 + m by omega]; exact this
theorem leadsP_yes {s : ByteArray} {c : Nat} : ∀ n l a, a + n ≤ s.size → (∀ j, j < n → bt s (a + j) < c ∨ bt s (a + j) = 255) → leadsP s c n l (a, false) = (l ++ (List.range n).map (fun j => leadI (bt s (a + j))), (a + n, false)) := by
  intro n; induction n with
  | zero => intro l a _ _; simp [leadsP]
  | succ k ih =>
    intro l a h1 h2
    have e := leadP_yes (s := s) (n := c) (a := a) (by omega) (h2 0 (by omega))
    rw [leadsP, e]
    rw [ih _ _ (by omega) (fun j hj => by have := h2 (j + 1) (by omega); rw [show a + 1 + j = a + (j + 1) by omega]; exact this)]
    refine Prod.ext ?_ (by simp only; congr 1; omega)
    simp only [List.append_assoc]
    congr 1
    rw [List.range_succ_eq_map]
    simp only [List.map_cons, List.map_map]
    rw [List.singleton_append]
    congr 1
    refine List.map_congr_left (fun j _ => ?_)
    simp only [Function.comp]
    rw [show a + 1 + j = a + (j + 1) by omega]

/-- A state's row, as it is read. -/
def rowV (s : ByteArray) (classes a : Nat) : Nat × List Int := (bt s a, (List.range classes).map fun k => leadI (bt s (a + (k + 1))))

theorem stsP_at {s : ByteArray} {ru cl c : Nat} : ∀ n l r, r.1 ≤ s.size → (stsP s ru cl c n l r).2.1 ≤ s.size := by
  intro n; induction n with
  | zero => intro l r h; exact h
  | succ k ih => intro l r h; exact ih _ _ (leadsP_at _ _ _ (numP_at h))
theorem stsP_bad {s : ByteArray} {ru cl c : Nat} : ∀ n l r, r.2 = true → (stsP s ru cl c n l r).2.2 = true := by
  intro n; induction n with
  | zero => intro l r h; exact h
  | succ k ih => intro l r h; exact ih _ _ (leadsP_bad _ _ _ (numP_bad h))
theorem row_good {s : ByteArray} {ru cl c : Nat} {r : LSt} (h : (leadsP s c cl [] (numP s 0 ru r).2).2.2 = false) : r.2 = false ∧ r.1 + 1 + cl ≤ s.size ∧ rowOk s ru cl c r.1 = true := by
  obtain ⟨h1, h2, h3⟩ := leadsP_good _ _ _ h
  obtain ⟨g1, g2, g3, g4⟩ := numP_good h1
  have e : numP s 0 ru r = (bt s r.1, (r.1 + 1, false)) := by
    have : r = (r.1, false) := by rw [← g1]
    rw [this]; exact numP_yes g2 (by omega) g4
  rw [e] at h2 h3
  simp only at h2 h3
  refine ⟨g1, h2 (by omega), rowOk_iff.2 ⟨g4, fun k hk => ?_⟩⟩
  have := h3 k hk
  rw [show r.1 + (k + 1) = r.1 + 1 + k by omega]; exact this
theorem row_yes {s : ByteArray} {ru cl c a : Nat} (h : a + 1 + cl ≤ s.size) (h1 : rowOk s ru cl c a = true) :
    numP s 0 ru (a, false) = (bt s a, (a + 1, false)) ∧ leadsP s c cl [] (a + 1, false) = ((rowV s cl a).2, (a + (1 + cl), false)) := by
  obtain ⟨h2, h3⟩ := rowOk_iff.1 h1
  refine ⟨numP_yes (by omega) (by omega) h2, ?_⟩
  rw [leadsP_yes _ _ _ (by omega) (fun j hj => by have := h3 j hj; rw [show a + 1 + j = a + (j + 1) by omega]; exact this)]
  refine Prod.ext ?_ (by simp only; congr 1; omega)
  simp only [List.nil_append, rowV]
  refine List.map_congr_left (fun j _ => ?_)
  rw [show a + 1 + j = a + (j + 1) by omega]
theorem stsP_good {s : ByteArray} {ru cl c : Nat} : ∀ n l r, (stsP s ru cl c n l r).2.2 = false → r.2 = false ∧ (r.1 ≤ s.size → r.1 + n * (1 + cl) ≤ s.size) ∧ ∀ j, j < n → rowOk s ru cl c (r.1 + j * (1 + cl)) = true := by
  intro n; induction n with
  | zero => intro l r h; exact ⟨h, fun h => by omega, fun j hj => by omega⟩
  | succ k ih =>
    intro l r h
    rw [stsP] at h
    obtain ⟨h1, h2, h3⟩ := ih _ _ h
    obtain ⟨g1, g2, g4⟩ := row_good h1
    have er : r = (r.1, false) := by rw [← g1]
    obtain ⟨e1, e2⟩ := row_yes g2 g4
    rw [← er] at e1
    rw [e1] at h2 h3
    simp only at h2 h3
    rw [e2] at h2 h3
    simp only at h2 h3
    refine ⟨g1, fun _ => by have := h2 (by omega); rw [Nat.add_mul]; omega, fun j hj => ?_⟩
    cases j with
    | zero => simpa using g4
    | succ m => have := h3 m (by omega); rw [show r.1 + (m + 1) * (1 + cl) = r.1 + (1 + cl) + m * (1 + cl) by rw [Nat.add_mul]; omega]; exact this
theorem stsP_yes {s : ByteArray} {ru cl c : Nat} : ∀ n l a, a + n * (1 + cl) ≤ s.size → (∀ j, j < n → rowOk s ru cl c (a + j * (1 + cl)) = true) →
    stsP s ru cl c n l (a, false) = (l ++ (List.range n).map (fun j => rowV s cl (a + j * (1 + cl))), (a + n * (1 + cl), false)) := by
  intro n; induction n with
  | zero => intro l a _ _; simp [stsP]
  | succ k ih =>
    intro l a h1 h2
    rw [Nat.add_mul] at h1
    obtain ⟨e1, e2⟩ := row_yes (s := s) (ru := ru) (cl := cl) (c := c) (a := a) (by omega) (by simpa using h2 0 (by omega))
    rw [stsP, e1]
    simp only
    rw [e2]
    simp only
    rw [ih _ _ (by omega) (fun j hj => by have := h2 (j + 1) (by omega); rw [show a + (1 + cl) + j * (1 + cl) = a + (j + 1) * (1 + cl) by rw [Nat.add_mul]; omega]; exact this)]
    refine Prod.ext ?_ (by simp only; congr 1; rw [Nat.add_mul]; omega)
    simp only [List.append_assoc]
    congr 1
    rw [List.range_succ_eq_map]
    simp only [List.map_cons, List.map_map]
    rw [List.singleton_append]
    congr 1
    · simp [rowV]
    refine List.map_congr_left (fun j _ => ?_)
    simp only [Function.comp]
    rw [show a + (1 + cl) + j * (1 + cl) = a + (j + 1) * (1 + cl) by rw [Nat.add_mul]; omega]

theorem condP_at {s : ByteArray} {ru cl : Nat} {r : LSt} (h : r.1 ≤ s.size) : (condP s ru cl r).2.1 ≤ s.size := stsP_at _ _ _ (numP_at h)
theorem condP_bad {s : ByteArray} {ru cl : Nat} {r : LSt} (h : r.2 = true) : (condP s ru cl r).2.2 = true := stsP_bad _ _ _ (numP_bad h)
theorem condP_good {s : ByteArray} {ru cl : Nat} {r : LSt} (h : (condP s ru cl r).2.2 = false) : r.2 = false ∧ stOk s ru cl r.1 = true := by
  unfold condP at h
  obtain ⟨h1, h2, h3⟩ := stsP_good _ _ _ h
  obtain ⟨g1, g2, g3, g4⟩ := numP_good h1
  have e : numP s 1 100 r = (bt s r.1, (r.1 + 1, false)) := by
    have : r = (r.1, false) := by rw [← g1]
    rw [this]; exact numP_yes g2 g3 g4
  rw [e] at h2 h3
  simp only at h2 h3
  exact ⟨g1, stOk_iff.2 ⟨by omega, g4, by omega, h2 (by omega), h3⟩⟩
theorem condP_yes {s : ByteArray} {ru cl a : Nat} (h : stOk s ru cl a = true) : condP s ru cl (a, false) = ((List.range (bt s a)).map (fun j => rowV s cl (a + 1 + j * (1 + cl))), (stNext s ru cl a, false)) := by
  obtain ⟨h1, h2, h3, h4, h5⟩ := stOk_iff.1 h
  have e := numP_yes (s := s) (lo := 1) (hi := 100) (a := a) (by omega) (by omega) h2
  unfold condP
  rw [e]
  simp only
  rw [stsP_yes _ _ _ h4 h5, (st_yes h).2]
  simp

theorem condsP_at {s : ByteArray} {ru cl : Nat} : ∀ n l r, r.1 ≤ s.size → (condsP s ru cl n l r).2.1 ≤ s.size := by
  intro n; induction n with
  | zero => intro l r h; exact h
  | succ k ih => intro l r h; exact ih _ _ (condP_at h)
theorem condsP_good {s : ByteArray} : ∀ n l c r, r.1 = iAt s c → (condsP s (iR s) (iK s) n l r).2.2 = false → r.2 = false ∧ (∀ j, j < n → stOk s (iR s) (iK s) (iAt s (c + j)) = true) ∧ (condsP s (iR s) (iK s) n l r).2.1 = iAt s (c + n) := by
  intro n; induction n with
  | zero => intro l c r hr h; exact ⟨h, fun j hj => by omega, hr⟩
  | succ k ih =>
    intro l c r hr h
    rw [condsP] at h ⊢
    have hbad : (condP s (iR s) (iK s) r).2.2 = false := by
      cases hb : (condP s (iR s) (iK s) r).2.2 with
      | false => rfl
      | true =>
        have : ∀ n l (r : LSt), r.2 = true → (condsP s (iR s) (iK s) n l r).2.2 = true := by
          intro n; induction n with
          | zero => intro l r h; exact h
          | succ k ih => intro l r h; exact ih _ _ (condP_bad h)
        rw [this _ _ _ hb] at h; cases h
    obtain ⟨g1, g2⟩ := condP_good hbad
    have er : r = (r.1, false) := by rw [← g1]
    have e := condP_yes g2
    rw [← er, hr] at e
    obtain ⟨h1, h2, h3⟩ := ih (l ++ [(condP s (iR s) (iK s) r).1]) (c + 1) (condP s (iR s) (iK s) r).2 (by rw [e]; rfl) h
    refine ⟨g1, fun j hj => ?_, by rw [h3]; congr 1; omega⟩
    cases j with
    | zero => rw [hr] at g2; exact g2
    | succ m => have := h2 m (by omega); rw [show c + (m + 1) = c + 1 + m by omega]; exact this
theorem condsP_yes {s : ByteArray} : ∀ n l c, (∀ j, j < n → stOk s (iR s) (iK s) (iAt s (c + j)) = true) →
    condsP s (iR s) (iK s) n l (iAt s c, false) = (l ++ (List.range n).map (fun j => (List.range (nSt s (c + j))).map fun st => rowV s (iK s) (rwAt s (c + j) st)), (iAt s (c + n), false)) := by
  intro n; induction n with
  | zero => intro l c _; simp [condsP]
  | succ k ih =>
    intro l c h
    have e := condP_yes (h 0 (by omega))
    rw [Nat.add_zero] at e
    rw [condsP, e]
    simp only
    have e2 : stNext s (iR s) (iK s) (iAt s c) = iAt s (c + 1) := rfl
    rw [e2, ih _ _ (fun j hj => by have := h (j + 1) (by omega); rw [show c + 1 + j = c + (j + 1) by omega]; exact this)]
    refine Prod.ext ?_ (by simp only; congr 2; omega)
    simp only [List.append_assoc]
    congr 1
    rw [List.range_succ_eq_map]
    simp only [List.map_cons, List.map_map]
    rw [List.singleton_append]
    refine congr (congrArg List.cons rfl) ?_
    refine List.map_congr_left (fun j _ => ?_)
    simp only [Function.comp]
    rw [show c + 1 + j = c + (j + 1) by omega]

end Go.Stn

namespace Go.Proofs.YtgjgjgihceijnaaGreat
open Go.RowKit Go.Stn

theorem hidZ {p : Prop} (h : p) : Hid p := h

/-- The reader at block rb. -/
structure LRd (w : World) (rb : Nat) (s : ByteArray) (r : LSt) : Prop where
  c0 : w.cell? ⟨rb, 0, none⟩ = some (.string s)
  c1 : w.cell? ⟨rb, 1, none⟩ = some (.int .i64 r.1)
  c2 : w.cell? ⟨rb, 2, none⟩ = some (.bool r.2)
  fz : ∀ i, w.frozen? ⟨rb, i, none⟩ = false
  hb : rb < w.heap.size

variable {w w' : World} {rb : Nat} {s : ByteArray} {r : LSt}

theorem LRd.block (h : LRd w rb s r) (he : w'.heap[rb]? = w.heap[rb]?) (hz : w.heap.size ≤ w'.heap.size) : LRd w' rb s r :=
  ⟨(World.cell?_of_block (w := w) (a := ⟨rb, 0, none⟩) he).trans h.c0, (World.cell?_of_block (w := w) (a := ⟨rb, 1, none⟩) he).trans h.c1, (World.cell?_of_block (w := w) (a := ⟨rb, 2, none⟩) he).trans h.c2,
    fun i => (World.frozen?_of_block (w := w) (a := ⟨rb, i, none⟩) he).trans (h.fz i), by have := h.hb; omega⟩
theorem LRd.drewN (h : LRd w rb s r) (q : Nat) : LRd (w.drewN q) rb s r := ⟨h.c0, h.c1, h.c2, h.fz, h.hb⟩
theorem LRd.grown {v : Option Nat} (h : LRd w rb s r) (hg : w.grownBy w' v) (hv : some rb ≠ v) : LRd w' rb s r := h.block (hg.block rb h.hb hv) hg.size
theorem LRd.below {B : Nat} (h : LRd w rb s r) (hg : Below B w w') (hv : rb < B) : LRd w' rb s r := h.block (hg.block rb hv) hg.size
theorem LRd.setBad (h : LRd w rb s r) : LRd (w.setCell ⟨rb, 2, none⟩ (.bool true)) rb s (r.1, true) := by
  have o : ∀ j u, j ≠ 2 → w.cell? ⟨rb, j, none⟩ = some u → (w.setCell ⟨rb, 2, none⟩ (.bool true)).cell? ⟨rb, j, none⟩ = some u := fun j u hj hu => by
    rw [World.cell?_setCell_other (h := by intro e; injection e; omega)]; exact hu
  exact ⟨o 0 _ (by omega) h.c0, o 1 _ (by omega) h.c1, World.cell?_setCell_same _ _ _ h.c2, fun i => by rw [World.frozen?_setCell]; exact h.fz i, by have := h.hb; simp [World.setCell]; omega⟩
theorem LRd.adv (h : LRd w rb s r) : LRd (w.setCell ⟨rb, 1, none⟩ (.int .i64 ((r.1 : Int) + 1))) rb s (r.1 + 1, r.2) := by
  have o : ∀ j u, j ≠ 1 → w.cell? ⟨rb, j, none⟩ = some u → (w.setCell ⟨rb, 1, none⟩ (.int .i64 ((r.1 : Int) + 1))).cell? ⟨rb, j, none⟩ = some u := fun j u hj hu => by
    rw [World.cell?_setCell_other (h := by intro e; injection e; omega)]; exact hu
  exact ⟨o 0 _ (by omega) h.c0, World.cell?_setCell_same _ _ _ h.c1, o 2 _ (by omega) h.c2, fun i => by rw [World.frozen?_setCell]; exact h.fz i, by have := h.hb; simp [World.setCell]; omega⟩

set_option maxRecDepth 100000 in
set_option maxHeartbeats 1000000 in
theorem lnumber_any (s : ByteArray) (r : LSt) (lo hi : Nat) (rb : Nat) (w : World) (hs : s.size ≤ 120000) (h : LRd w rb s r) (hr : r.1 ≤ s.size) :
    Calls Tryz.prog 80 #[.pointer (some ⟨rb, 0, none⟩), .int .i64 lo, .int .i64 hi] w fun e w' =>
      e = .returned (.int .i64 ((numP s lo hi r).1 : Int)) ∧ w.grownBy w' (some rb) ∧ LRd w' rb s (numP s lo hi r).2 := by
  have HR := hidZ h
  have c0 := h.c0
  have c1 := h.c1
  have c2 := h.c2
  have f1 := h.fz 1
  have f2 := h.fz 2
  clear h
  obtain ⟨a, b⟩ := r
  simp only at *
  by_cases he : s.size ≤ a
  · have hd : decide ((s.size : Int) ≤ (a : Int)) = true := by simp; omega
    have HE : Hid (numP s lo hi (a, b) = (lo, (a, true))) := by unfold Hid numP; rw [if_neg (by simp only; omega)]
    go_enter Tryz.func80, Tryz.ntmps80
    go_wp2
    go_quiet (fail)
    go_wp2
    go_ret
    rw [HE.out]
    exact ⟨rfl, grown_set (grown_drewN (World.grownBy.refl _ _) _) _ _, (HR.out.drewN _).setBad⟩
  · have hd : decide ((s.size : Int) ≤ (a : Int)) = false := by simp; omega
    have hbe := bt_eq s a (by omega)
    have hbl := bt_lt s a
    have hI : (0 : Int) ≤ (a : Int) ∧ (a : Int) < (s.size : Int) := by omega
    have hwb : IntKind.i64.wrap (bt s a : Int) = (bt s a : Int) := IntWalk.i64_in _ (by omega)
    by_cases h1 : bt s a < lo
    · have HE : Hid (numP s lo hi (a, b) = (lo, (a + 1, true))) := by unfold Hid numP; rw [if_pos (by simp only; omega), if_pos (.inl h1)]
      have hd1 : decide ((bt s a : Int) < (lo : Int)) = true := by simp; omega
      go_enter Tryz.func80, Tryz.ntmps80
      go_wp2
      go_quiet (fail)
      go_wp2
      go_quiet (fail)
      go_wp2
      go_ret
      rw [HE.out]
      exact ⟨rfl, grown_set (grown_set (grown_drewN (World.grownBy.refl _ _) _) _ _) _ _, ((HR.out.drewN _).adv).setBad⟩
    · have hd1 : decide ((bt s a : Int) < (lo : Int)) = false := by simp; omega
      by_cases h2 : hi < bt s a
      · have HE : Hid (numP s lo hi (a, b) = (lo, (a + 1, true))) := by unfold Hid numP; rw [if_pos (by simp only; omega), if_pos (.inr h2)]
        have hd2 : decide ((hi : Int) < (bt s a : Int)) = true := by simp; omega
        go_enter Tryz.func80, Tryz.ntmps80
        go_wp2
        go_quiet (fail)
        go_wp2
        go_quiet (fail)
        go_wp2
        go_ret
        rw [HE.out]
        exact ⟨rfl, grown_set (grown_set (grown_drewN (World.grownBy.refl _ _) _) _ _) _ _, ((HR.out.drewN _).adv).setBad⟩
      · have HE : Hid (numP s lo hi (a, b) = (bt s a, (a + 1, b))) := by unfold Hid numP; rw [if_pos (by simp only; omega), if_neg (by simp only; omega)]
        have hd2 : decide ((hi : Int) < (bt s a : Int)) = false := by simp; omega
        go_enter Tryz.func80, Tryz.ntmps80
        go_wp2
        go_quiet (fail)
        go_wp2
        go_quiet (fail)
        go_wp2
        go_ret
        rw [HE.out]
        exact ⟨rfl, grown_set (grown_drewN (World.grownBy.refl _ _) _) _ _, (HR.out.drewN _).adv⟩
end Go.Proofs.YtgjgjgihceijnaaGreat

namespace Go.Stn
open Go.RowKit
/-- 'append' of one element within the capacity: its cells lie in the block made just before. -/
theorem wpList_fits1 {P : Program} (w : World) {ops : Array Oper} {rest : List Oper} {o : Oper} {a : Act} {Q : Exit → Act → World → Prop} (hgd : o.guard = none) (s x : Operand) (t : TypeId)
    (ho : o.op = .call { callee := .builtin .append, args := #[s, x], argTypes := #[t, t] })
    (base : Nat) (e : TypeId) (z : Value) (size bytes : Nat) (ht : P.underlying t = some (.slice e)) (hinfo : (P.info? e).map (fun i => (i.zero, i.size, i.bytes)) = some (some z, size, bytes))
    (g k cap : Nat) (xs cs : List Value) (e' : TypeId) (hs : a.eval s = .slice (some ⟨g, 0, none⟩) k cap) (hown : w.ownsRow base e size (.slice (some ⟨g, 0, none⟩) k cap) k xs)
    (B : Nat) (hB : w.heap.size = B) (hx : a.eval x = .slice (some ⟨B, 0, none⟩) 1 1) (hl : cs.length = size) (h1 : ∀ u ∈ cs, u.oneCell' = true) (hk : k + 1 ≤ cap)
    (h : ∀ w', w'.ownsRow base e size (.slice (some ⟨g, 0, none⟩) (k + 1) cap) (k + 1) (xs ++ cs) → (w.alloc (.cells cs.toArray e')).grownBy w' (some g) →
      wpList P ops Q rest (a.put o.dst (.slice (some ⟨g, 0, none⟩) (k + 1) cap)) w') : wpList P ops Q (o :: rest) a (w.alloc (.cells cs.toArray e')) := by
  subst hB
  obtain ⟨i, hi, hz, hsize, hb⟩ := info_parts hinfo
  refine wpList_append_fits _ hgd s x t ho base e i size ht hi hsize g k cap xs hs (hown.alloc _) ⟨w.heap.size, 0, none⟩ 1 1 cs hx (by omega) ?_ h1 hk h
  have := World.news_of_block (w := w.alloc (.cells cs.toArray e')) (B := w.heap.size) (cs := cs.toArray) (t := e') (fr := (0, 0)) (heap_alloc_new w _)
  simpa using this

theorem grown_new {a w w' : World} {r : Option Nat} {B : Nat} (h : a.grownBy w r) (k : w.grownBy w' (some B)) (hB : a.heap.size ≤ B) : a.grownBy w' r :=
  ⟨k.os.trans h.os, k.tape.trans h.tape, k.output.trans h.output, Nat.le_trans h.size k.size, fun i hi hr => (k.block i (Nat.lt_of_lt_of_le hi h.size) (by intro e; injection e; omega)).trans (h.block i hi hr)⟩
theorem grown_any {a w : World} (h : a.grownBy w none) (r : Option Nat) : a.grownBy w r := ⟨h.os, h.tape, h.output, h.size, fun i hi _ => h.block i hi (by simp)⟩

/-- A list of numbers as it lies in memory. -/
def natC (l : List Nat) : List Value := l.map fun (x : Nat) => Value.int .i64 (x : Int)
def intC (l : List Int) : List Value := l.map fun (x : Int) => Value.int .i64 x
theorem natC_snoc (l : List Nat) (x : Nat) : natC (l ++ [x]) = natC l ++ [.int .i64 (x : Int)] := by simp [natC]
theorem intC_snoc (l : List Int) (x : Int) : intC (l ++ [x]) = intC l ++ [.int .i64 x] := by simp [intC]
end Go.Stn
namespace Go.Proofs.YtgjgjgihceijnaaGreat
open Go.RowKit Go.Stn

theorem Tryz.infoInt : (Tryz.prog.info? 3).map (fun i => (i.zero, i.size, i.bytes)) = some (some (.int .i64 0), 1, 8) := by kernel_rfl

set_option maxRecDepth 100000 in
theorem llead_any (s : ByteArray) (r : LSt) (n : Nat) (rb : Nat) (w : World) (hs : s.size ≤ 120000) (h : LRd w rb s r) (hr : r.1 ≤ s.size) :
    Calls Tryz.prog 106 #[.pointer (some ⟨rb, 0, none⟩), .int .i64 n] w fun e w' =>
      e = .returned (.int .i64 (leadP s n r).1) ∧ w.grownBy w' (some rb) ∧ LRd w' rb s (leadP s n r).2 := by
  have hn := lnumber_any s r 0 255 rb w hs h hr
  have HP : Hid (leadP s n r = if (numP s 0 255 r).1 = 255 then (-1, (numP s 0 255 r).2)
    else if n ≤ (numP s 0 255 r).1 then (((numP s 0 255 r).1 : Int), ((numP s 0 255 r).2.1, true)) else (((numP s 0 255 r).1 : Int), (numP s 0 255 r).2)) := rfl
  generalize numP s 0 255 r = N at *
  obtain ⟨x, r1⟩ := N
  simp only at *
  clear h hr
  go_enter Tryz.func106, Tryz.ntmps106
  go_wp2_with fail
  refine hn.mono ?_
  rintro e w1 ⟨rfl, hg, hl⟩
  have HG := hidZ hg
  have HL := hidZ hl
  clear hg hn
  by_cases h255 : x = 255
  · have hd : ((x : Int) == 255) = true := by rw [h255]; rfl
    have HE : Hid (leadP s n r = (-1, r1)) := HP.out.trans (if_pos h255)
    clear hl h255
    go_wp2
    go_ret
    rw [HE.out]
    exact ⟨rfl, HG.out, HL.out⟩
  · have hd : ((x : Int) == 255) = false := by rw [beq_eq_false_iff_ne]; omega
    by_cases hle : n ≤ x
    · have hd2 : decide ((n : Int) ≤ (x : Int)) = true := by simp; omega
      have HE : Hid (leadP s n r = ((x : Int), (r1.1, true))) := by unfold Hid; rw [HP.out, if_neg h255, if_pos hle]
      have f2 := hl.fz 2
      have c2 := hl.c2
      clear hl h255
      go_wp2
      go_ret
      rw [HE.out]
      exact ⟨rfl, grown_set HG.out _ _, HL.out.setBad⟩
    · have hd2 : decide ((n : Int) ≤ (x : Int)) = false := by simp; omega
      have HE : Hid (leadP s n r = ((x : Int), r1)) := by unfold Hid; rw [HP.out, if_neg h255, if_neg hle]
      clear hl h255
      go_wp2
      go_ret
      rw [HE.out]
      exact ⟨rfl, HG.out, HL.out⟩

set_option maxRecDepth 100000 in
set_option maxHeartbeats 1000000 in
theorem lnumbers_any (s : ByteArray) (r : LSt) (n hi : Nat) (rb : Nat) (w : World) (hs : s.size ≤ 120000) (hn : n ≤ 1000) (h : LRd w rb s r) (hr : r.1 ≤ s.size) :
    Calls Tryz.prog 81 #[.pointer (some ⟨rb, 0, none⟩), .int .i64 n, .int .i64 hi] w fun e w' =>
      e = .returned (.slice (some ⟨w.heap.size, 0, none⟩) n n) ∧ w'.ownsRow w.heap.size 3 1 (.slice (some ⟨w.heap.size, 0, none⟩) n n) n (natC (numsP s hi n [] r).1) ∧
      w.grownBy w' (some rb) ∧ LRd w' rb s (numsP s hi n [] r).2 := by
  obtain ⟨i0, hi0, hz0, hz1, hz2⟩ := info_parts Tryz.infoInt
  have HI : Hid (Tryz.prog.info? 3 = some i0 ∧ i0.zero = some (.int .i64 0) ∧ i0.size = 1 ∧ i0.bytes = 8) := ⟨hi0, hz0, hz1, hz2⟩
  clear hi0 hz0 hz1 hz2
  have HR := hidZ h
  have hrb := h.hb
  clear h
  go_enter Tryz.func81, Tryz.ntmps81
  go_wp2_with (at_make; refine wpList_make_own w rfl _ _ 59 rfl w.heap.size 3 i0 (.int .i64 0) 1 Tryz.underlying59 HI.out.1 HI.out.2.1 HI.out.2.2.1 .i64 .i64 _ n rfl rfl rfl (by rw [HI.out.2.2.2]; omega) (by unfold maxLen; omega) (Nat.le_refl _) ?_; intro w1 hown hg)
  have HR1 := hidZ (HR.out.grown hg (by simp))
  have HG1 := hidZ (grown_any hg (some rb))
  have HO1 := hidZ hown
  have hsz1 := hg.size
  clear hown hg HR
  generalize hB : w.heap.size = B at *
  go_loopg [7] n (fun gk x wr => ∃ (xs : List Nat) (k : Nat) (r' : LSt), x = .slice (some ⟨B, 0, none⟩) k n ∧ xs.length = k ∧ k + gk = n ∧ r'.1 ≤ s.size ∧ numsP s hi n [] r = numsP s hi gk xs r' ∧
    wr.ownsRow B 3 1 (.slice (some ⟨B, 0, none⟩) k n) k (natC xs) ∧ w.grownBy wr (some rb) ∧ LRd wr rb s r')
  case atStart => exact ⟨[], 0, r, rfl, rfl, by omega, hr, rfl, HO1.out, HG1.out, HR1.out⟩
  case round =>
    obtain ⟨xs, k, r', rfl, hxl, hkn, hr', heq, hown, hg, hl⟩ := hrel
    have HQ := hidZ heq
    have HO := hidZ hown
    have HG := hidZ hg
    have HL := hidZ hl
    have HX := hidZ hxl
    have hsz : B ≤ wr.heap.size := by have := hg.size; omega
    clear heq hown hg hl hxl HR1 HG1 HO1
    by_cases hlt : k < n
    · obtain ⟨g', rfl⟩ : ∃ g', gk = g' + 1 := ⟨gk - 1, by omega⟩
      have HQ2 : Hid (numsP s hi n [] r = numsP s hi g' (xs ++ [(numP s 0 hi r').1]) (numP s 0 hi r').2) := HQ.out
      have hc := lnumber_any s r' 0 hi rb wr hs HL.out hr'
      have ha := numP_at (lo := 0) (hi := hi) hr'
      generalize numP s 0 hi r' = N at *
      obtain ⟨x, r2⟩ := N
      simp only at *
      have hd : decide ((k : Int) < (n : Int)) = true := by simp; omega
      go_wp2_with fail
      refine hc.mono ?_
      rintro e w2 ⟨rfl, hg2, hl2⟩
      have HO2 : Hid (w2.ownsRow B 3 1 (.slice (some ⟨B, 0, none⟩) k n) k (natC xs)) := hidZ (HO.out.kept hg2 (.inr (by simp [Value.ownBlock]; omega)))
      have HG2 := hidZ (grown_trans HG.out hg2)
      have HL2 := hidZ hl2
      have hsz2 : B ≤ w2.heap.size := by have := hg2.size; omega
      clear hg2 hl2 HO HG HL hc
      go_wp2_with (first | (at_builtin; refine wpList_fits1 w2 rfl _ _ 59 rfl B 3 (.int .i64 0) 1 8 Tryz.underlying59 Tryz.infoInt B k n (natC xs) [.int .i64 (x : Int)] _ rfl HO2.out _ rfl rfl rfl (by simp [Value.oneCell']) (by omega) ?_; intro w3 hown3 hgrow3))
      go_roundg g'
      case measure => omega
      case rel =>
        have hg3 := grown_alloc2 HG2.out (.cells #[.int .i64 (x : Int)] 3)
        refine ⟨xs ++ [x], k + 1, r2, rfl, by simp [HX.out], by omega, ha, HQ2.out, by rw [natC_snoc]; exact hown3, grown_new hg3 hgrow3 (by omega), ?_⟩
        exact (HL2.out.below ((Below.refl _ _).alloc hsz2 _) (by omega)).grown hgrow3 (by simp; omega)
    · have e : k = n := by omega
      subst e
      have e2 : gk = 0 := by omega
      subst e2
      have HE : Hid (numsP s hi k [] r = (xs, r')) := HQ.out
      have hd : decide ((k : Int) < (k : Int)) = false := by simp
      go_wp2
      go_ret
      rw [HE.out]
      subst hB
      exact ⟨rfl, HO.out, HG.out, HL.out⟩
end Go.Proofs.YtgjgjgihceijnaaGreat

