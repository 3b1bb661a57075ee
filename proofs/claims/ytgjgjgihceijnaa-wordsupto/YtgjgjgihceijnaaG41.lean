/- Texts put together: ScHas, ScCut, KpMem, KpLive, WaPure, WaMem, WaOver. -/
import Derived.Test.YtgjgjgihceijnaaG06
import Derived.Test.YtgjgjgihceijnaaG05
import Derived.Test.YtgjgjgihceijnaaG02
import Derived.Test.YtgjgjgihceijnaaG04
import Derived.Test.YtgjgjgihceijnaaG38
import Derived.Test.YtgjgjgihceijnaaG27
import Derived.Test.YtgjgjgihceijnaaG01
import Derived.Test.YtgjgjgihceijnaaG03
import Derived.Test.YtgjgjgihceijnaaG28
import Derived.Test.YtgjgjgihceijnaaG29
import Derived.Laws.StructEq
import Derived.Deep.RegionLaw
import Derived.Deep.QuietTactic
import Derived.BigQuiet
import Derived.Test.YtgjgjgihceijnaaChecked
import Derived.WalkKit
import Derived.WalkSpells
import Derived.WalkLawsBesides
import Derived.BigRegion
import Derived.Lib.LazyBuf
namespace Go.Stn
end Go.Stn
namespace Go.Proofs.Ytgjgjgihceijnaa
open Go.RowKit Go.Stn

theorem Row3.below {w w' : World} {B B' : Nat} {v : Value} {l : List (Int × Int × Int)} (h : Row3 w B v l) (hB : Below B' w w') (hle : B ≤ B') : Row3 w' B v l := by
  refine ⟨?_⟩
  rcases h.sh with hn | ⟨g, cap, hv, hg, h1, h2, hc⟩
  · exact .inl hn
  · refine .inr ⟨g, cap, hv, hg, h1, h2, fun k x hx => ?_⟩
    obtain ⟨a1, a2, a3⟩ := hc k x hx
    exact ⟨(hB.cell (p := ⟨g, k * 3, none⟩) (by show g < B'; omega)).trans a1, (hB.cell (p := ⟨g, k * 3 + 1, none⟩) (by show g < B'; omega)).trans a2, (hB.cell (p := ⟨g, k * 3 + 2, none⟩) (by show g < B'; omega)).trans a3⟩

end Go.Proofs.Ytgjgjgihceijnaa

namespace Go.Proofs.Ytgjgjgihceijnaa
open Go.RowKit Go.Stn

variable {w w' : World} {cb base top ib : Nat} {inp : ByteArray} {c : Nat} {H : List (Int × Int × Int)} {n : Nat} {T : List (Int × Int × Int)} {vh vt : Value}

theorem ownsRow_shape {w : World} {base : Nat} {e : TypeId} {size : Nat} {v : Value} {m : Nat} {xs : List Value} (h : w.ownsRow base e size v m xs) : v = .slice none 0 0 ∨ ∃ g cap, v = .slice (some ⟨g, 0, none⟩) m cap := by
  rcases h.2 with ⟨e, _⟩ | ⟨g, cap, _, e, _⟩
  · exact .inl e
  · exact .inr ⟨g, cap, e⟩

end Go.Proofs.Ytgjgjgihceijnaa

namespace Go.Stn
open Go.RowKit
theorem set_keep (w : World) (b i : Nat) (v : Value) {k : Nat} (h : k ≠ b) : (w.setCell ⟨b, i, none⟩ v).heap[k]? = w.heap[k]? := Below.heap_setCell w ⟨b, i, none⟩ v k (by intro e; exact h e)
end Go.Stn

namespace Go.Proofs.Ytgjgjgihceijnaa
open Go.RowKit Go.Stn

/-- Bools in memory, to be written. -/
structure BA (w : World) (ab n : Nat) (al : Nat → Bool) : Prop where
  c : ∀ i, i < n → w.cell? ⟨ab, i, none⟩ = some (.bool (al i))
  f : ∀ i, w.frozen? ⟨ab, i, none⟩ = false
theorem BA.set {w : World} {ab n : Nat} {al : Nat → Bool} (h : BA w ab n al) {s : Nat} (hs : s < n) (v : Bool) : BA (w.setCell ⟨ab, s, none⟩ (.bool v)) ab n (fun i => if i = s then v else al i) := by
  refine ⟨fun i hi => ?_, fun i => by rw [World.frozen?_setCell]; exact h.f i⟩
  by_cases e : i = s
  · subst e; rw [if_pos rfl]; exact World.cell?_setCell_same _ _ _ (h.c i hi)
  · rw [if_neg e, World.cell?_setCell_other (h := by intro e'; injection e'; omega)]; exact h.c i hi
theorem Try.infoBool1 : (Try.prog.info? 4).map (fun i => (i.zero, i.size, i.bytes)) = some (some (.bool false), 1, 1) := by kernel_rfl
theorem BA.new {w : World} {base ab n : Nat} {e : TypeId} (h : w.ownsRow base e 1 (.slice (some ⟨ab, 0, none⟩) n n) n (madeCells (Value.bool false).cells (n * 1)).toList) : BA w ab n (fun _ => false) := by
  refine ⟨fun i hi => ?_, fun i => row_frozen h i⟩
  have hg : (madeCells (Value.bool false).cells (n * 1)).toList[i]? = some (.bool false) := by
    rw [Nat.mul_one, Array.getElem?_toList]
    exact made_get n i hi
  have := h.cells rfl i _ hg
  rw [addr_add] at this; exact this
end Go.Proofs.Ytgjgjgihceijnaa

namespace Go.Stn
/-- The bytes from p up to q. -/
def seg (inp : ByteArray) (p q : Nat) : List Nat := (List.range (q - p)).map fun i => bt inp (p + i)
theorem seg_len (inp : ByteArray) (p q : Nat) : (seg inp p q).length = q - p := by unfold seg; simp
theorem seg_nil (inp : ByteArray) (p : Nat) : seg inp p p = [] := by unfold seg; simp
theorem seg_one (inp : ByteArray) (p : Nat) : seg inp p (p + 1) = [bt inp p] := by
  unfold seg; rw [show p + 1 - p = 1 by omega]; rfl
theorem seg_app (inp : ByteArray) {p m q : Nat} (h1 : p ≤ m) (h2 : m ≤ q) : seg inp p q = seg inp p m ++ seg inp m q := by
  unfold seg
  rw [show q - p = (m - p) + (q - m) by omega, List.range_add, List.map_append, List.map_map]
  congr 1
  exact List.map_congr_left (fun i _ => by show bt inp (p + (m - p + i)) = bt inp (m + i); congr 1; omega)
theorem seg_split {inp : ByteArray} {p q : Nat} (h : p ≤ q) {u v : List Nat} (e : seg inp p q = u ++ v) : ∃ m, p ≤ m ∧ m ≤ q ∧ u = seg inp p m ∧ v = seg inp m q := by
  have hl := congrArg List.length e
  rw [seg_len, List.length_append] at hl
  have h1 : p ≤ p + u.length := by omega
  have h2 : p + u.length ≤ q := by omega
  rw [seg_app inp h1 h2] at e
  have := List.append_inj e (by rw [seg_len]; omega)
  exact ⟨p + u.length, h1, h2, this.1.symm, this.2.symm⟩
theorem seg_lets (inp : ByteArray) (p q : Nat) : ∀ b ∈ seg inp p q, b < 256 := fun b hb => by
  unfold seg at hb
  rw [List.mem_map] at hb
  obtain ⟨i, _, rfl⟩ := hb
  unfold bt
  exact UInt8.toNat_lt _
/-- The tree's words go from p up to q. -/
def GoesTo (t : Tr) (inp : ByteArray) (p q : Nat) : Prop := p ≤ q ∧ q ≤ inp.size ∧ W t.rxT (seg inp p q)
theorem goes_row {a b : Tr} {inp : ByteArray} {p q : Nat} : GoesTo (.row a b) inp p q ↔ ∃ m, GoesTo a inp p m ∧ GoesTo b inp m q := by
  constructor
  · rintro ⟨h1, h2, u, v, e, hu, hv⟩
    obtain ⟨m, m1, m2, rfl, rfl⟩ := seg_split h1 e
    exact ⟨m, ⟨m1, by omega, hu⟩, m2, h2, hv⟩
  · rintro ⟨m, ⟨a1, a2, a3⟩, b1, b2, b3⟩
    exact ⟨by omega, b2, _, _, seg_app inp a1 b1, a3, b3⟩
theorem goes_or {a b : Tr} {inp : ByteArray} {p q : Nat} : GoesTo (.or2 a b) inp p q ↔ GoesTo a inp p q ∨ GoesTo b inp p q := by
  constructor
  · rintro ⟨h1, h2, h3 | h3⟩
    · exact .inl ⟨h1, h2, h3⟩
    · exact .inr ⟨h1, h2, h3⟩
  · rintro (⟨h1, h2, h3⟩ | ⟨h1, h2, h3⟩)
    · exact ⟨h1, h2, .inl h3⟩
    · exact ⟨h1, h2, .inr h3⟩
theorem seg_empty {inp : ByteArray} {p q : Nat} (h : p ≤ q) (e : seg inp p q = []) : q = p := by
  have := congrArg List.length e
  rw [seg_len, List.length_nil] at this
  omega
theorem goes_may {a : Tr} {inp : ByteArray} {p q : Nat} : GoesTo (.may a) inp p q ↔ (q = p ∧ p ≤ inp.size) ∨ GoesTo a inp p q := by
  constructor
  · rintro ⟨h1, h2, h3 | h3⟩
    · have := seg_empty h1 h3
      exact .inl ⟨this, by omega⟩
    · exact .inr ⟨h1, h2, h3⟩
  · rintro (⟨rfl, h⟩ | ⟨h1, h2, h3⟩)
    · exact ⟨Nat.le_refl _, h, .inl (seg_nil inp q)⟩
    · exact ⟨h1, h2, .inr h3⟩
theorem plus_app2 {L : List Nat → Prop} {u v : List Nat} (hu : Plus L u) (hv : Plus L v) : Plus L (u ++ v) := by
  induction hu with
  | one h => exact .more h hv
  | more h _ ih => rw [List.append_assoc]; exact .more h ih
/-- The last word that is not empty. -/
theorem plus_last {L : List Nat → Prop} {w : List Nat} (h : Plus L w) : w = [] ∨ ∃ u v, w = u ++ v ∧ v ≠ [] ∧ L v ∧ (u = [] ∨ Plus L u) := by
  induction h with
  | @one w h =>
    by_cases e : w = []
    · exact .inl e
    · exact .inr ⟨[], w, rfl, e, h, .inl rfl⟩
  | @more u v hu hv ih =>
    rcases ih with e | ⟨x, y, e, hy, ly, hx⟩
    · by_cases e2 : u = []
      · left; rw [e, e2]; rfl
      · right
        exact ⟨[], u, by rw [e]; simp, e2, hu, .inl rfl⟩
    · right
      refine ⟨u ++ x, y, by rw [e, List.append_assoc], hy, ly, .inr ?_⟩
      rcases hx with e3 | e3
      · rw [e3, List.append_nil]; exact .one hu
      · exact .more hu e3
theorem goes_many_nil {a : Tr} {inp : ByteArray} {p : Nat} (h : p ≤ inp.size) : GoesTo (.many a) inp p p := ⟨Nat.le_refl _, h, .inl (seg_nil inp p)⟩
theorem goes_many_snoc {a : Tr} {inp : ByteArray} {p m q : Nat} (h : GoesTo (.many a) inp p m) (k : GoesTo a inp m q) : GoesTo (.many a) inp p q := by
  obtain ⟨a1, a2, a3⟩ := h
  obtain ⟨b1, b2, b3⟩ := k
  refine ⟨by omega, b2, .inr ?_⟩
  rw [seg_app inp a1 b1]
  rcases a3 with e | e
  · rw [e]; exact .one b3
  · exact plus_app2 e (.one b3)
theorem goes_many_last {a : Tr} {inp : ByteArray} {p q : Nat} (h : GoesTo (.many a) inp p q) : q = p ∨ ∃ m, p ≤ m ∧ m < q ∧ GoesTo (.many a) inp p m ∧ GoesTo a inp m q := by
  obtain ⟨a1, a2, a3⟩ := h
  rcases a3 with e | e
  · exact .inl (seg_empty a1 e)
  · rcases plus_last e with e | ⟨u, v, e, hv, lv, hu⟩
    · exact .inl (seg_empty a1 e)
    · right
      obtain ⟨m, m1, m2, rfl, rfl⟩ := seg_split a1 e
      have hne : m ≠ q := fun e => hv (by rw [e]; exact seg_nil inp q)
      exact ⟨m, m1, by omega, ⟨m1, by omega, hu⟩, m2, a2, lv⟩
theorem goes_once {a : Tr} {inp : ByteArray} {p q : Nat} : GoesTo (.once a) inp p q ↔ ∃ m, GoesTo (.many a) inp p m ∧ GoesTo a inp m q := by
  constructor
  · rintro ⟨h1, h2, h3⟩
    have h3 : Plus (W a.rxT) (seg inp p q) := h3
    have : ∀ w, Plus (W a.rxT) w → ∃ u v, w = u ++ v ∧ W a.rxT v ∧ (u = [] ∨ Plus (W a.rxT) u) := by
      intro w hw
      induction hw with
      | @one w h => exact ⟨[], w, rfl, h, .inl rfl⟩
      | @more u v hu hv ih =>
        obtain ⟨x, y, e, ly, hx⟩ := ih
        refine ⟨u ++ x, y, by rw [e, List.append_assoc], ly, .inr ?_⟩
        rcases hx with e3 | e3
        · rw [e3, List.append_nil]; exact .one hu
        · exact .more hu e3
    obtain ⟨u, v, e, lv, hu⟩ := this _ h3
    obtain ⟨m, m1, m2, rfl, rfl⟩ := seg_split h1 e
    exact ⟨m, ⟨m1, by omega, hu⟩, m2, h2, lv⟩
  · rintro ⟨m, ⟨a1, a2, a3⟩, b1, b2, b3⟩
    refine ⟨by omega, b2, ?_⟩
    show Plus (W a.rxT) (seg inp p q)
    rw [seg_app inp a1 b1]
    rcases a3 with e | e
    · rw [e]; exact .one b3
    · exact plus_app2 e (.one b3)
/-- A place's letter. -/
def alwB (t : Tr) (c : Nat) : Bool := match t with
  | .any => true
  | .two a b => c == a || c == b
  | .let1 a => c == a
  | _ => false
def Tr.leaf : Tr → Prop
  | .let1 _ => True
  | .two _ _ => True
  | .any => True
  | _ => False
theorem goes_pl {t : Tr} {f : Nat → Bool} (h : t.rxT = .pl f) {inp : ByteArray} {p q : Nat} : GoesTo t inp p q ↔ q = p + 1 ∧ p < inp.size ∧ f (bt inp p) = true := by
  unfold GoesTo
  rw [h]
  constructor
  · rintro ⟨h1, h2, b, e, _, hb⟩
    have hl := congrArg List.length e
    rw [seg_len, List.length_singleton] at hl
    have hq : q = p + 1 := by omega
    subst hq
    rw [seg_one] at e
    injection e with e
    exact ⟨rfl, by omega, by rw [e]; exact hb⟩
  · rintro ⟨rfl, h1, h2⟩
    exact ⟨by omega, by omega, _, seg_one inp p, seg_lets inp p (p + 1) _ (by rw [seg_one]; exact List.mem_singleton.2 rfl), h2⟩
theorem oneF_eq (a c : Nat) : oneF a c = (c == a) := by
  unfold oneF withB zeroF
  rw [Bool.or_false, Bool.eq_iff_iff]
  simp only [decide_eq_true_eq, beq_iff_eq]
  omega
theorem twoF_eq (a b c : Nat) : withB (oneF a) b b c = (c == a || c == b) := by
  unfold withB
  rw [oneF_eq, Bool.eq_iff_iff]
  simp only [Bool.or_eq_true, decide_eq_true_eq, beq_iff_eq]
  omega
theorem goes_leaf {t : Tr} (h : t.leaf) {inp : ByteArray} {p q : Nat} : GoesTo t inp p q ↔ q = p + 1 ∧ p < inp.size ∧ alwB t (bt inp p) = true := by
  cases t with
  | let1 a =>
    rw [goes_pl (f := oneF a) rfl, oneF_eq]
    rfl
  | two a b =>
    rw [goes_pl (f := withB (oneF a) b b) rfl, twoF_eq]
    rfl
  | any =>
    rw [goes_pl (f := fun i => !(zeroF i)) rfl]
    simp [alwB, zeroF]
  | row a b => exact absurd h (by simp [Tr.leaf])
  | or2 a b => exact absurd h (by simp [Tr.leaf])
  | many a => exact absurd h (by simp [Tr.leaf])
  | once a => exact absurd h (by simp [Tr.leaf])
  | may a => exact absurd h (by simp [Tr.leaf])
end Go.Stn

namespace Go.Proofs.Ytgjgjgihceijnaa
open Go.RowKit Go.Stn
/-- All that lay there stays, but for some blocks. -/
structure Kept (R : Nat → Prop) (w w' : World) : Prop where
  os : w'.os = w.os
  tape : w'.tape = w.tape
  output : w'.output = w.output
  size : w.heap.size ≤ w'.heap.size
  block : ∀ k, k < w.heap.size → ¬ R k → w'.heap[k]? = w.heap[k]?
theorem Kept.refl (R : Nat → Prop) (w : World) : Kept R w w := ⟨rfl, rfl, rfl, Nat.le_refl _, fun _ _ _ => rfl⟩
theorem Kept.trans {R : Nat → Prop} {a b c : World} (h : Kept R a b) (k : Kept R b c) : Kept R a c :=
  ⟨k.os.trans h.os, k.tape.trans h.tape, k.output.trans h.output, Nat.le_trans h.size k.size, fun i hi hr => (k.block i (Nat.lt_of_lt_of_le hi h.size) hr).trans (h.block i hi hr)⟩
theorem Kept.of_below {R : Nat → Prop} {a b : World} (h : Below a.heap.size a b) : Kept R a b := ⟨h.os, h.tape, h.output, h.size, fun k hk _ => h.block k hk⟩
theorem Kept.draw {R : Nat → Prop} {a b : World} (h : Kept R a b) (q : Nat) : Kept R a (b.drewN q) := ⟨h.os, h.tape, h.output, h.size, h.block⟩
theorem Kept.below {R : Nat → Prop} {a b : World} (h : Kept R a b) {B : Nat} (hB : B ≤ a.heap.size) (hR : ∀ k, R k → B ≤ k) : Below B a b :=
  ⟨h.os, h.tape, h.output, h.size, fun k hk => h.block k (by omega) (fun hr => by have := hR k hr; omega)⟩
/-- A store into a block that came later. -/
theorem Kept.put {R : Nat → Prop} {a b : World} (h : Kept R a b) {g : Nat} (hg : a.heap.size ≤ g) (i : Nat) (v : Value) : Kept R a (b.setCell ⟨g, i, none⟩ v) := by
  have hz : (b.setCell ⟨g, i, none⟩ v).heap.size = b.heap.size := by simp [World.setCell]
  have := (Below.refl g b).setCell (p := ⟨g, i, none⟩) (Nat.le_refl _) v
  exact ⟨this.os.trans h.os, this.tape.trans h.tape, this.output.trans h.output, by rw [hz]; exact h.size, fun k hk hr => (this.block k (by omega)).trans (h.block k hk hr)⟩
/-- A store into one of those blocks. -/
theorem Kept.put' {R : Nat → Prop} {a b : World} (h : Kept R a b) {g : Nat} (hg : R g) (i : Nat) (v : Value) : Kept R a (b.setCell ⟨g, i, none⟩ v) := by
  have hz : (b.setCell ⟨g, i, none⟩ v).heap.size = b.heap.size := by simp [World.setCell]
  have := (Below.refl 0 b).setCell (p := ⟨g, i, none⟩) (Nat.zero_le _) v
  refine ⟨this.os.trans h.os, this.tape.trans h.tape, this.output.trans h.output, by rw [hz]; exact h.size, fun k hk hr => (set_keep b g i v (fun e => hr (by rw [e]; exact hg))).trans (h.block k hk hr)⟩
theorem Kept.cell {R : Nat → Prop} {a b : World} (h : Kept R a b) {k : Nat} (i : Nat) (hk : k < a.heap.size) (hr : ¬ R k) : b.cell? ⟨k, i, none⟩ = a.cell? ⟨k, i, none⟩ :=
  World.cell?_of_block (w := a) (a := ⟨k, i, none⟩) (h.block k hk hr)
theorem BA.blk {w w' : World} {ab n : Nat} {al : Nat → Bool} (h : BA w ab n al) (hB : w'.heap[ab]? = w.heap[ab]?) : BA w' ab n al :=
  ⟨fun i hi => (World.cell?_of_block (w := w) (a := ⟨ab, i, none⟩) hB).trans (h.c i hi), fun i => (World.frozen?_of_block (w := w) (a := ⟨ab, i, none⟩) hB).trans (h.f i)⟩
/-- A list that says up to which places a tree's words go from p on. -/
structure LA (X : Nat → Prop) (R : Nat → Prop) (w : World) (g : Nat) (t : Tr) (inp : ByteArray) (p : Nat) : Prop where
  lt : g < w.heap.size
  nx : ¬ X g
  nr : ¬ R g
  al : ∃ al, BA w g (inp.size + 1) al ∧ ∀ q, q ≤ inp.size → (al q = true ↔ GoesTo t inp p q)
theorem LA.block {X R : Nat → Prop} {w w' : World} {g : Nat} {t : Tr} {inp : ByteArray} {p : Nat} (h : LA X R w g t inp p) (hz : w.heap.size ≤ w'.heap.size) (hB : w'.heap[g]? = w.heap[g]?) : LA X R w' g t inp p := by
  obtain ⟨al, h1, h2⟩ := h.al
  exact ⟨Nat.lt_of_lt_of_le h.lt hz, h.nx, h.nr, al, h1.blk hB, h2⟩
theorem LA.kept {X R : Nat → Prop} {w w' : World} {g : Nat} {t : Tr} {inp : ByteArray} {p : Nat} (h : LA X R w g t inp p) (hK : Kept R w w') : LA X R w' g t inp p :=
  h.block hK.size (hK.block g h.lt h.nr)
theorem LA.weak {X X' R : Nat → Prop} {w : World} {g : Nat} {t : Tr} {inp : ByteArray} {p : Nat} (h : LA X R w g t inp p) (hX : ¬ X' g) : LA X' R w g t inp p := ⟨h.lt, hX, h.nr, h.al⟩
/-- The rows. -/
def rowsR (N : Nat) (rb : Nat → Nat) (k : Nat) : Prop := ∃ n, n < N ∧ k = rb n
/-- Where a walk lies. -/
structure WAt where
  pw : Nat
  sb : Nat
  ga : Nat
  gt : Nat
  ca : Nat
  ct : Nat
  cs : Nat
  rb : Nat → Nat
  all : List Nd
  tops : List Nat
  inp : ByteArray
/-- How long the lists are. -/
def WAt.L (m : WAt) : Nat := m.inp.size + 1
def WAt.R (m : WAt) (k : Nat) : Prop := rowsR m.all.length m.rb k
/-- The walk in memory; X: blocks that it must not use. -/
structure WKn (m : WAt) (X : Nat → Prop) (w : World) : Prop where
  c0 : w.cell? ⟨m.pw, 0, none⟩ = some (.slice (some ⟨m.ga, 0, none⟩) m.all.length m.ca)
  c1 : w.cell? ⟨m.pw, 1, none⟩ = some (.slice (some ⟨m.gt, 0, none⟩) m.tops.length m.ct)
  c2 : w.cell? ⟨m.pw, 2, none⟩ = some (.string m.inp)
  c3 : w.cell? ⟨m.pw, 3, none⟩ = some (.slice (some ⟨m.sb, 0, none⟩) m.all.length m.cs)
  ru : RuIn w m.ga m.gt m.all m.tops
  sn : ∀ n, n < m.all.length → w.cell? ⟨m.sb, n, none⟩ = some (.slice (some ⟨m.rb n, 0, none⟩) m.L m.L)
  me : ∀ (n : Nat) (x : Nd) (p : Nat), m.all[n]? = some x → p ≤ m.inp.size → w.cell? ⟨m.rb n, p, none⟩ = some (.slice none 0 0) ∨ ∃ g, w.cell? ⟨m.rb n, p, none⟩ = some (.slice (some ⟨g, 0, none⟩) m.L m.L) ∧ LA X m.R w g x.tr m.inp p
  fz : ∀ n i, n < m.all.length → w.frozen? ⟨m.rb n, i, none⟩ = false
  inj : ∀ n k, n < m.all.length → k < m.all.length → m.rb n = m.rb k → n = k
  bd : ∀ n, n < m.all.length → m.rb n < w.heap.size
  bp : m.pw < w.heap.size ∧ m.sb < w.heap.size
  nr : ¬ m.R m.pw ∧ ¬ m.R m.sb ∧ ¬ m.R m.ga ∧ ¬ m.R m.gt
  nx : ¬ X m.pw ∧ ¬ X m.sb ∧ ¬ X m.ga ∧ ¬ X m.gt ∧ ∀ k, m.R k → ¬ X k
variable {m : WAt} {X : Nat → Prop} {w w' : World}
theorem ru_block {w w' : World} {ga gt : Nat} {all : List Nd} {tops : List Nat} (h : RuIn w ga gt all tops) (hz : w.heap.size ≤ w'.heap.size) (h1 : w'.heap[ga]? = w.heap[ga]?) (h2 : w'.heap[gt]? = w.heap[gt]?) : RuIn w' ga gt all tops :=
  ⟨fun j x hx => rangeAt_block (h.nd j x hx) h1, fun i t ht => (World.cell?_of_block (w := w) (a := ⟨gt, i, none⟩) h2).trans (h.tp i t ht), h.ok, Nat.lt_of_lt_of_le h.ba hz, Nat.lt_of_lt_of_le h.bt hz⟩
/-- What changes but blocks of X leaves the walk as it is. -/
theorem WKn.keep (h : WKn m X w) (hz : w.heap.size ≤ w'.heap.size) (hB : ∀ k, k < w.heap.size → ¬ X k → w'.heap[k]? = w.heap[k]?) : WKn m X w' := by
  have hR : ∀ n, n < m.all.length → w'.heap[m.rb n]? = w.heap[m.rb n]? := fun n hn => hB _ (h.bd n hn) (h.nx.2.2.2.2 _ ⟨n, hn, rfl⟩)
  have hp := hB m.pw h.bp.1 h.nx.1
  have hs := hB m.sb h.bp.2 h.nx.2.1
  exact ⟨(World.cell?_of_block (w := w) (a := ⟨m.pw, 0, none⟩) hp).trans h.c0, (World.cell?_of_block (w := w) (a := ⟨m.pw, 1, none⟩) hp).trans h.c1, (World.cell?_of_block (w := w) (a := ⟨m.pw, 2, none⟩) hp).trans h.c2, (World.cell?_of_block (w := w) (a := ⟨m.pw, 3, none⟩) hp).trans h.c3,
    ru_block h.ru hz (hB m.ga h.ru.ba h.nx.2.2.1) (hB m.gt h.ru.bt h.nx.2.2.2.1),
    fun n hn => (World.cell?_of_block (w := w) (a := ⟨m.sb, n, none⟩) hs).trans (h.sn n hn),
    fun n x p hx hq => by
      have hn := (List.getElem?_eq_some_iff.1 hx).1
      have e := World.cell?_of_block (w := w) (w' := w') (a := ⟨m.rb n, p, none⟩) (hR n hn)
      rw [e]
      rcases h.me n x p hx hq with h1 | ⟨g, h1, h2⟩
      · exact .inl h1
      · exact .inr ⟨g, h1, h2.block hz (hB g h2.lt h2.nx)⟩,
    fun n i hn => (World.frozen?_of_block (w := w) (a := ⟨m.rb n, i, none⟩) (hR n hn)).trans (h.fz n i hn),
    h.inj, fun n hn => Nat.lt_of_lt_of_le (h.bd n hn) hz, ⟨Nat.lt_of_lt_of_le h.bp.1 hz, Nat.lt_of_lt_of_le h.bp.2 hz⟩, h.nr, h.nx⟩
theorem WKn.below (h : WKn m X w) (hB : Below w.heap.size w w') : WKn m X w' := h.keep hB.size (fun k hk _ => hB.block k hk)
theorem WKn.draw (h : WKn m X w) (q : Nat) : WKn m X (w.drewN q) := h.below (bdN (Below.refl _ _) q)
/-- More blocks that it must not use: those that came later. -/
theorem WKn.more (h : WKn m X w) {X' : Nat → Prop} (hX : ∀ k, k < w.heap.size → X' k → X k) : WKn m X' w := by
  have hR : ∀ k, m.R k → k < w.heap.size := fun k ⟨n, hn, e⟩ => by rw [e]; exact h.bd n hn
  exact ⟨h.c0, h.c1, h.c2, h.c3, h.ru, h.sn, fun n x p hx hq => by
      rcases h.me n x p hx hq with h1 | ⟨g, h1, h2⟩
      · exact .inl h1
      · exact .inr ⟨g, h1, h2.weak (fun hx => h2.nx (hX g h2.lt hx))⟩,
    h.fz, h.inj, h.bd, h.bp, h.nr, fun hx => h.nx.1 (hX _ h.bp.1 hx), fun hx => h.nx.2.1 (hX _ h.bp.2 hx), fun hx => h.nx.2.2.1 (hX _ h.ru.ba hx), fun hx => h.nx.2.2.2.1 (hX _ h.ru.bt hx), fun k hk hx => h.nx.2.2.2.2 k hk (hX k (hR k hk) hx)⟩
theorem WKn.put (h : WKn m X w) {g : Nat} (hg : X g) (i : Nat) (v : Value) : WKn m X (w.setCell ⟨g, i, none⟩ v) := by
  refine h.keep (by simp [World.setCell]) (fun k _ hk => set_keep w g i v (fun e => hk (by rw [e]; exact hg)))
/-- What is found is kept in mind. -/
theorem WKn.found (h : WKn m X w) {n p g : Nat} {x : Nd} (hx : m.all[n]? = some x) (hp : p ≤ m.inp.size) (hl : LA X m.R w g x.tr m.inp p) : WKn m X (w.setCell ⟨m.rb n, p, none⟩ (.slice (some ⟨g, 0, none⟩) m.L m.L)) := by
  have hn := (List.getElem?_eq_some_iff.1 hx).1
  have hR : m.R (m.rb n) := ⟨n, hn, rfl⟩
  generalize hv : Value.slice (some ⟨g, 0, none⟩) m.L m.L = v
  have hz : w.heap.size ≤ (w.setCell ⟨m.rb n, p, none⟩ v).heap.size := by simp [World.setCell]
  have hk : ∀ k, ¬ m.R k → (w.setCell ⟨m.rb n, p, none⟩ v).heap[k]? = w.heap[k]? := fun k hk => set_keep w _ p v (fun e => hk (by rw [e]; exact hR))
  have hp' := hk _ h.nr.1
  have hs := hk _ h.nr.2.1
  refine ⟨(World.cell?_of_block (w := w) (a := ⟨m.pw, 0, none⟩) hp').trans h.c0, (World.cell?_of_block (w := w) (a := ⟨m.pw, 1, none⟩) hp').trans h.c1, (World.cell?_of_block (w := w) (a := ⟨m.pw, 2, none⟩) hp').trans h.c2, (World.cell?_of_block (w := w) (a := ⟨m.pw, 3, none⟩) hp').trans h.c3,
    ru_block h.ru hz (hk _ h.nr.2.2.1) (hk _ h.nr.2.2.2),
    fun n hn => (World.cell?_of_block (w := w) (a := ⟨m.sb, n, none⟩) hs).trans (h.sn n hn), fun n' x' p' hx' hq => ?_,
    fun n' i hn' => by rw [World.frozen?_setCell]; exact h.fz n' i hn', h.inj, fun n hn => Nat.lt_of_lt_of_le (h.bd n hn) hz, ⟨Nat.lt_of_lt_of_le h.bp.1 hz, Nat.lt_of_lt_of_le h.bp.2 hz⟩, h.nr, h.nx⟩
  have hn' := (List.getElem?_eq_some_iff.1 hx').1
  by_cases e : n' = n ∧ p' = p
  · obtain ⟨rfl, rfl⟩ := e
    rw [hx] at hx'
    injection hx' with hx'
    subst hx'
    right
    refine ⟨g, ?_, hl.block hz (hk g hl.nr)⟩
    rw [hv]
    rcases h.me n' x p' hx hp with h1 | ⟨g', h1, _⟩
    · exact World.cell?_setCell_same _ _ _ h1
    · exact World.cell?_setCell_same _ _ _ h1
  · have e2 : (w.setCell ⟨m.rb n, p, none⟩ v).cell? ⟨m.rb n', p', none⟩ = w.cell? ⟨m.rb n', p', none⟩ := by
      rw [World.cell?_setCell_other (h := by
        intro e'
        injection e' with a b
        have := h.inj _ _ hn hn' (by first | exact a | exact a.symm)
        exact e ⟨this.symm, by omega⟩)]
    rw [e2]
    rcases h.me n' x' p' hx' hq with h1 | ⟨g', h1, h2⟩
    · exact .inl h1
    · exact .inr ⟨g', h1, h2.block hz (hk g' h2.nr)⟩
/-- What over comes to. -/
def OverOk (m : WAt) (n : Nat) (x : Nd) : Prop := ∀ (X : Nat → Prop) (w : World) (p : Nat), WKn m X w → (∀ k, X k → k < w.heap.size) → p ≤ m.inp.size →
  Calls Try.prog 52 #[.pointer (some ⟨m.pw, 0, none⟩), .int .i64 (n : Int), .int .i64 (p : Int)] w fun e w' => ∃ g, e = .returned (.slice (some ⟨g, 0, none⟩) m.L m.L) ∧ WKn m X w' ∧ Kept m.R w w' ∧ LA X m.R w' g x.tr m.inp p
/-- What find comes to. -/
def FindOk (m : WAt) (n : Nat) (x : Nd) : Prop := ∀ (X : Nat → Prop) (w : World) (p : Nat), WKn m X w → (∀ k, X k → k < w.heap.size) → p ≤ m.inp.size →
  Calls Try.prog 76 #[.pointer (some ⟨m.pw, 0, none⟩), .int .i64 (n : Int), .int .i64 (p : Int)] w fun e w' => ∃ g, e = .returned (.slice (some ⟨g, 0, none⟩) m.L m.L) ∧ WKn m X w' ∧ Kept m.R w w' ∧ LA X m.R w' g x.tr m.inp p
end Go.Proofs.Ytgjgjgihceijnaa

namespace Go.Proofs.Ytgjgjgihceijnaa
open Go.RowKit Go.Stn
theorem Try.eqlNil (w : World) (a : Option Addr) (l c : Nat) : (binOp .eql 94 (.slice a l c) (.slice none 0 0)).run Try.prog w = .ok (.bool a.isNone) w := run_eql_slice_nil w 94 4 a l c Try.underlying94
attribute [local go_sem] Try.eqlNil
attribute [local go_sem ↓] Go.wp_at_zero Go.wp_at_succ
set_option maxRecDepth 100000 in
set_option maxHeartbeats 2000000 in
theorem kover_any {m : WAt} {n : Nat} {x : Nd} (hx : m.all[n]? = some x) (hf : FindOk m n x) (_hs : m.inp.size ≤ 300) (_ha : m.all.length ≤ 2000000) : OverOk m n x := by
  intro X w p hk hX hp
  have hn := (List.getElem?_eq_some_iff.1 hx).1
  have hnI : (0 : Int) ≤ (n : Int) ∧ (n : Int) < (m.all.length : Int) := by omega
  have hpL : p < m.L := by unfold WAt.L; omega
  have hpI : (0 : Int) ≤ (p : Int) ∧ (p : Int) < (m.L : Int) := by omega
  have HF := hidK hf
  have HX := hidK hX
  have HK := hidK hk
  have c3 := hk.c3
  have sn := hk.sn n hn
  have HME := hidK (hk.me n x p hx hp)
  clear hf hX hk
  rcases HME.out with h0 | ⟨g, h1, hl⟩
  · go_enter Try.func52, Try.ntmps52
    go_upto_region 2 with fail
    go_region_with (go_at_call 76; refine (HF.out X w.drew p (HK.out.draw 1) HX.out hp).mono ?_; rintro e w1 ⟨g, rfl, hk1, hkp, hla⟩; have HK1 := hidK hk1; have HKP := hidK hkp; have HLA := hidK hla; have d3 := hk1.c3; have sn1 := hk1.sn n hn; have f1 := hk1.fz n p hn; obtain ⟨vv, cv⟩ : ∃ v, w1.cell? ⟨m.rb n, p, none⟩ = some v := (by rcases hk1.me n x p hx hp with h | ⟨_, h, _⟩ <;> exact ⟨_, h⟩); clear hk1 hkp hla)
    all_goals
      have HKF := hidK (HK1.out.found hx hp HLA.out)
      have e3 := HKF.out.c3
      have es := HKF.out.sn n hn
      have ec : (w1.setCell ⟨m.rb n, p, none⟩ (.slice (some ⟨g, 0, none⟩) m.L m.L)).cell? ⟨m.rb n, p, none⟩ = some (.slice (some ⟨g, 0, none⟩) m.L m.L) := World.cell?_setCell_same _ _ _ cv
      have HLF := hidK (HLA.out.block (w' := w1.setCell ⟨m.rb n, p, none⟩ (.slice (some ⟨g, 0, none⟩) m.L m.L)) (by simp [World.setCell]) (set_keep w1 _ p _ (fun e => HLA.out.nr ⟨n, hn, e⟩)))
      have HKQ := hidK ((((Kept.refl m.R w).draw 1).trans HKP.out).put' (g := m.rb n) ⟨n, hn, rfl⟩ p (.slice (some ⟨g, 0, none⟩) m.L m.L))
      clear c3 sn h0 d3 sn1 f1 cv HK1 HKP HLA HME HK
      generalize w1.setCell ⟨m.rb n, p, none⟩ (.slice (some ⟨g, 0, none⟩) m.L m.L) = W2 at *
      go_wp2
      go_ret
      exact ⟨g, rfl, HKF.out, HKQ.out, HLF.out⟩
  · have HL := hidK hl
    clear hl
    go_enter Try.func52, Try.ntmps52
    go_wp2
    go_ret
    exact ⟨g, rfl, HK.out, Kept.refl _ _, HL.out⟩
end Go.Proofs.Ytgjgjgihceijnaa

