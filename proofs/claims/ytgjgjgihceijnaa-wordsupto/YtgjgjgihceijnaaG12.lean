/- Texts put together: RfConds, RfRule, RfRules. -/
import Derived.Test.YtgjgjgihceijnaaG11
import Derived.Deep.QuietTactic
import Derived.BigQuiet
namespace Go.Stn
def set1 (f : Nat → Bool) (k : Int) : Nat → Bool := fun i => if (i : Int) = k then true else f i
def condsLoop (t : ByteArray) : Nat → (Nat → Bool) → Int → PSt → (Nat → Bool) × Bool × PSt
  | 0, f, _, st => (f, false, st)
  | n + 1, f, last, st =>
    if (letterP t st).2.1 = false then (f, true, (letterP t st).2.2)
    else if (letterP t st).1 ≤ last then (f, false, (letterP t st).2.2)
    else condsLoop t n (set1 f (letterP t st).1) (letterP t st).1 (letterP t st).2.2
/-- The conditions of a rule. -/
def rcondsP (t : ByteArray) (st : PSt) : (Nat → Bool) × Bool × PSt :=
  if (letterP t st).2.1 = false then (zeroF, false, (letterP t st).2.2)
  else condsLoop t 5 (set1 zeroF (letterP t st).1) (letterP t st).1 (letterP t st).2.2
/-- Four bools, as a value. -/
def fourV (f : Nat → Bool) : Value := .agg #[.bool (f 0), .bool (f 1), .bool (f 2), .bool (f 3)]
theorem letterP_same (t : ByteArray) (st : PSt) : sameL st (letterP t st).2.2 := by
  unfold letterP
  split
  · exact sameL.adv st
  · exact sameL.refl st
theorem condsLoop_at {t : ByteArray} : ∀ (n : Nat) (f : Nat → Bool) (last : Int) (st : PSt), st.at_ ≤ t.size → sameL st (condsLoop t n f last st).2.2 ∧ st.at_ ≤ (condsLoop t n f last st).2.2.at_ ∧ (condsLoop t n f last st).2.2.at_ ≤ t.size := by
  intro n
  induction n with
  | zero => intro f last st h; exact ⟨sameL.refl st, Nat.le_refl _, h⟩
  | succ e ih =>
    intro f last st h
    have h1 := letterP_same t st
    have h2 := letterP_at h
    rw [condsLoop]
    split
    · exact ⟨h1, h2⟩
    · split
      · exact ⟨h1, h2⟩
      · have h3 := ih (set1 f (letterP t st).1) (letterP t st).1 (letterP t st).2.2 h2.2
        exact ⟨h1.trans h3.1, by omega, h3.2.2⟩
theorem rcondsP_at {t : ByteArray} {st : PSt} (h : st.at_ ≤ t.size) : sameL st (rcondsP t st).2.2 ∧ st.at_ ≤ (rcondsP t st).2.2.at_ ∧ (rcondsP t st).2.2.at_ ≤ t.size := by
  have h1 := letterP_same t st
  have h2 := letterP_at h
  unfold rcondsP
  split
  · exact ⟨h1, h2⟩
  · have h3 := condsLoop_at (t := t) 5 (set1 zeroF (letterP t st).1) (letterP t st).1 (letterP t st).2.2 h2.2
    exact ⟨h1.trans h3.1, by omega, h3.2.2⟩
end Go.Stn
namespace Go.Proofs.Ytgjgjgihceijnaa
open Go.RowKit Go.Stn

/-- Four bools in memory, to be written. -/
structure Four (w : World) (b : Nat) (f : Nat → Bool) : Prop where
  c0 : w.cell? ⟨b, 0, none⟩ = some (.bool (f 0))
  c1 : w.cell? ⟨b, 1, none⟩ = some (.bool (f 1))
  c2 : w.cell? ⟨b, 2, none⟩ = some (.bool (f 2))
  c3 : w.cell? ⟨b, 3, none⟩ = some (.bool (f 3))
  z : ∀ i, w.frozen? ⟨b, i, none⟩ = false
theorem Four.block {w w' : World} {b : Nat} {f : Nat → Bool} (h : Four w b f) (he : w'.heap[b]? = w.heap[b]?) : Four w' b f :=
  ⟨(World.cell?_of_block (w := w) (a := ⟨b, 0, none⟩) he).trans h.c0, (World.cell?_of_block (w := w) (a := ⟨b, 1, none⟩) he).trans h.c1, (World.cell?_of_block (w := w) (a := ⟨b, 2, none⟩) he).trans h.c2, (World.cell?_of_block (w := w) (a := ⟨b, 3, none⟩) he).trans h.c3, fun i => (World.frozen?_of_block (w := w) (a := ⟨b, i, none⟩) he).trans (h.z i)⟩
theorem Four.new (w : World) (b : Nat) (hb : b = w.heap.size) : Four (w.alloc (.cells #[.bool false, .bool false, .bool false, .bool false] 149)) b zeroF :=
  ⟨(World.cell?_alloc_at _ _ b 0 hb).trans rfl, (World.cell?_alloc_at _ _ b 1 hb).trans rfl, (World.cell?_alloc_at _ _ b 2 hb).trans rfl, (World.cell?_alloc_at _ _ b 3 hb).trans rfl, fun i => World.frozen?_alloc_at _ _ b i hb⟩
theorem Four.alloc {w : World} {b : Nat} {f : Nat → Bool} (h : Four w b f) (hb : b < w.heap.size) (o : Obj) : Four (w.alloc o) b f :=
  ⟨(World.cell?_alloc_past o b 0 hb).trans h.c0, (World.cell?_alloc_past o b 1 hb).trans h.c1, (World.cell?_alloc_past o b 2 hb).trans h.c2, (World.cell?_alloc_past o b 3 hb).trans h.c3, fun i => (World.frozen?_alloc_past o b i hb).trans (h.z i)⟩
theorem Four.there {w : World} {b : Nat} {f : Nat → Bool} (h : Four w b f) : w.there b 0 4 := by
  intro j hj
  rw [Nat.zero_add]
  refine ⟨?_, h.z j⟩
  match j, hj with
  | 0, _ => rw [h.c0]; rfl
  | 1, _ => rw [h.c1]; rfl
  | 2, _ => rw [h.c2]; rfl
  | 3, _ => rw [h.c3]; rfl
def fourL (f : Nat → Bool) : List Value := [.bool (f 0), .bool (f 1), .bool (f 2), .bool (f 3)]
theorem Try.fourSize : (Try.prog.info? 149).map (·.size) = some 4 := by kernel_rfl
theorem wpList_store_four {P : Program} {ops : Array Oper} {rest : List Oper} {op : Oper} {a : Act} {w : World} {Q : Exit → Act → World → Prop} (hgd : op.guard = none) (ty : TypeId) (x y : Operand) (ho : op.op = .store ty x y)
    (b : Nat) (f g : Nat → Bool) (hx : a.eval x = .pointer (some ⟨b, 0, none⟩)) (hy : a.eval y = fourV f) (ht : Four w b g) (hi : (P.info? ty).map (·.size) = some 4)
    (h : wpList P ops Q rest (a.put op.dst undef) (w.setCells b 0 (fourL f))) : wpList P ops Q (op :: rest) a w :=
  wpList_store_mid hgd ty x y ho b 0 (fourL f).toArray hx hy ht.there hi (by simp [fourL, Value.oneCell']) h

theorem set1_at (f : Nat → Bool) (k : Nat) : set1 f (k : Int) k = true := by unfold set1; rw [if_pos rfl]
theorem set1_ne (f : Nat → Bool) (k i : Nat) (h : i ≠ k) : set1 f (k : Int) i = f i := by unfold set1; rw [if_neg (by omega)]
theorem Four.set {w : World} {b : Nat} {f : Nat → Bool} (h : Four w b f) {n : Int} (h0 : 0 ≤ n) (h3 : n ≤ 3) : Four (w.setCell ⟨b, n.toNat, none⟩ (.bool true)) b (set1 f n) := by
  obtain ⟨k, rfl⟩ : ∃ k : Nat, n = (k : Int) := ⟨n.toNat, by omega⟩
  rw [Int.toNat_natCast]
  have hk : (w.cell? ⟨b, k, none⟩).isSome = true := by have := (h.there k (by omega)).1; rw [Nat.zero_add] at this; exact this
  have e : ∀ i, i < 4 → w.cell? ⟨b, i, none⟩ = some (.bool (f i)) → (w.setCell ⟨b, k, none⟩ (.bool true)).cell? ⟨b, i, none⟩ = some (.bool (set1 f k i)) := by
    intro i hi hc
    by_cases hik : i = k
    · subst hik
      rw [set1_at, World.cell?_setCell_same' _ _ _ hk]
    · rw [set1_ne f k i hik, World.cell?_setCell_other (w := w) (a := ⟨b, k, none⟩) (b := ⟨b, i, none⟩) (v := .bool true) (h := by intro e; exact hik (by injection e with _ e2 _; exact e2.symm)), hc]
  exact ⟨e 0 (by omega) h.c0, e 1 (by omega) h.c1, e 2 (by omega) h.c2, e 3 (by omega) h.c3, fun i => by rw [World.frozen?_setCell]; exact h.z i⟩
theorem Four.other {w : World} {b : Nat} {f : Nat → Bool} (h : Four w b f) (c i : Nat) (v : Value) (hc : b ≠ c) : Four (w.setCell ⟨c, i, none⟩ v) b f :=
  h.block (Below.heap_setCell w ⟨c, i, none⟩ v b hc)
theorem grown_setOver {a w : World} {r : Option Nat} (h : a.grownBy w r) {b : Nat} (hb : a.heap.size ≤ b) (i : Nat) (v : Value) : a.grownBy (w.setCell ⟨b, i, none⟩ v) r :=
  ⟨h.os, h.tape, h.output, by have := h.size; simp [World.setCell]; omega, fun k hk hr => (Below.heap_setCell w ⟨b, i, none⟩ v k (by show k ≠ b; omega)).trans (h.block k hk hr)⟩

set_option maxRecDepth 100000 in
theorem conds_any (t : ByteArray) (st : PSt) (rb base : Nat) (vr vn vp : Value) (w : World) (ht : t.size ≤ 120) (hat : st.at_ ≤ t.size) (h : Rd w rb base w.heap.size t st vr vn vp) :
    Calls Try.prog 114 #[.pointer (some ⟨rb, 0, none⟩)] w fun e w' =>
      e = .returned (.tuple #[fourV (rcondsP t st).1, .bool (rcondsP t st).2.1]) ∧ RdTo w rb base t vr vn vp (rcondsP t st).2.2 w' := by
  have hb := letterP_bound t st
  have hl := letterP_at (t := t) hat
  have hrb : rb < w.heap.size := by have := h.hb; have := h.hbt; omega
  have HC : Hid (rcondsP t st = if (letterP t st).2.1 = false then (zeroF, false, (letterP t st).2.2) else condsLoop t 5 (set1 zeroF (letterP t st).1) (letterP t st).1 (letterP t st).2.2) := rfl
  have HB0 : Hid (Below w.heap.size w ((w.alloc (.cells #[.bool false, .bool false, .bool false, .bool false] 149)).alloc (.cells #[.bool false, .bool false, .bool false, .bool false] 149))) := ((Below.refl _ _).alloc (Nat.le_refl _) _).alloc (by simp) _
  have HZ0 : Hid (Four ((w.alloc (.cells #[.bool false, .bool false, .bool false, .bool false] 149)).alloc (.cells #[.bool false, .bool false, .bool false, .bool false] 149)) w.heap.size zeroF) := by
    exact (Four.new w _ rfl).alloc (by simp) _
  have HY0 : Hid (Four ((w.alloc (.cells #[.bool false, .bool false, .bool false, .bool false] 149)).alloc (.cells #[.bool false, .bool false, .bool false, .bool false] 149)) (w.heap.size + 1) zeroF) := by
    exact Four.new _ _ (by simp)
  have hsz0 : ((w.alloc (.cells #[.bool false, .bool false, .bool false, .bool false] 149)).alloc (.cells #[.bool false, .bool false, .bool false, .bool false] 149)).heap.size = w.heap.size + 2 := by simp
  go_enter Try.func114, Try.ntmps114
  go_wp2_with fail
  generalize (w.alloc (.cells #[.bool false, .bool false, .bool false, .bool false] 149)).alloc (.cells #[.bool false, .bool false, .bool false, .bool false] 149) = W0 at *
  refine (letter_any t st rb base vr vn vp _ ht hat (h.below HB0.out).raise).mono ?_
  rintro e w1 ⟨rfl, hg1, hr1⟩
  have HZ1 := hidK (HZ0.out.block (hg1.block w.heap.size (by omega) (by intro e; injection e; omega)))
  have HY1 := hidK (HY0.out.block (hg1.block (w.heap.size + 1) (by omega) (by intro e; injection e; omega)))
  have HG1 := hidK (grown_trans (grown_of_below HB0.out (Nat.le_refl _) (some rb)) hg1)
  have hsz1 : w.heap.size + 2 ≤ w1.heap.size := by have := hg1.size; omega
  have HR1 := hidK hr1
  clear hr1 HB0 HZ0 HY0 hsz0 hg1
  generalize letterP t st = M at *
  obtain ⟨n1, ok1, st1⟩ := M
  simp only at HC HR1 hb hl
  obtain ⟨hb1, hb2⟩ := hb
  obtain ⟨hl1, hl2⟩ := hl
  cases ok1 with
  | false =>
    have HE : Hid (rcondsP t st = (zeroF, false, st1)) := HC.out
    have c0 := HY1.out.c0
    have c1 := HY1.out.c1
    have c2 := HY1.out.c2
    have c3 := HY1.out.c3
    have z0 := HZ1.out.z 0
    have z1 := HZ1.out.z 1
    have z2 := HZ1.out.z 2
    have z3 := HZ1.out.z 3
    go_wp2_with (first | (refine wpList_store_four rfl 149 (.tmp 2) (.tmp 16) rfl w.heap.size zeroF zeroF rfl rfl HZ1.out Try.fourSize ?_))
    refine ret_cell2 Try.results114 w.heap.size 0 (fourL zeroF) _ (.bool false) rfl rfl ?_ Try.underlying149 rfl Try.fourSize rfl ?_
    · exact World.rangeAt_setCells_same _ _ _ _ HZ1.out.there
    · rw [HE.out]
      exact ⟨rfl, fin_store h HR1.out.raise HG1.out _ _ _ (Nat.le_refl _)⟩
  | true =>
    have HE : Hid (rcondsP t st = condsLoop t 5 (set1 zeroF n1) n1 st1) := HC.out
    clear HC
    have HT1 : Hid (Four (w1.setCell ⟨w.heap.size + 1, n1.toNat, none⟩ (.bool true)) (w.heap.size + 1) (set1 zeroF n1)) := HY1.out.set hb1 hb2
    have HZ2 : Hid (Four (w1.setCell ⟨w.heap.size + 1, n1.toNat, none⟩ (.bool true)) w.heap.size zeroF) := HZ1.out.other _ _ _ (by omega)
    have HG2 := hidK (grown_setOver HG1.out (b := w.heap.size + 1) (by omega) n1.toNat (.bool true))
    have HR2 := hidK ((h.retop HR1.out (by omega)).below ((Below.refl w.heap.size w1).setCell (p := ⟨w.heap.size + 1, n1.toNat, none⟩) (by show w.heap.size ≤ w.heap.size + 1; omega) (.bool true)))
    have hs2 : w.heap.size + 2 ≤ (w1.setCell ⟨w.heap.size + 1, n1.toNat, none⟩ (.bool true)).heap.size := by rw [World.size_setCell]; exact hsz1
    have hc : (w1.cell? ⟨w.heap.size + 1, n1.toNat, none⟩).isSome = true := by have := (HY1.out.there n1.toNat (by omega)).1; rw [Nat.zero_add] at this; exact this
    obtain ⟨v1, hv1⟩ := Option.isSome_iff_exists.1 hc
    clear hc
    have hz := HY1.out.z n1.toNat
    obtain ⟨k1, hk1⟩ : ∃ k : Nat, n1 = (k : Int) := ⟨n1.toNat, by omega⟩
    subst hk1
    rw [Int.toNat_natCast] at *
    go_wp2_with fail
    clear hv1 hz
    generalize w1.setCell ⟨w.heap.size + 1, k1, none⟩ (.bool true) = X0 at *
    clear HZ1 HY1 HG1 HR1 hsz1
    go_loopg [5] 5 (fun gk x wr => ∃ (f : Nat → Bool) (last : Int) (s : PSt), x = .int .i64 last ∧ 0 ≤ last ∧ last ≤ 3 ∧ s.at_ ≤ t.size ∧ 3 - last < gk ∧ rcondsP t st = condsLoop t gk f last s ∧
      Rd wr rb base w.heap.size t s vr vn vp ∧ Four wr (w.heap.size + 1) f ∧ Four wr w.heap.size zeroF ∧ w.grownBy wr (some rb) ∧ w.heap.size + 2 ≤ wr.heap.size)
    case atStart => exact ⟨set1 zeroF k1, k1, st1, rfl, hb1, hb2, hl2, by omega, HE.out, HR2.out, HT1.out, HZ2.out, HG2.out, hs2⟩
    case round =>
      obtain ⟨f, last, s, rfl, hla, hlb, has, hfu, hlp, hr, hf, hz, hg, hsz⟩ := hrel
      have HL := hidK hlp
      have HF := hidK hf
      have HZ := hidK hz
      have HG := hidK hg
      have hb := letterP_bound t s
      have hl := letterP_at (t := t) has
      obtain ⟨g', hg'⟩ : ∃ g', gk = g' + 1 := ⟨gk - 1, by omega⟩
      have HC : Hid (rcondsP t st = if (letterP t s).2.1 = false then (f, true, (letterP t s).2.2)
        else if (letterP t s).1 ≤ last then (f, false, (letterP t s).2.2)
        else condsLoop t g' (set1 f (letterP t s).1) (letterP t s).1 (letterP t s).2.2) := by
        unfold Hid; rw [HL.out, hg']; rfl
      have HGK := hidK hg'
      clear hg' hlp hf hz hg HR2 HT1 HZ2 HG2 hs2 HE
      go_wp2_with fail
      refine (letter_any t s rb base vr vn vp _ ht has hr.raise).mono ?_
      rintro e w3 ⟨rfl, hg3, hr3⟩
      have HF3 := hidK (HF.out.block (hg3.block (w.heap.size + 1) (by omega) (by intro e; injection e; omega)))
      have HZ3 := hidK (HZ.out.block (hg3.block w.heap.size (by omega) (by intro e; injection e; omega)))
      have HG3 := hidK (grown_trans HG.out hg3)
      have hsz3 : w.heap.size + 2 ≤ w3.heap.size := by have := hg3.size; omega
      have HR3 := hidK hr3
      clear hr3 hr hg3 HF HZ HG
      generalize letterP t s = M at *
      obtain ⟨n3, ok3, st3⟩ := M
      simp only at HC HR3 hb hl
      obtain ⟨hb1, hb2⟩ := hb
      obtain ⟨hl1, hl2⟩ := hl
      have c0 := HF3.out.c0
      have c1 := HF3.out.c1
      have c2 := HF3.out.c2
      have c3 := HF3.out.c3
      cases ok3 with
      | false =>
        have HE : Hid (rcondsP t st = (f, true, st3)) := HC.out
        go_wp2_with (first | (refine wpList_store_four rfl 149 (.tmp 2) (.tmp 26) rfl w.heap.size f zeroF rfl rfl HZ3.out Try.fourSize ?_))
        refine ret_cell2 Try.results114 w.heap.size 0 (fourL f) _ (.bool true) rfl rfl ?_ Try.underlying149 rfl Try.fourSize rfl ?_
        · exact World.rangeAt_setCells_same _ _ _ _ HZ3.out.there
        · rw [HE.out]
          exact ⟨rfl, fin_store h HR3.out.raise HG3.out _ _ _ (Nat.le_refl _)⟩
      | true =>
        by_cases hle : n3 ≤ last
        · have HE : Hid (rcondsP t st = (f, false, st3)) := HC.out.trans (if_pos hle)
          go_wp2_with (first | (refine wpList_store_four rfl 149 (.tmp 2) (.tmp 30) rfl w.heap.size f zeroF rfl rfl HZ3.out Try.fourSize ?_))
          refine ret_cell2 Try.results114 w.heap.size 0 (fourL f) _ (.bool false) rfl rfl ?_ Try.underlying149 rfl Try.fourSize rfl ?_
          · exact World.rangeAt_setCells_same _ _ _ _ HZ3.out.there
          · rw [HE.out]
            exact ⟨rfl, fin_store h HR3.out.raise HG3.out _ _ _ (Nat.le_refl _)⟩
        · have HE : Hid (rcondsP t st = condsLoop t g' (set1 f n3) n3 st3) := HC.out.trans (if_neg hle)
          clear HC c0 c1 c2 c3
          have HT4 : Hid (Four (w3.setCell ⟨w.heap.size + 1, n3.toNat, none⟩ (.bool true)) (w.heap.size + 1) (set1 f n3)) := HF3.out.set hb1 hb2
          have HZ4 : Hid (Four (w3.setCell ⟨w.heap.size + 1, n3.toNat, none⟩ (.bool true)) w.heap.size zeroF) := HZ3.out.other _ _ _ (by omega)
          have HG4 := hidK (grown_setOver HG3.out (b := w.heap.size + 1) (by omega) n3.toNat (.bool true))
          have HR4 := hidK ((h.retop HR3.out (by omega)).below ((Below.refl w.heap.size w3).setCell (p := ⟨w.heap.size + 1, n3.toNat, none⟩) (by show w.heap.size ≤ w.heap.size + 1; omega) (.bool true)))
          have hs4 : w.heap.size + 2 ≤ (w3.setCell ⟨w.heap.size + 1, n3.toNat, none⟩ (.bool true)).heap.size := by rw [World.size_setCell]; exact hsz3
          have hc : (w3.cell? ⟨w.heap.size + 1, n3.toNat, none⟩).isSome = true := by have := (HF3.out.there n3.toNat (by omega)).1; rw [Nat.zero_add] at this; exact this
          obtain ⟨v3, hv3⟩ := Option.isSome_iff_exists.1 hc
          clear hc
          have hz3 := HF3.out.z n3.toNat
          obtain ⟨k3, hk3⟩ : ∃ k : Nat, n3 = (k : Int) := ⟨n3.toNat, by omega⟩
          subst hk3
          rw [Int.toNat_natCast] at *
          go_wp2_with fail
          clear hv3 hz3
          generalize w3.setCell ⟨w.heap.size + 1, k3, none⟩ (.bool true) = X4 at *
          go_roundg g'
          case measure => have := HGK.out; omega
          case rel =>
            exact ⟨set1 f k3, k3, st3, rfl, hb1, hb2, hl2, by have := HGK.out; omega, HE.out, HR4.out, HT4.out, HZ4.out, HG4.out, hs4⟩
end Go.Proofs.Ytgjgjgihceijnaa

namespace Go.Stn
def addR (x : (Nat → Bool) × Int × Int) (st : PSt) : PSt := { st with rules := st.rules ++ [x] }
def ruleEnd (t : ByteArray) (f : Nat → Bool) (root : Int) (st : PSt) : Bool × PSt :=
  if (behindP t st).2.1 = false then (false, (behindP t st).2.2) else (true, addR (f, (behindP t st).1, root) (behindP t st).2.2)
def ruleMid (t : ByteArray) (f : Nat → Bool) (st : PSt) : Bool × PSt :=
  if (exprP t (t.size + 1) st).2.1 = false then (false, (exprP t (t.size + 1) st).2.2)
  else if nextB t 32 (exprP t (t.size + 1) st).2.2 = false then (false, (exprP t (t.size + 1) st).2.2)
  else ruleEnd t f (exprP t (t.size + 1) st).1 (adv (exprP t (t.size + 1) st).2.2)
/-- A rule. -/
def ruleP (t : ByteArray) (st : PSt) : Bool × PSt :=
  if (rcondsP t st).2.1 = false then (false, (rcondsP t st).2.2)
  else if nextB t 32 (rcondsP t st).2.2 = false then (false, (rcondsP t st).2.2)
  else ruleMid t (rcondsP t st).1 (adv (rcondsP t st).2.2)
end Go.Stn
namespace Go.Proofs.Ytgjgjgihceijnaa
open Go.RowKit Go.Stn
theorem Few.same {a b : PSt} (h : Few a) (k : sameL a b) (hl : a.at_ ≤ b.at_) : Few b := by
  obtain ⟨h1, h2⟩ := h
  refine ⟨?_, ?_⟩
  · rw [k.2.1]; omega
  · rw [k.2.2]; omega

theorem Four.stored {w : World} {b : Nat} {g : Nat → Bool} (h : Four w b g) (f : Nat → Bool) : Four (w.setCells b 0 (fourL f)) b f := by
  have hr := World.rangeAt_setCells_same w b 0 (fourL f) h.there
  exact ⟨hr 0 _ rfl, hr 1 _ rfl, hr 2 _ rfl, hr 3 _ rfl, fun i => by rw [World.frozen?_setCells]; exact h.z i⟩
theorem altLoop_rules {t : ByteArray} {ex : PSt → Int × Bool × PSt} (hp : ∀ s, (pieceP t ex s).2.2.rules = s.rules) : ∀ (n : Nat) (whole : Int) (ok : Bool) (st : PSt), (altLoop t ex n whole ok st).2.2.rules = st.rules := by
  intro n
  induction n with
  | zero => intro whole ok st; rfl
  | succ e ih =>
    intro whole ok st
    rw [altLoop]
    split
    · rfl
    · split
      · rfl
      · rw [ih]; exact hp st
theorem exprLoop_rules {t : ByteArray} {ex : PSt → Int × Bool × PSt} (hp : ∀ s, (altP t ex s).2.2.rules = s.rules) : ∀ (n : Nat) (whole : Int) (ok : Bool) (st : PSt), (exprLoop t ex n whole ok st).2.2.rules = st.rules := by
  intro n
  induction n with
  | zero => intro whole ok st; rfl
  | succ e ih =>
    intro whole ok st
    rw [exprLoop]
    split
    · rfl
    · split
      · rfl
      · rw [ih]; exact hp (adv st)
/-- An expression's reading leaves the rules alone. -/
theorem exprP_rules (t : ByteArray) : ∀ (f : Nat) (st : PSt), (exprP t f st).2.2.rules = st.rules := by
  intro f
  induction f with
  | zero => intro st; rfl
  | succ e ih =>
    have h1 : ∀ s, (placeP t s).2.2.rules = s.rules := by
      intro s
      have := (allowedP_same t s).1
      unfold placeP
      split <;> exact this
    have h2 : ∀ s, (atomP t (exprP t e) s).2.2.rules = s.rules := by
      intro s
      unfold atomP
      split
      · split
        · exact ih (adv s)
        · exact ih (adv s)
      · exact h1 s
    have h3 : ∀ s, (pieceP t (exprP t e) s).2.2.rules = s.rules := by
      intro s
      unfold pieceP
      split
      · split
        · exact h2 s
        · exact h2 s
      · exact h2 s
    have h4 : ∀ s, (altP t (exprP t e) s).2.2.rules = s.rules := by
      intro s
      unfold altP
      rw [altLoop_rules h3]; exact h3 s
    intro st
    rw [exprP, exprLoop_rules h4]; exact h4 st

theorem Try.infoRule : (Try.prog.info? 151).map (fun i => (i.zero, i.size, i.bytes)) = some (some (.agg #[.bool false, .bool false, .bool false, .bool false, .int .i64 0, .int .i64 0]), 6, 24) := by kernel_rfl
theorem behindP_same (t : ByteArray) (st : PSt) : sameL st (behindP t st).2.2 := by
  unfold behindP
  split
  · exact sameL.adv st
  · split
    · exact sameL.adv st
    · split
      · exact letterP_same t st
      · exact letterP_same t st

set_option maxRecDepth 100000 in
set_option maxHeartbeats 1600000 in
theorem rule_any (t : ByteArray) (st : PSt) (rb base : Nat) (vr vn vp : Value) (w : World) (ht : t.size ≤ 120) (hat : st.at_ ≤ t.size) (hfew : Few st) (hru : st.rules.length ≤ 100000) (h : Rd w rb base w.heap.size t st vr vn vp) :
    Calls Try.prog 88 #[.pointer (some ⟨rb, 0, none⟩)] w fun e w' => e = .returned (.bool (ruleP t st).1) ∧ RdOut w rb base t vr vn vp (ruleP t st).2 w' := by
  have hrb : rb < w.heap.size := by have := h.hb; have := h.hbt; omega
  have HC : Hid (ruleP t st = if (rcondsP t st).2.1 = false then (false, (rcondsP t st).2.2)
    else if nextB t 32 (rcondsP t st).2.2 = false then (false, (rcondsP t st).2.2)
    else ruleMid t (rcondsP t st).1 (adv (rcondsP t st).2.2)) := rfl
  have hl := rcondsP_at (t := t) hat
  go_enter Try.func88, Try.ntmps88
  go_wp2_with fail
  refine (conds_any t st rb base vr vn vp _ ht hat h).mono ?_
  rintro e w1 ⟨rfl, hg1, hr1⟩
  generalize rcondsP t st = M at *
  obtain ⟨f, ok1, st1⟩ := M
  simp only at HC hl hr1
  obtain ⟨hsm, hl1, hl2⟩ := hl
  have hs1 := hg1.size
  have HW1 := hidK (hfew.same hsm hl1)
  have HU1 : Hid (st1.rules.length ≤ 100000) := by unfold Hid; rw [hsm.1]; exact hru
  have HZ1 := hidK ((Four.new w1 _ rfl).stored f)
  have HB1 : Hid (Below w1.heap.size w1 ((w1.alloc (.cells #[.bool false, .bool false, .bool false, .bool false] 149)).setCells w1.heap.size 0 (fourL f))) := below_setCells (fourL f) 0 _ w1.heap.size ((Below.refl _ _).alloc (Nat.le_refl _) _) (Nat.le_refl _)
  have HR1 := hidK (hr1.below HB1.out).raise
  have HF1 : Hid (Fr w ((w1.alloc (.cells #[.bool false, .bool false, .bool false, .bool false] 149)).setCells w1.heap.size 0 (fourL f)) rb vr vn vp vr vn vp) := Fr.of_grown (grown_trans hg1 (grown_of_below HB1.out (Nat.le_refl _) (some rb)))
  have hz1 : w1.heap.size < ((w1.alloc (.cells #[.bool false, .bool false, .bool false, .bool false] 149)).setCells w1.heap.size 0 (fourL f)).heap.size := by
    have := (below_setCells (fourL f) 0 (w1.alloc (.cells #[.bool false, .bool false, .bool false, .bool false] 149)) w1.heap.size (Below.refl 0 _) (Nat.zero_le _)).size
    simp at this; omega
  have HNB : Hid (¬ (w1.heap.size = rb ∨ vr.ownBlock = some w1.heap.size ∨ vn.ownBlock = some w1.heap.size ∨ vp.ownBlock = some w1.heap.size)) := by
    rintro (e | e | e | e)
    · omega
    · have := h.lr _ e; omega
    · have := h.ln _ e; omega
    · have := h.lp _ e; omega
  clear hg1 hr1 HB1 hsm hfew hru h
  cases ok1 with
  | false =>
    have HE : Hid (ruleP t st = (false, st1)) := HC.out
    go_wp2_with (first | (refine wpList_store_four rfl 149 (.tmp 3) (.tmp 10) rfl w1.heap.size f zeroF rfl rfl (Four.new w1 _ rfl) Try.fourSize ?_))
    go_ret
    rw [HE.out]
    exact ⟨rfl, _, _, _, HR1.out, HF1.out⟩
  | true =>
  go_wp2_with (first | (refine wpList_store_four rfl 149 (.tmp 3) (.tmp 10) rfl w1.heap.size f zeroF rfl rfl (Four.new w1 _ rfl) Try.fourSize ?_))
  generalize (w1.alloc (.cells #[.bool false, .bool false, .bool false, .bool false] 149)).setCells w1.heap.size 0 (fourL f) = X1 at *
  generalize w1.heap.size = B at *
  refine (skip_any t st1 32 rb base vr vn vp _ ht hl2 HR1.out).mono ?_
  rintro e w2 ⟨rfl, hg2, hr2⟩
  have HF2 := hidK (HF1.out.trans (Fr.of_grown hg2))
  have HZ2 := hidK (HZ1.out.block (hg2.block B (by omega) (by intro e; injection e; omega)))
  have hz2 : B < w2.heap.size := by have := hg2.size; omega
  clear hg2 HR1 HF1 HZ1 hz1
  cases hn1 : nextB t 32 st1 with
  | false =>
    have HE : Hid (ruleP t st = (false, st1)) := HC.out.trans (if_pos hn1)
    rw [skipP_no hn1] at hr2
    have HR2 := hidK hr2
    clear hr2
    go_wp2
    go_ret
    rw [HE.out]
    exact ⟨rfl, _, _, _, HR2.out, HF2.out⟩
  | true =>
  have HM : Hid (ruleP t st = if (exprP t (t.size + 1) (adv st1)).2.1 = false then (false, (exprP t (t.size + 1) (adv st1)).2.2)
    else if nextB t 32 (exprP t (t.size + 1) (adv st1)).2.2 = false then (false, (exprP t (t.size + 1) (adv st1)).2.2)
    else ruleEnd t f (exprP t (t.size + 1) (adv st1)).1 (adv (exprP t (t.size + 1) (adv st1)).2.2)) := by
    have hne : ¬ nextB t 32 st1 = false := by rw [hn1]; decide
    exact HC.out.trans (if_neg hne)
  have hlt := nextB_lt (by omega) hn1
  rw [skipP_yes hn1] at hr2
  have hc3 := expr_any t ht (t.size + 1) (adv st1) (by omega) rb base vr vn vp w2 (adv_ok hlt) HW1.out.adv hr2
  have hgr := exprP_ok t (t.size + 1) (adv st1) (adv_ok hlt)
  have HRU : Hid ((exprP t (t.size + 1) (adv st1)).2.2.rules = st1.rules) := exprP_rules t (t.size + 1) (adv st1)
  clear HC hn1
  generalize exprP t (t.size + 1) (adv st1) = M at *
  obtain ⟨n3, ok3, st3⟩ := M
  simp only at HM hgr HRU hc3
  have hat3 : st3.at_ ≤ t.size := hgr.2.1
  have HW3 := hidK (HW1.out.adv.gr hgr)
  go_wp2_with fail
  refine hc3.mono ?_
  rintro e w3 ⟨rfl, vr3, vn3, vp3, hr3, hf3⟩
  have HF3 := hidK (HF2.out.trans hf3)
  have HZ3 := hidK (HZ2.out.block (hf3.block B hz2 HNB.out))
  have HNB3 := hidK (hf3.stay B hz2 HNB.out)
  have hz3 : B < w3.heap.size := by have := hf3.size; omega
  have HU3 : Hid (st3.rules.length ≤ 100000) := by unfold Hid; rw [HRU.out]; exact HU1.out
  clear hf3 hc3 hr2 HF2 HZ2 hz2 HU1 HRU hgr
  cases ok3 with
  | false =>
    have HE : Hid (ruleP t st = (false, st3)) := HM.out
    have HR3 := hidK hr3
    clear hr3
    go_wp2
    go_ret
    rw [HE.out]
    exact ⟨rfl, _, _, _, HR3.out, HF3.out⟩
  | true =>
  go_wp2_with fail
  refine (skip_any t st3 32 rb base vr3 vn3 vp3 _ ht hat3 hr3).mono ?_
  rintro e w4 ⟨rfl, hg4, hr4⟩
  have HF4 := hidK (HF3.out.trans (Fr.of_grown hg4))
  have HZ4 := hidK (HZ3.out.block (hg4.block B (by omega) (by intro e; injection e; omega)))
  have hz4 : B < w4.heap.size := by have := hg4.size; omega
  clear hg4 hr3 HF3 HZ3 hz3
  cases hn3 : nextB t 32 st3 with
  | false =>
    have HE : Hid (ruleP t st = (false, st3)) := HM.out.trans (if_pos hn3)
    rw [skipP_no hn3] at hr4
    have HR4 := hidK hr4
    clear hr4
    go_wp2
    go_ret
    rw [HE.out]
    exact ⟨rfl, _, _, _, HR4.out, HF4.out⟩
  | true =>
  have HEn : Hid (ruleP t st = if (behindP t (adv st3)).2.1 = false then (false, (behindP t (adv st3)).2.2) else (true, addR (f, (behindP t (adv st3)).1, n3) (behindP t (adv st3)).2.2)) := by
    have hne : ¬ nextB t 32 st3 = false := by rw [hn3]; decide
    exact HM.out.trans (if_neg hne)
  have hlt3 := nextB_lt (by omega) hn3
  rw [skipP_yes hn3] at hr4
  have HSM : Hid ((behindP t (adv st3)).2.2.rules = st3.rules) := (behindP_same t (adv st3)).1
  have hc5 := behind_any t (adv st3) rb base vr3 vn3 vp3 w4 ht (adv_ok hlt3) hr4
  clear HM hn3
  generalize behindP t (adv st3) = M at *
  obtain ⟨n5, ok5, st5⟩ := M
  simp only at HEn HSM hc5
  go_wp2_with fail
  refine hc5.mono ?_
  rintro e w5 ⟨rfl, hg5, hr5⟩
  have HF5 := hidK (HF4.out.trans (Fr.of_grown hg5))
  have HZ5 := hidK (HZ4.out.block (hg5.block B (by omega) (by intro e; injection e; omega)))
  have hz5 : B < w5.heap.size := by have := hg5.size; omega
  have HR5 := hidK hr5
  clear hg5 hr4 HF4 HZ4 hz4 hr5 hc5
  cases ok5 with
  | false =>
    have HE : Hid (ruleP t st = (false, st5)) := HEn.out
    go_wp2
    go_ret
    rw [HE.out]
    exact ⟨rfl, _, _, _, HR5.out, HF5.out⟩
  | true =>
  have HE : Hid (ruleP t st = (true, addR (f, n5, n3) st5)) := HEn.out
  have hnl : st5.rules.length ≤ 100000 := by rw [HSM.out]; exact HU3.out
  clear HEn
  have c2 := HR5.out.c2
  have f2 := HR5.out.fz 2
  have d0 := HZ5.out.c0
  have d1 := HZ5.out.c1
  have d2 := HZ5.out.c2
  have d3 := HZ5.out.c3
  go_wp2_with fail
  have hrb5 : rb < w5.heap.size := by omega
  have hbs : base ≤ w5.heap.size := HR5.out.hbt
  have hrne : some rb ≠ vr3.ownBlock := fun e => by have := (HR5.out.rr.lt rb e.symm).1; have := HR5.out.hb; omega
  go_region_law ((refine step_app1 w5.drew rfl (.tmp 43) (.tmp 48) 80 rfl base 151 (.agg #[.bool false, .bool false, .bool false, .bool false, .int .i64 0, .int .i64 0]) 6 24 Try.underlying80 Try.infoRule rfl (by decide) (by decide) vr3 st5.rules.length (rulesC st5.rules) [.bool (f 0), .bool (f 1), .bool (f 2), .bool (f 3), .int .i64 n5, .int .i64 n3] _ (by simp [Act.eval]) HR5.out.rr _ rfl (by simp [Act.eval]) rfl (by simp [Value.oneCell']) (by omega) hbs ?_; intro g4 cap4 w6 hown4 hgrow4 hat4 hlt4; have m3 := ((grow_cell hgrow4 (k := rb) (by show rb < w5.heap.size; omega) hrne).1 2).trans c2; have n3' := ((grow_cell hgrow4 (k := rb) (by show rb < w5.heap.size; omega) hrne).2 2).trans f2; have HMo := hidK (HR5.out.drew.moreR (x := (f, n5, n3)) hown4 hgrow4 hat4 hlt4)))
  all_goals
    go_wp2
    go_ret
    rw [HE.out]
    exact ⟨rfl, _, _, _, HMo.out.1.raise, HF5.out.trans HMo.out.2.of_drew⟩
end Go.Proofs.Ytgjgjgihceijnaa

namespace Go.Stn
theorem Gr.same {t : ByteArray} {a b : PSt} (h : sameL a b) (h1 : a.at_ ≤ b.at_) (h2 : b.at_ ≤ t.size) : Gr t a b := (GrS_same h h1 h2).gr
theorem Gr.step {t : ByteArray} {a : PSt} (h : a.at_ < t.size) : Gr t a (adv a) := Gr.same (sameL.adv a) (by rw [adv_at]; omega) (by rw [adv_at]; omega)
/-- How a rule goes on. -/
def Gr3 (t : ByteArray) (a b : PSt) : Prop := Gr t a b ∧ b.rules.length + a.at_ ≤ a.rules.length + b.at_
theorem ruleEnd_gr {t : ByteArray} {f : Nat → Bool} {root : Int} {st : PSt} (h : st.at_ ≤ t.size) : Gr t st (ruleEnd t f root st).2 ∧ (ruleEnd t f root st).2.rules.length ≤ st.rules.length + 1 := by
  have h1 := behindP_at h
  have h2 := Go.Proofs.Ytgjgjgihceijnaa.behindP_same t st
  have h3 := Gr.same h2 h1.1 h1.2
  have e : (behindP t st).2.2.rules.length = st.rules.length := by rw [h2.1]
  unfold ruleEnd
  split
  · exact ⟨h3, by simp only; omega⟩
  · refine ⟨h3, ?_⟩
    simp only [addR, List.length_append, List.length_singleton]; omega
theorem ruleMid_gr {t : ByteArray} {f : Nat → Bool} {st : PSt} (h : st.at_ ≤ t.size) : Gr t st (ruleMid t f st).2 ∧ ((ruleMid t f st).2.rules.length ≤ st.rules.length + 1) := by
  have h1 := exprP_ok t (t.size + 1) st h
  have h2 := Go.Proofs.Ytgjgjgihceijnaa.exprP_rules t (t.size + 1) st
  have e : (exprP t (t.size + 1) st).2.2.rules.length = st.rules.length := by rw [h2]
  unfold ruleMid
  split
  · exact ⟨h1, by simp only; omega⟩
  · split
    · exact ⟨h1, by simp only; omega⟩
    · rename_i hn
      have hlt := nextB_lt (by omega) (show nextB t 32 (exprP t (t.size + 1) st).2.2 = true by simpa using hn)
      have h3 := ruleEnd_gr (t := t) (f := f) (root := (exprP t (t.size + 1) st).1) (st := adv (exprP t (t.size + 1) st).2.2) (by rw [adv_at]; omega)
      refine ⟨(h1.trans (Gr.step hlt)).trans h3.1, ?_⟩
      have h4 := h3.2
      have e2 : (adv (exprP t (t.size + 1) st).2.2).rules = (exprP t (t.size + 1) st).2.2.rules := rfl
      rw [e2] at h4
      omega
theorem ruleP_gr {t : ByteArray} {st : PSt} (h : st.at_ ≤ t.size) : Gr3 t st (ruleP t st).2 := by
  have h1 := rcondsP_at h
  have h2 := Gr.same h1.1 h1.2.1 h1.2.2
  have e : (rcondsP t st).2.2.rules.length = st.rules.length := by rw [h1.1.1]
  unfold ruleP
  split
  · exact ⟨h2, by simp only; omega⟩
  · split
    · exact ⟨h2, by simp only; omega⟩
    · rename_i hn
      have hlt := nextB_lt (by omega) (show nextB t 32 (rcondsP t st).2.2 = true by simpa using hn)
      have h3 := ruleMid_gr (t := t) (f := (rcondsP t st).1) (st := adv (rcondsP t st).2.2) (by rw [adv_at]; omega)
      refine ⟨(h2.trans (Gr.step hlt)).trans h3.1, ?_⟩
      have h4 := h3.2
      have h5 := h3.1.1
      have e2 : (adv (rcondsP t st).2.2).rules = (rcondsP t st).2.2.rules := rfl
      rw [e2] at h4
      rw [adv_at] at h5
      omega
def rulesLoop (t : ByteArray) : Nat → Bool → PSt → Bool × PSt
  | 0, _, st => (false, st)
  | n + 1, ok, st => if ok = false then (false, st) else if nextB t 10 st = false then (true, st) else rulesLoop t n (ruleP t (adv st)).1 (ruleP t (adv st)).2
theorem rulesLoop_false (t : ByteArray) (n : Nat) (st : PSt) : rulesLoop t n false st = (false, st) := by cases n <;> rfl
theorem rulesLoop_done {t : ByteArray} {n : Nat} {st : PSt} (h : nextB t 10 st = false) : rulesLoop t (n + 1) true st = (true, st) := by rw [rulesLoop, if_neg (by decide), if_pos h]
theorem rulesLoop_more {t : ByteArray} {n : Nat} {st : PSt} (h : nextB t 10 st = true) : rulesLoop t (n + 1) true st = rulesLoop t n (ruleP t (adv st)).1 (ruleP t (adv st)).2 := by rw [rulesLoop, if_neg (by decide), if_neg (by rw [h]; decide)]
def rulesR (t : ByteArray) (st : PSt) : Bool × PSt := rulesLoop t (t.size + 1) (ruleP t st).1 (ruleP t st).2
/-- The whole text. -/
def rulesB (t : ByteArray) (x : Bool × PSt) : Bool := x.1 && (decide (x.2.at_ = t.size) && decide (x.2.rules.length ≤ 8))
end Go.Stn
namespace Go.Proofs.Ytgjgjgihceijnaa
open Go.RowKit Go.Stn

set_option maxRecDepth 100000 in
theorem rules_any (t : ByteArray) (st : PSt) (rb base : Nat) (vr vn vp : Value) (w : World) (ht : t.size ≤ 120) (hat : st.at_ ≤ t.size) (hfew : Few st) (hru : st.rules.length ≤ st.at_) (h : Rd w rb base w.heap.size t st vr vn vp) :
    Calls Try.prog 58 #[.pointer (some ⟨rb, 0, none⟩)] w fun e w' => e = .returned (.bool (rulesB t (rulesR t st))) ∧ RdOut w rb base t vr vn vp (rulesR t st).2 w' := by
  have hc1 := rule_any t st rb base vr vn vp w ht hat hfew (by omega) h
  have hg1 := ruleP_gr (t := t) hat
  have HA : Hid (rulesR t st = rulesLoop t (t.size + 1) (ruleP t st).1 (ruleP t st).2) := rfl
  generalize ruleP t st = M at *
  obtain ⟨ok1, st1⟩ := M
  simp only at hc1 hg1 HA
  have hat1 : st1.at_ ≤ t.size := hg1.1.2.1
  have HFW := hidK (hfew.gr hg1.1)
  have hru1 : st1.rules.length ≤ st1.at_ := by have := hg1.2; omega
  clear hg1 hfew
  go_enter Try.func58, Try.ntmps58
  go_wp2_with fail
  refine hc1.mono ?_
  rintro e w1 ⟨rfl, vr1, vn1, vp1, hr1, hf1⟩
  have HR1 := hidK hr1
  have HF1 := hidK hf1
  clear hf1 hc1 hr1
  go_wp2_with fail
  go_loopg [3] (t.size + 1) (fun gk y wr => ∃ (ok : Bool) (s : PSt) (vr2 vn2 vp2 : Value), y = .bool ok ∧ s.at_ ≤ t.size ∧ s.rules.length ≤ s.at_ ∧ Few s ∧ (ok = true → t.size - s.at_ < gk) ∧ rulesR t st = rulesLoop t gk ok s ∧
    Rd wr rb base wr.heap.size t s vr2 vn2 vp2 ∧ Fr w wr rb vr vn vp vr2 vn2 vp2)
  case atStart => exact ⟨ok1, st1, vr1, vn1, vp1, rfl, hat1, hru1, HFW.out, fun _ => by omega, HA.out, HR1.out, HF1.out⟩
  case round =>
    obtain ⟨ok, s, vr2, vn2, vp2, rfl, has, hrs, hfs, hfu, hal, hr, hf⟩ := hrel
    have HL := hidK hal
    have HF := hidK hf
    have HFS := hidK hfs
    have HFU := hidK hfu
    clear hal hf hfs hfu HR1 HF1 HFW HA
    cases ok with
    | false =>
      have HE : Hid (rulesR t st = (false, s)) := HL.out.trans (rulesLoop_false t gk s)
      have HR := hidK hr.drewN
      clear hr
      go_wp2_with fail
      go_quiet (fail)
      go_wp2
      go_ret
      rw [HE.out]
      exact ⟨rfl, _, _, _, (HR.out _).raise, HF.out.trans (Fr.of_grown (grown_drewN (World.grownBy.refl _ _) _))⟩
    | true =>
      obtain ⟨g', hg'⟩ : ∃ g', gk = g' + 1 := ⟨gk - 1, by have := HFU.out rfl; omega⟩
      have HGK := hidK hg'
      clear hg'
      have HUF : Hid (t.size - s.at_ < gk) := HFU.out rfl
      clear HFU
      go_wp2_with fail
      refine (skip_any t s 10 rb base vr2 vn2 vp2 _ ht has hr).mono ?_
      rintro e w3 ⟨rfl, hg3, hr3⟩
      have HF3 : Hid (Fr w w3 rb vr vn vp vr2 vn2 vp2) := HF.out.trans (Fr.of_grown hg3)
      clear hr HF hg3
      cases hp : nextB t 10 s with
      | false =>
        have HE : Hid (rulesR t st = (true, s)) := by unfold Hid; rw [HL.out, HGK.out]; exact rulesLoop_done hp
        rw [skipP_no hp] at hr3
        have HR3 := hidK hr3
        clear hr3
        have c0 := HR3.out.c0
        have c1 := HR3.out.c1
        have c2 := HR3.out.c2
        obtain ⟨a2, cap2, hsl⟩ := rowSlice HR3.out.rr
        rw [hsl] at c2
        clear hsl
        by_cases he : s.at_ = t.size
        · have hb : (((s.at_ : Nat) : Int) == ((t.size : Nat) : Int)) = true := by rw [he]; exact beq_self_eq_true _
          by_cases hm : s.rules.length ≤ 8
          · have HB : Hid (rulesB t (true, s) = true) := by unfold Hid rulesB; simp [he, hm]
            have hm' : ((s.rules.length : Nat) : Int) ≤ 8 := by omega
            clear he hm
            go_wp2_with fail
            go_quiet (fail)
            go_wp2
            go_ret
            rw [HE.out, HB.out]
            exact ⟨rfl, _, _, _, (HR3.out.drewN _).raise, HF3.out.trans (Fr.of_grown (grown_drewN (World.grownBy.refl _ _) _))⟩
          · have HB : Hid (rulesB t (true, s) = false) := by unfold Hid rulesB; simp; intro _; omega
            have hm' : decide (((s.rules.length : Nat) : Int) ≤ 8) = false := by rw [decide_eq_false_iff_not]; omega
            clear he hm
            go_wp2_with fail
            go_quiet (fail)
            go_wp2
            go_ret
            rw [HE.out, HB.out]
            exact ⟨rfl, _, _, _, (HR3.out.drewN _).raise, HF3.out.trans (Fr.of_grown (grown_drewN (World.grownBy.refl _ _) _))⟩
        · have hb : (((s.at_ : Nat) : Int) == ((t.size : Nat) : Int)) = false := beq_eq_false_iff_ne.2 (by omega)
          have HB : Hid (rulesB t (true, s) = false) := by unfold Hid rulesB; simp [he]
          clear he
          go_wp2_with fail
          go_quiet (fail)
          go_wp2
          go_ret
          rw [HE.out, HB.out]
          exact ⟨rfl, _, _, _, (HR3.out.drewN _).raise, HF3.out.trans (Fr.of_grown (grown_drewN (World.grownBy.refl _ _) _))⟩
      | true =>
        have hlt := nextB_lt (by omega) hp
        rw [skipP_yes hp] at hr3
        have hstep : rulesR t st = rulesLoop t g' (ruleP t (adv s)).1 (ruleP t (adv s)).2 := by rw [HL.out, HGK.out]; exact rulesLoop_more hp
        have hc4 := rule_any t (adv s) rb base vr2 vn2 vp2 w3 ht (adv_ok hlt) HFS.out.adv (by show s.rules.length ≤ 100000; omega) hr3
        have hgg := ruleP_gr (t := t) (adv_ok hlt)
        have HS := hidK hstep
        clear hstep
        generalize ruleP t (adv s) = M at *
        obtain ⟨ok4, st4⟩ := M
        simp only at hc4 HS hgg
        have ha4 : s.at_ + 1 ≤ st4.at_ := by have := hgg.1.1; rw [adv_at] at this; exact this
        have hat4 : st4.at_ ≤ t.size := hgg.1.2.1
        have hru4 : st4.rules.length ≤ st4.at_ := by have := hgg.2; rw [adv_at] at this; have e : (adv s).rules = s.rules := rfl; rw [e] at this; omega
        have HW4 := hidK (HFS.out.adv.gr hgg.1)
        clear hgg
        go_wp2_with fail
        refine hc4.mono ?_
        rintro e w4 ⟨rfl, vr4, vn4, vp4, hr4, hf4⟩
        have HF4 := hidK (HF3.out.trans hf4)
        have HR4 := hidK hr4
        clear hf4 hc4 hr3 HF3 hr4
        go_wp2_with fail
        go_roundg g'
        case measure => have := HGK.out; omega
        case rel =>
          refine ⟨ok4, st4, vr4, vn4, vp4, rfl, hat4, hru4, HW4.out, fun _ => ?_, HS.out, HR4.out, HF4.out⟩
          have a1 := HUF.out
          have a2 := HGK.out
          omega
end Go.Proofs.Ytgjgjgihceijnaa

