/- An image as layout's reader lays it in memory; what each step leaves of it. -/
import Derived.Test.YtgjgjgihceijnaaLyCond
import Derived.Test.YtgjgjgihceijnaaLyPure2
namespace Go.Stn
open Go.RowKit
/-- An image's cells: the list of what is behind, the classes, the list of conditions. -/
def imgC (vb : Value) (cs : List Nat) (vc : Value) : List Value := vb :: (natC cs ++ [vc])
theorem natC_len (l : List Nat) : (natC l).length = l.length := by simp [natC]
theorem natC_get (l : List Nat) (k : Nat) (h : k < l.length) : (natC l)[k]? = some (.int .i64 (l[k] : Int)) := by simp [natC, h]
theorem imgC_len (vb : Value) (cs : List Nat) (vc : Value) (h : cs.length = 256) : (imgC vb cs vc).length = 258 := by simp [imgC, natC_len, h]
theorem imgC_0 (vb : Value) (cs : List Nat) (vc : Value) : (imgC vb cs vc)[0]? = some vb := rfl
theorem imgC_k (vb : Value) (cs : List Nat) (vc : Value) (k : Nat) (h : k < cs.length) : (imgC vb cs vc)[1 + k]? = some (.int .i64 (cs[k] : Int)) := by
  unfold imgC
  rw [Nat.add_comm, List.getElem?_cons_succ, List.getElem?_append_left (by rw [natC_len]; exact h), natC_get _ _ h]
theorem imgC_257 (vb : Value) (cs : List Nat) (vc : Value) (h : cs.length = 256) : (imgC vb cs vc)[257]? = some vc := by
  unfold imgC
  rw [List.getElem?_cons_succ, List.getElem?_append_right (by rw [natC_len, h]; omega), natC_len, h]; rfl
theorem imgC_set0 (vb : Value) (cs : List Nat) (vc u : Value) : (imgC vb cs vc).set 0 u = imgC u cs vc := rfl
theorem imgC_setk (vb : Value) (cs : List Nat) (vc : Value) (k x : Nat) (h : k < cs.length) : (imgC vb cs vc).set (1 + k) (.int .i64 (x : Int)) = imgC vb (cs.set k x) vc := by
  unfold imgC
  rw [Nat.add_comm, List.set_cons_succ, List.set_append_left _ _ (by rw [natC_len]; exact h)]
  simp [natC, List.map_set]
theorem imgC_set257 (vb : Value) (cs : List Nat) (vc u : Value) (h : cs.length = 256) : (imgC vb cs vc).set 257 u = imgC vb cs u := by
  unfold imgC
  rw [List.set_cons_succ, List.set_append_right _ _ (by rw [natC_len, h]; omega), natC_len, h]; rfl
theorem set_next (xs : List Nat) (m x : Nat) : (xs ++ List.replicate (m + 1) 0).set xs.length x = (xs ++ [x]) ++ List.replicate m 0 := by
  rw [List.set_append_right _ _ (Nat.le_refl _), Nat.sub_self, List.replicate_succ, List.set_cons_zero]
  simp

theorem rangeAt_setL {w : World} {b : Nat} {l : List Value} (h : w.rangeAt b 0 l) (k : Nat) (hk : k < l.length) (v : Value) : (w.setCell ⟨b, k, none⟩ v).rangeAt b 0 (l.set k v) := by
  intro j u hu
  rw [Nat.zero_add]
  by_cases e : j = k
  · subst e
    rw [List.getElem?_set_self hk] at hu
    injection hu with hu
    rw [← hu]
    have := h j (l[j]) (List.getElem?_eq_getElem hk)
    rw [Nat.zero_add] at this
    exact World.cell?_setCell_same _ _ _ this
  · rw [List.getElem?_set_ne (fun h => e h.symm)] at hu
    rw [World.cell?_setCell_other (h := by intro e'; injection e'; omega)]
    have := h j u hu
    rw [Nat.zero_add] at this
    exact this
theorem rangeAt_other {w : World} {b b' o : Nat} {l : List Value} (h : w.rangeAt b 0 l) (hb : b ≠ b') (v : Value) : (w.setCell ⟨b', o, none⟩ v).rangeAt b 0 l := by
  intro j u hu
  rw [World.cell?_setCell_other (h := by intro e'; injection e'; omega)]
  exact h j u hu

theorem overB_succ (l : List Nat) (m k : Nat) (h : k < l.length) : overB (l.take (k + 1)) m = (overB (l.take k) m || decide (m < l[k])) := by
  have e : l.take (k + 1) = l.take k ++ [l[k]] := by rw [List.take_add_one, List.getElem?_eq_getElem h]; rfl
  unfold overB
  rw [e, Bool.eq_iff_iff]
  simp only [List.mem_append, List.mem_singleton, Bool.or_eq_true, decide_eq_true_eq]
  constructor
  · rintro ⟨x, h1 | h1, h2⟩
    · exact .inl ⟨x, h1, h2⟩
    · subst h1; exact .inr h2
  · rintro (⟨x, h1, h2⟩ | h2)
    · exact ⟨x, .inl h1, h2⟩
    · exact ⟨_, .inr rfl, h2⟩

/-- A condition's states: where the list lies, the states, where each row lies. -/
abbrev CondG := Nat × List ((Nat × List Int) × Nat)
/-- A condition in memory. -/
structure CondIn (w : World) (cl : Nat) (y : CondG) : Prop where
  lt : y.1 < w.heap.size
  rg : w.rangeAt y.1 0 (stC cl y.2)
  rows : ∀ z ∈ y.2, z.2 < w.heap.size ∧ w.rangeAt z.2 0 (intC z.1.2)
def ownG (y : CondG) (k : Nat) : Prop := k = y.1 ∨ ∃ z ∈ y.2, k = z.2
theorem CondIn.block {w w' : World} {cl : Nat} {y : CondG} (h : CondIn w cl y) (hz : w.heap.size ≤ w'.heap.size) (hb : ∀ k, k < w.heap.size → ownG y k → w'.heap[k]? = w.heap[k]?) : CondIn w' cl y :=
  ⟨Nat.lt_of_lt_of_le h.lt hz, rangeAt_block h.rg (hb _ h.lt (.inl rfl)), fun z hz' => ⟨Nat.lt_of_lt_of_le (h.rows z hz').1 hz, rangeAt_block (h.rows z hz').2 (hb _ (h.rows z hz').1 (.inr ⟨z, hz', rfl⟩))⟩⟩
theorem CondIn.own {w : World} {cl : Nat} {y : CondG} (h : CondIn w cl y) {k : Nat} (hk : ownG y k) : k < w.heap.size := by
  rcases hk with rfl | ⟨z, hz, rfl⟩
  · exact h.lt
  · exact (h.rows z hz).1
theorem CondIn.below {w w' : World} {cl B : Nat} {y : CondG} (h : CondIn w cl y) (hB : Below B w w') (hl : w.heap.size ≤ B) : CondIn w' cl y := h.block hB.size (fun k hk _ => hB.block k (by omega))
/-- The list of conditions. -/
def condC (ys : List CondG) : List Value := ys.map fun (y : CondG) => Value.slice (some ⟨y.1, 0, none⟩) y.2.length y.2.length
theorem condC_snoc (ys : List CondG) (y : CondG) : condC (ys ++ [y]) = condC ys ++ [Value.slice (some ⟨y.1, 0, none⟩) y.2.length y.2.length] := by simp [condC]
theorem condC_len (ys : List CondG) : (condC ys).length = ys.length := by simp [condC]
end Go.Stn
namespace Go.Proofs.Ytgjgjgihceijnaa
open Go.RowKit Go.Stn

theorem Try.imgZeroA : Try.zeroCells75 = (imgC (.slice none 0 0) (List.replicate 256 0) (.slice none 0 0)).toArray := by kernel_rfl
theorem Try.imgZeroL : Try.zeroCells75.toList = imgC (.slice none 0 0) (List.replicate 256 0) (.slice none 0 0) := by rw [Try.imgZeroA]
theorem Try.imgZero : Try.zeroCells75.size = 258 := by kernel_rfl
theorem Try.imgSize : (Try.prog.info? 75).map (·.size) = some 258 := by kernel_rfl
theorem Try.imgZeroOne : Try.zeroCells75.all (·.oneCell') = true := by kernel_rfl
theorem Try.infoConds : (Try.prog.info? 143).map (fun i => (i.zero, i.size, i.bytes)) = some (some (.slice none 0 0), 1, 24) := by kernel_rfl

/-- The world of the reading of an image that began in w0. -/
structure IW (w0 w : World) (rb : Nat) (s : ByteArray) (r : LSt) (vb : Value) (cs : List Nat) (vc : Value) : Prop where
  g : w0.grownBy w (some rb)
  rd : LRd w rb s r
  im : w.rangeAt (w0.heap.size + 1) 0 (imgC vb cs vc)
  t1 : w.there (w0.heap.size + 1) 0 258
  t0 : w.there w0.heap.size 0 258
  hz : w0.heap.size + 2 ≤ w.heap.size
  hb : rb < w0.heap.size
  hl : cs.length = 256

variable {w0 w w' : World} {rb : Nat} {s : ByteArray} {r r' : LSt} {vb vc : Value} {cs : List Nat}

theorem IW.step (h : IW w0 w rb s r vb cs vc) (hg : w.grownBy w' (some rb)) (hl : LRd w' rb s r') : IW w0 w' rb s r' vb cs vc := by
  have hb := h.hb
  have hz := h.hz
  have e1 : w'.heap[w0.heap.size + 1]? = w.heap[w0.heap.size + 1]? := hg.block _ (by omega) (by intro e; injection e; omega)
  have e0 : w'.heap[w0.heap.size]? = w.heap[w0.heap.size]? := hg.block _ (by omega) (by intro e; injection e; omega)
  exact ⟨grown_trans h.g hg, hl, rangeAt_block h.im e1, there_block h.t1 e1, there_block h.t0 e0, by have := hg.size; omega, hb, h.hl⟩
theorem IW.cell (h : IW w0 w rb s r vb cs vc) {k : Nat} {v : Value} (hk : (imgC vb cs vc)[k]? = some v) : w.cell? ⟨w0.heap.size + 1, k, none⟩ = some v := by
  have := h.im k v hk
  rw [Nat.zero_add] at this
  exact this
theorem IW.fz (h : IW w0 w rb s r vb cs vc) {k : Nat} (hk : k < 258) : w.frozen? ⟨w0.heap.size + 1, k, none⟩ = false := by
  have := (h.t1 k hk).2
  rw [Nat.zero_add] at this
  exact this
theorem IW.set (h : IW w0 w rb s r vb cs vc) {k : Nat} {u : Value} {vb' vc' : Value} {cs' : List Nat} (hk : k < 258) (he : (imgC vb cs vc).set k u = imgC vb' cs' vc') (hl : cs'.length = 256) :
    IW w0 (w.setCell ⟨w0.heap.size + 1, k, none⟩ u) rb s r vb' cs' vc' := by
  have hb := h.hb
  have hz := h.hz
  refine ⟨⟨h.g.os, h.g.tape, h.g.output, by simp [World.setCell]; omega, fun i hi hr => ?_⟩, ?_, ?_, there_set h.t1 _ _, there_set h.t0 _ _, by simp [World.setCell]; omega, hb, hl⟩
  · rw [Below.heap_setCell _ _ _ _ (by simp only; omega)]; exact h.g.block i hi hr
  · exact h.rd.block (Below.heap_setCell _ _ _ _ (by simp only; omega)) (by simp [World.setCell])
  · rw [← he]; exact rangeAt_setL h.im k (by rw [imgC_len _ _ _ h.hl]; exact hk) u

theorem IW.other {v : Option Nat} (h : IW w0 w rb s r vb cs vc) (hg : w.grownBy w' v) (hv : ∀ k, v = some k → w0.heap.size + 2 ≤ k) : IW w0 w' rb s r vb cs vc := by
  have hb := h.hb
  have hz := h.hz
  have ne : ∀ k, k < w0.heap.size + 2 → some k ≠ v := fun k hk e => by have := hv k e.symm; omega
  have e1 : w'.heap[w0.heap.size + 1]? = w.heap[w0.heap.size + 1]? := hg.block _ (by omega) (ne _ (by omega))
  have e0 : w'.heap[w0.heap.size]? = w.heap[w0.heap.size]? := hg.block _ (by omega) (ne _ (by omega))
  refine ⟨⟨hg.os.trans h.g.os, hg.tape.trans h.g.tape, hg.output.trans h.g.output, Nat.le_trans h.g.size hg.size, fun i hi hr => (hg.block i (Nat.lt_of_lt_of_le hi h.g.size) (ne i (by omega))).trans (h.g.block i hi hr)⟩,
    h.rd.grown hg (ne rb (by omega)), rangeAt_block h.im e1, there_block h.t1 e1, there_block h.t0 e0, by have := hg.size; omega, hb, h.hl⟩

theorem imgC_one (hb : vb.oneCell' = true) (hc : vc.oneCell' = true) : ∀ v ∈ imgC vb cs vc, v.oneCell' = true := by
  intro v hv
  unfold imgC at hv
  rcases List.mem_cons.1 hv with rfl | h1
  · exact hb
  · rcases List.mem_append.1 h1 with h2 | h2
    · unfold natC at h2
      rw [List.mem_map] at h2
      obtain ⟨x, _, rfl⟩ := h2
      rfl
    · rw [List.mem_singleton] at h2; rw [h2]; exact hc

/-- What begins the reading. -/
theorem IW.start (h : LRd w rb s r) :
    IW w (((w.alloc (.cells Try.zeroCells75 75)).alloc (.cells Try.zeroCells75 75)).setCells (w.heap.size + 1) 0 Try.zeroCells75.toList) rb s r (.slice none 0 0) (List.replicate 256 0) (.slice none 0 0) := by
  have hb := h.hb
  have t1 := there_newA (w.alloc (.cells Try.zeroCells75 75)) Try.zeroCells75 75 (w.heap.size + 1) 258 Try.imgZero (by simp)
  have t0 := there_newA w Try.zeroCells75 75 w.heap.size 258 Try.imgZero rfl
  have g0 : w.grownBy ((w.alloc (.cells Try.zeroCells75 75)).alloc (.cells Try.zeroCells75 75)) (some rb) := grown_alloc2 (grown_alloc2 (World.grownBy.refl _ _) _) _
  have b1 : Below w.heap.size w ((w.alloc (.cells Try.zeroCells75 75)).alloc (.cells Try.zeroCells75 75)) := ((Below.refl _ _).alloc (Nat.le_refl _) _).alloc (by simp) _
  have b2 := below_setCells Try.zeroCells75.toList 0 _ (w.heap.size + 1) b1 (by omega)
  have z2 := (below_setCells Try.zeroCells75.toList 0 ((w.alloc (.cells Try.zeroCells75 75)).alloc (.cells Try.zeroCells75 75)) (w.heap.size + 1) (Below.refl 0 _) (Nat.zero_le _)).size
  simp at z2
  refine ⟨grown_setCells g0 _ _ _ (by omega), h.below b2 hb, ?_, World.there_setCells t1 _ _ _, World.there_setCells (World.there_alloc t0 _) _ _ _, by omega, hb, List.length_replicate⟩
  rw [← Try.imgZeroL]
  exact World.rangeAt_setCells_same _ _ _ _ (by rw [Array.length_toList, Try.imgZero]; exact t1)
end Go.Proofs.Ytgjgjgihceijnaa
