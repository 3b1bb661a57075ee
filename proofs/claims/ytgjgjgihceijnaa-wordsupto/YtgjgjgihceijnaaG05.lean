/- Texts put together: LyImg, LyWalk, CkImg, CkCheck. -/
import Derived.Test.YtgjgjgihceijnaaG04
import Derived.Test.YtgjgjgihceijnaaG01
import Derived.Test.YtgjgjgihceijnaaG02
import Derived.Deep.AppendLies
import Derived.Deep.QuietTactic
import Derived.BigQuiet
import Derived.Test.YtgjgjgihceijnaaChecked
import Derived.WalkKit
import Derived.WalkSpells
import Derived.WalkLawsBesides
import Derived.Test.YtgjgjgihceijnaaG03
namespace Go.Stn
open Go.RowKit
/-- An image's cells: the list of what is behind, the classes, the list of conditions. -/
def imgC (vb : Value) (cs : List Nat) (vc : Value) : List Value := vb :: (natC cs ++ [vc])
theorem natC_len (l : List Nat) : (natC l).length = l.length := by simp [natC]
theorem natC_get (l : List Nat) (k : Nat) (h : k < l.length) : (natC l)[k]? = some (.int .i64 (l[k] : Int)) := by simp [natC, h]
theorem imgC_len (vb : Value) (cs : List Nat) (vc : Value) (h : cs.length = 256) : (imgC vb cs vc).length = 258 := by simp [imgC, natC_len, h]
theorem imgC_0 (vb : Value) (cs : List Nat) (vc : Value) : (imgC vb cs vc)[0]? = some vb := rfl
theorem imgC_k (vb : Value) (cs : List Nat) (vc : Value) (k : Nat) (h : k < cs.length) : (imgC vb cs vc)[1 + k]? = some (.int .i64 (cs[k] : Int)) := by
  unfold imgC
  rw [Nat.add_comm, List.getElem?_cons_succ, List.getElem?_append_left (by rw [natC_len]; exact h), natC_get _ _ h]
theorem imgC_257 (vb : Value) (cs : List Nat) (vc : Value) (h : cs.length = 256) : (imgC vb cs vc)[257]? = some vc := by
  unfold imgC
  rw [List.getElem?_cons_succ, List.getElem?_append_right (by rw [natC_len, h]; omega), natC_len, h]; rfl
theorem imgC_set0 (vb : Value) (cs : List Nat) (vc u : Value) : (imgC vb cs vc).set 0 u = imgC u cs vc := rfl
theorem imgC_setk (vb : Value) (cs : List Nat) (vc : Value) (k x : Nat) (h : k < cs.length) : (imgC vb cs vc).set (1 + k) (.int .i64 (x : Int)) = imgC vb (cs.set k x) vc := by
  unfold imgC
  rw [Nat.add_comm, List.set_cons_succ, List.set_append_left _ _ (by rw [natC_len]; exact h)]
  simp [natC, List.map_set]
theorem imgC_set257 (vb : Value) (cs : List Nat) (vc u : Value) (h : cs.length = 256) : (imgC vb cs vc).set 257 u = imgC vb cs u := by
  unfold imgC
  rw [List.set_cons_succ, List.set_append_right _ _ (by rw [natC_len, h]; omega), natC_len, h]; rfl
theorem set_next (xs : List Nat) (m x : Nat) : (xs ++ List.replicate (m + 1) 0).set xs.length x = (xs ++ [x]) ++ List.replicate m 0 := by
  rw [List.set_append_right _ _ (Nat.le_refl _), Nat.sub_self, List.replicate_succ, List.set_cons_zero]
  simp

theorem rangeAt_setL {w : World} {b : Nat} {l : List Value} (h : w.rangeAt b 0 l) (k : Nat) (hk : k < l.length) (v : Value) : (w.setCell ⟨b, k, none⟩ v).rangeAt b 0 (l.set k v) := by
  intro j u hu
  rw [Nat.zero_add]
  by_cases e : j = k
  · subst e
    rw [List.getElem?_set_self hk] at hu
    injection hu with hu
    rw [← hu]
    have := h j (l[j]) (List.getElem?_eq_getElem hk)
    rw [Nat.zero_add] at this
    exact World.cell?_setCell_same _ _ _ this
  · rw [List.getElem?_set_ne (fun h => e h.symm)] at hu
    rw [World.cell?_setCell_other (h := by intro e'; injection e'; omega)]
    have := h j u hu
    rw [Nat.zero_add] at this
    exact this
theorem rangeAt_other {w : World} {b b' o : Nat} {l : List Value} (h : w.rangeAt b 0 l) (hb : b ≠ b') (v : Value) : (w.setCell ⟨b', o, none⟩ v).rangeAt b 0 l := by
  intro j u hu
  rw [World.cell?_setCell_other (h := by intro e'; injection e'; omega)]
  exact h j u hu

theorem overB_succ (l : List Nat) (m k : Nat) (h : k < l.length) : overB (l.take (k + 1)) m = (overB (l.take k) m || decide (m < l[k])) := by
  have e : l.take (k + 1) = l.take k ++ [l[k]] := by rw [List.take_add_one, List.getElem?_eq_getElem h]; rfl
  unfold overB
  rw [e, Bool.eq_iff_iff]
  simp only [List.mem_append, List.mem_singleton, Bool.or_eq_true, decide_eq_true_eq]
  constructor
  · rintro ⟨x, h1 | h1, h2⟩
    · exact .inl ⟨x, h1, h2⟩
    · subst h1; exact .inr h2
  · rintro (⟨x, h1, h2⟩ | h2)
    · exact ⟨x, .inl h1, h2⟩
    · exact ⟨_, .inr rfl, h2⟩

/-- A condition's states: where the list lies, the states, where each row lies. -/
abbrev CondG := Nat × List ((Nat × List Int) × Nat)
/-- A condition in memory. -/
structure CondIn (w : World) (cl : Nat) (y : CondG) : Prop where
  lt : y.1 < w.heap.size
  rg : w.rangeAt y.1 0 (stC cl y.2)
  rows : ∀ z ∈ y.2, z.2 < w.heap.size ∧ w.rangeAt z.2 0 (intC z.1.2)
def ownG (y : CondG) (k : Nat) : Prop := k = y.1 ∨ ∃ z ∈ y.2, k = z.2
theorem CondIn.block {w w' : World} {cl : Nat} {y : CondG} (h : CondIn w cl y) (hz : w.heap.size ≤ w'.heap.size) (hb : ∀ k, k < w.heap.size → ownG y k → w'.heap[k]? = w.heap[k]?) : CondIn w' cl y :=
  ⟨Nat.lt_of_lt_of_le h.lt hz, rangeAt_block h.rg (hb _ h.lt (.inl rfl)), fun z hz' => ⟨Nat.lt_of_lt_of_le (h.rows z hz').1 hz, rangeAt_block (h.rows z hz').2 (hb _ (h.rows z hz').1 (.inr ⟨z, hz', rfl⟩))⟩⟩
theorem CondIn.own {w : World} {cl : Nat} {y : CondG} (h : CondIn w cl y) {k : Nat} (hk : ownG y k) : k < w.heap.size := by
  rcases hk with rfl | ⟨z, hz, rfl⟩
  · exact h.lt
  · exact (h.rows z hz).1
theorem CondIn.below {w w' : World} {cl B : Nat} {y : CondG} (h : CondIn w cl y) (hB : Below B w w') (hl : w.heap.size ≤ B) : CondIn w' cl y := h.block hB.size (fun k hk _ => hB.block k (by omega))
/-- The list of conditions. -/
def condC (ys : List CondG) : List Value := ys.map fun (y : CondG) => Value.slice (some ⟨y.1, 0, none⟩) y.2.length y.2.length
theorem condC_snoc (ys : List CondG) (y : CondG) : condC (ys ++ [y]) = condC ys ++ [Value.slice (some ⟨y.1, 0, none⟩) y.2.length y.2.length] := by simp [condC]
end Go.Stn
namespace Go.Proofs.Ytgjgjgihceijnaa
open Go.RowKit Go.Stn

theorem Try.imgZeroA : Try.zeroCells75 = (imgC (.slice none 0 0) (List.replicate 256 0) (.slice none 0 0)).toArray := by kernel_rfl
theorem Try.imgZeroL : Try.zeroCells75.toList = imgC (.slice none 0 0) (List.replicate 256 0) (.slice none 0 0) := by rw [Try.imgZeroA]
theorem Try.imgZero : Try.zeroCells75.size = 258 := by kernel_rfl
theorem Try.imgSize : (Try.prog.info? 75).map (·.size) = some 258 := by kernel_rfl
theorem Try.imgZeroOne : Try.zeroCells75.all (·.oneCell') = true := by kernel_rfl
theorem Try.infoConds : (Try.prog.info? 143).map (fun i => (i.zero, i.size, i.bytes)) = some (some (.slice none 0 0), 1, 24) := by kernel_rfl

/-- The world of the reading of an image that began in w0. -/
structure IW (w0 w : World) (rb : Nat) (s : ByteArray) (r : LSt) (vb : Value) (cs : List Nat) (vc : Value) : Prop where
  g : w0.grownBy w (some rb)
  rd : LRd w rb s r
  im : w.rangeAt (w0.heap.size + 1) 0 (imgC vb cs vc)
  t1 : w.there (w0.heap.size + 1) 0 258
  t0 : w.there w0.heap.size 0 258
  hz : w0.heap.size + 2 ≤ w.heap.size
  hb : rb < w0.heap.size
  hl : cs.length = 256

variable {w0 w w' : World} {rb : Nat} {s : ByteArray} {r r' : LSt} {vb vc : Value} {cs : List Nat}

theorem IW.step (h : IW w0 w rb s r vb cs vc) (hg : w.grownBy w' (some rb)) (hl : LRd w' rb s r') : IW w0 w' rb s r' vb cs vc := by
  have hb := h.hb
  have hz := h.hz
  have e1 : w'.heap[w0.heap.size + 1]? = w.heap[w0.heap.size + 1]? := hg.block _ (by omega) (by intro e; injection e; omega)
  have e0 : w'.heap[w0.heap.size]? = w.heap[w0.heap.size]? := hg.block _ (by omega) (by intro e; injection e; omega)
  exact ⟨grown_trans h.g hg, hl, rangeAt_block h.im e1, there_block h.t1 e1, there_block h.t0 e0, by have := hg.size; omega, hb, h.hl⟩
theorem IW.cell (h : IW w0 w rb s r vb cs vc) {k : Nat} {v : Value} (hk : (imgC vb cs vc)[k]? = some v) : w.cell? ⟨w0.heap.size + 1, k, none⟩ = some v := by
  have := h.im k v hk
  rw [Nat.zero_add] at this
  exact this
theorem IW.fz (h : IW w0 w rb s r vb cs vc) {k : Nat} (hk : k < 258) : w.frozen? ⟨w0.heap.size + 1, k, none⟩ = false := by
  have := (h.t1 k hk).2
  rw [Nat.zero_add] at this
  exact this
theorem IW.set (h : IW w0 w rb s r vb cs vc) {k : Nat} {u : Value} {vb' vc' : Value} {cs' : List Nat} (hk : k < 258) (he : (imgC vb cs vc).set k u = imgC vb' cs' vc') (hl : cs'.length = 256) :
    IW w0 (w.setCell ⟨w0.heap.size + 1, k, none⟩ u) rb s r vb' cs' vc' := by
  have hb := h.hb
  have hz := h.hz
  refine ⟨⟨h.g.os, h.g.tape, h.g.output, by simp [World.setCell]; omega, fun i hi hr => ?_⟩, ?_, ?_, there_set h.t1 _ _, there_set h.t0 _ _, by simp [World.setCell]; omega, hb, hl⟩
  · rw [Below.heap_setCell _ _ _ _ (by simp only; omega)]; exact h.g.block i hi hr
  · exact h.rd.block (Below.heap_setCell _ _ _ _ (by simp only; omega)) (by simp [World.setCell])
  · rw [← he]; exact rangeAt_setL h.im k (by rw [imgC_len _ _ _ h.hl]; exact hk) u

theorem IW.other {v : Option Nat} (h : IW w0 w rb s r vb cs vc) (hg : w.grownBy w' v) (hv : ∀ k, v = some k → w0.heap.size + 2 ≤ k) : IW w0 w' rb s r vb cs vc := by
  have hb := h.hb
  have hz := h.hz
  have ne : ∀ k, k < w0.heap.size + 2 → some k ≠ v := fun k hk e => by have := hv k e.symm; omega
  have e1 : w'.heap[w0.heap.size + 1]? = w.heap[w0.heap.size + 1]? := hg.block _ (by omega) (ne _ (by omega))
  have e0 : w'.heap[w0.heap.size]? = w.heap[w0.heap.size]? := hg.block _ (by omega) (ne _ (by omega))
  refine ⟨⟨hg.os.trans h.g.os, hg.tape.trans h.g.tape, hg.output.trans h.g.output, Nat.le_trans h.g.size hg.size, fun i hi hr => (hg.block i (Nat.lt_of_lt_of_le hi h.g.size) (ne i (by omega))).trans (h.g.block i hi hr)⟩,
    h.rd.grown hg (ne rb (by omega)), rangeAt_block h.im e1, there_block h.t1 e1, there_block h.t0 e0, by have := hg.size; omega, hb, h.hl⟩

theorem imgC_one (hb : vb.oneCell' = true) (hc : vc.oneCell' = true) : ∀ v ∈ imgC vb cs vc, v.oneCell' = true := by
  intro v hv
  unfold imgC at hv
  rcases List.mem_cons.1 hv with rfl | h1
  · exact hb
  · rcases List.mem_append.1 h1 with h2 | h2
    · unfold natC at h2
      rw [List.mem_map] at h2
      obtain ⟨x, _, rfl⟩ := h2
      rfl
    · rw [List.mem_singleton] at h2; rw [h2]; exact hc

/-- What begins the reading. -/
theorem IW.start (h : LRd w rb s r) :
    IW w (((w.alloc (.cells Try.zeroCells75 75)).alloc (.cells Try.zeroCells75 75)).setCells (w.heap.size + 1) 0 Try.zeroCells75.toList) rb s r (.slice none 0 0) (List.replicate 256 0) (.slice none 0 0) := by
  have hb := h.hb
  have t1 := there_newA (w.alloc (.cells Try.zeroCells75 75)) Try.zeroCells75 75 (w.heap.size + 1) 258 Try.imgZero (by simp)
  have t0 := there_newA w Try.zeroCells75 75 w.heap.size 258 Try.imgZero rfl
  have g0 : w.grownBy ((w.alloc (.cells Try.zeroCells75 75)).alloc (.cells Try.zeroCells75 75)) (some rb) := grown_alloc2 (grown_alloc2 (World.grownBy.refl _ _) _) _
  have b1 : Below w.heap.size w ((w.alloc (.cells Try.zeroCells75 75)).alloc (.cells Try.zeroCells75 75)) := ((Below.refl _ _).alloc (Nat.le_refl _) _).alloc (by simp) _
  have b2 := below_setCells Try.zeroCells75.toList 0 _ (w.heap.size + 1) b1 (by omega)
  have z2 := (below_setCells Try.zeroCells75.toList 0 ((w.alloc (.cells Try.zeroCells75 75)).alloc (.cells Try.zeroCells75 75)) (w.heap.size + 1) (Below.refl 0 _) (Nat.zero_le _)).size
  simp at z2
  refine ⟨grown_setCells g0 _ _ _ (by omega), h.below b2 hb, ?_, World.there_setCells t1 _ _ _, World.there_setCells (World.there_alloc t0 _) _ _ _, by omega, hb, List.length_replicate⟩
  rw [← Try.imgZeroL]
  exact World.rangeAt_setCells_same _ _ _ _ (by rw [Array.length_toList, Try.imgZero]; exact t1)
end Go.Proofs.Ytgjgjgihceijnaa

namespace Go.Proofs.Ytgjgjgihceijnaa
open Go.RowKit Go.Stn

/-- A list of numbers that lies still. -/
def NatsIn (w : World) (lo bb : Nat) (l : List Nat) : Prop := lo ≤ bb ∧ bb < w.heap.size ∧ w.rangeAt bb 0 (natC l)
theorem NatsIn.grown {w w' : World} {lo bb g : Nat} {l : List Nat} (h : NatsIn w lo bb l) (hg : w.grownBy w' (some g)) (hl : g < lo) : NatsIn w' lo bb l :=
  ⟨h.1, Nat.lt_of_lt_of_le h.2.1 hg.size, rangeAt_block h.2.2 (hg.block bb h.2.1 (by intro e; injection e; have := h.1; omega))⟩
theorem NatsIn.block {w w' : World} {lo bb : Nat} {l : List Nat} (h : NatsIn w lo bb l) (hz : w.heap.size ≤ w'.heap.size) (hb : w'.heap[bb]? = w.heap[bb]?) : NatsIn w' lo bb l :=
  ⟨h.1, Nat.lt_of_lt_of_le h.2.1 hz, rangeAt_block h.2.2 hb⟩
theorem NatsIn.set {w : World} {lo bb g k : Nat} {l : List Nat} (h : NatsIn w lo bb l) (hl : g < lo) (v : Value) : NatsIn (w.setCell ⟨g, k, none⟩ v) lo bb l :=
  h.block (by simp [World.setCell]) (Below.heap_setCell _ _ _ _ (by simp only; have := h.1; omega))

/-- The conditions that were read: each in memory, behind bb, and apart from their list. -/
def CondsIn (w : World) (cl bb : Nat) (vc : Value) (ys : List CondG) : Prop := ∀ y ∈ ys, CondIn w cl y ∧ ∀ k, ownG y k → bb < k ∧ vc.ownBlock ≠ some k
theorem CondsIn.move {w w' : World} {cl bb : Nat} {vc vc' : Value} {ys : List CondG} {v : Option Nat} (h : CondsIn w cl bb vc ys) (hg : w.grownBy w' v) (hv : ∀ k, v = some k → k ≤ bb ∨ vc.ownBlock = some k) (hc : ∀ k, k < w.heap.size → vc'.ownBlock = some k → vc.ownBlock = some k) : CondsIn w' cl bb vc' ys := fun y hy => by
  obtain ⟨h1, h2⟩ := h y hy
  refine ⟨h1.block hg.size (fun k hk ho => hg.block k hk (fun e => ?_)), fun k ho => ⟨(h2 k ho).1, fun e => (h2 k ho).2 (hc k (h1.own ho) e)⟩⟩
  obtain ⟨h3, h4⟩ := h2 k ho
  rcases hv k e.symm with h5 | h5
  · omega
  · exact h4 h5
theorem CondsIn.snoc {w : World} {cl bb : Nat} {vc : Value} {ys : List CondG} {y : CondG} (h : CondsIn w cl bb vc ys) (h1 : CondIn w cl y ∧ ∀ k, ownG y k → bb < k ∧ vc.ownBlock ≠ some k) : CondsIn w cl bb vc (ys ++ [y]) := fun z hz => by
  rcases List.mem_append.1 hz with h2 | h2
  · exact h z h2
  · rw [List.mem_singleton] at h2; rw [h2]; exact h1
theorem CondsIn.set {w : World} {cl bb g k : Nat} {vc : Value} {ys : List CondG} (h : CondsIn w cl bb vc ys) (hg : g ≤ bb) (v : Value) : CondsIn (w.setCell ⟨g, k, none⟩ v) cl bb vc ys := fun y hy => by
  obtain ⟨h1, h2⟩ := h y hy
  exact ⟨h1.block (by simp [World.setCell]) (fun j _ ho => Below.heap_setCell _ _ _ _ (by simp only; have := (h2 j ho).1; omega)), h2⟩

theorem setCells_block : ∀ (w : World) (b o : Nat) (vs : List Value) (k : Nat), k ≠ b → (w.setCells b o vs).heap[k]? = w.heap[k]? := by
  intro w b o vs
  induction vs generalizing w o with
  | nil => intro k _; rfl
  | cons v r ih => intro k hk; exact (ih (w.setCell ⟨b, o, none⟩ v) (o + 1) k hk).trans (Below.heap_setCell _ _ _ _ hk)
theorem ownsRow_setCells_below {w : World} {base : Nat} {e : TypeId} {size : Nat} {v : Value} {n : Nat} {xs : List Value} (h : w.ownsRow base e size v n xs) {b : Nat} (hb : b < base) (vs : List Value) (o : Nat) : (w.setCells b o vs).ownsRow base e size v n xs := by
  induction vs generalizing w o with
  | nil => exact h
  | cons u r ih => exact ih (ownsRow_setCell_below (a := ⟨b, o, none⟩) h hb u) (o + 1)

/-- What image comes to. -/
def LImgOut (w : World) (rb : Nat) (s : ByteArray) (e : Ending) (w' : World) : Prop :=
  ∃ (bb : Nat) (vc : Value) (ys : List CondG), e = .returned (.agg (imgC (.slice (some ⟨bb, 0, none⟩) (lRules s) (lRules s)) (lClassOf s) vc).toArray) ∧
      NatsIn w' (w.heap.size + 2) bb (lBehind s) ∧ w'.ownsRow (bb + 1) 143 1 vc ys.length (condC ys) ∧ ys.map (fun y => y.2.map (·.1)) = lConds s ∧ (∀ y ∈ ys, CondIn w' (lClasses s) y ∧ ∀ k, ownG y k → bb < k) ∧
      w.grownBy w' (some rb) ∧ LRd w' rb s (lh9 s)

set_option maxRecDepth 100000 in
set_option maxHeartbeats 2000000 in
theorem limage_any (s : ByteArray) (rb : Nat) (w : World) (hs : s.size ≤ 120000) (h : LRd w rb s (0, false)) :
    Calls Try.prog 57 #[.pointer (some ⟨rb, 0, none⟩)] w fun e w' => LImgOut w rb s e w' := by
  have HI := hidZ (IW.start h)
  have HT := hidZ (there_newA (w.alloc (.cells Try.zeroCells75 75)) Try.zeroCells75 75 (w.heap.size + 1) 258 Try.imgZero (by simp))
  have hrb := h.hb
  clear h
  go_enter Try.func57, Try.ntmps57
  go_wp2_with (first | (refine wpList_store_mid rfl 75 (.tmp 3) (.tmp 11) rfl (w.heap.size + 1) 0 Try.zeroCells75 rfl rfl ?_ ?_ Try.imgZeroOne ?_; (rw [Try.imgZero]; exact HT.out); (rw [Try.imgZero]; exact Try.imgSize)))
  generalize ((w.alloc (.cells Try.zeroCells75 75)).alloc (.cells Try.zeroCells75 75)).setCells (w.heap.size + 1) 0 Try.zeroCells75.toList = W0 at *
  clear HT
  have a0 : ((0, false) : LSt).1 ≤ s.size := Nat.zero_le _
  refine (lnumber_any s (0, false) 83 83 rb _ hs HI.out.rd a0).mono ?_
  rintro e w1 ⟨rfl, hg1, hl1⟩
  have HI1 := hidZ (HI.out.step hg1 hl1)
  have a1 := numP_at (lo := 83) (hi := 83) a0
  clear HI hg1 hl1
  go_wp2_with fail
  refine (lnumber_any s _ 84 84 rb _ hs HI1.out.rd a1).mono ?_
  rintro e w2 ⟨rfl, hg2, hl2⟩
  have HI2 := hidZ (HI1.out.step hg2 hl2)
  have a2 := numP_at (lo := 84) (hi := 84) a1
  clear HI1 hg2 hl2
  go_wp2_with fail
  refine (lnumber_any s _ 1 1 rb _ hs HI2.out.rd a2).mono ?_
  rintro e w3 ⟨rfl, hg3, hl3⟩
  have HI3 : Hid (IW w w3 rb s (lh3 s) _ _ _) := hidZ (HI2.out.step hg3 hl3)
  have a3 : (lh3 s).1 ≤ s.size := numP_at (lo := 1) (hi := 1) a2
  clear HI2 hg3 hl3 a0 a1 a2
  go_wp2_with fail
  refine (lnumber_any s _ 1 8 rb _ hs HI3.out.rd a3).mono ?_
  rintro e w4 ⟨rfl, hg4, hl4⟩
  have HI4 : Hid (IW w w4 rb s (lh4 s) _ _ _) := hidZ (HI3.out.step hg4 hl4)
  have a4 : (lh4 s).1 ≤ s.size := numP_at (lo := 1) (hi := 8) a3
  have hru : 1 ≤ lRules s ∧ lRules s ≤ 8 := numP_le (by omega)
  have ER : Hid ((numP s 1 8 (lh3 s)).1 = lRules s) := rfl
  rw [ER.out]
  clear HI3 hg4 hl4 a3 ER
  obtain ⟨ru, ERU⟩ : ∃ ru, lRules s = ru := ⟨_, rfl⟩
  rw [ERU] at hru ⊢
  replace ERU := hidZ ERU
  go_wp2_with fail
  refine (lnumbers_any s _ ru 5 rb _ hs (by omega) HI4.out.rd a4).mono ?_
  rintro e w5 ⟨rfl, ho5, hg5, hl5⟩
  have e5 : numsP s 5 ru [] (lh4 s) = (lBehind s, lh5 s) := by rw [← ERU.out]; rfl
  rw [e5] at ho5 hl5
  simp only at ho5 hl5
  have HI5 := hidZ (HI4.out.step hg5 hl5)
  have a5 : (lh5 s).1 ≤ s.size := by have := numsP_at (hi := 5) ru [] (lh4 s) a4; rw [e5] at this; exact this
  have hbl : (lBehind s).length = ru := by have := numsP_len (s := s) (hi := 5) ru [] (lh4 s); rw [e5] at this; simpa using this
  have HN5 : Hid (NatsIn w5 (w.heap.size + 2) w4.heap.size (lBehind s)) := hidZ ⟨HI4.out.hz, by have := (ho5.lt w4.heap.size rfl).2; omega, row_range ho5⟩
  have hbb : w.heap.size + 2 ≤ w4.heap.size := HI4.out.hz
  clear ho5 hg5 hl5 HI4 a4 e5
  generalize w4.heap.size = bb at *
  have hble : ∀ x ∈ lBehind s, x ≤ 5 := numsP_le _ _ _ (fun x hx => by cases hx)
  obtain ⟨L, EL⟩ : ∃ L, lBehind s = L := ⟨_, rfl⟩
  rw [EL] at hbl hble HN5
  replace EL := hidZ EL
  replace hble := hidZ hble
  have c0 := HI5.out.cell (imgC_0 _ _ _)
  have f0 := HI5.out.fz (k := 0) (by omega)
  have HI6 := hidZ (HI5.out.set (k := 0) (u := .slice (some ⟨bb, 0, none⟩) ru ru) (by omega) (imgC_set0 _ _ _ _) HI5.out.hl)
  have HN6 := hidZ (HN5.out.set (g := w.heap.size + 1) (k := 0) (by omega) (.slice (some ⟨bb, 0, none⟩) ru ru))
  go_wp2_with fail
  generalize w5.setCell ⟨w.heap.size + 1, 0, none⟩ (.slice (some ⟨bb, 0, none⟩) ru ru) = W6 at *
  clear HI5 HN5 c0 f0
  refine (lnumber_any s _ 1 4 rb _ hs HI6.out.rd a5).mono ?_
  rintro e w7 ⟨rfl, hg7, hl7⟩
  have HI7 := hidZ (HI6.out.step hg7 hl7)
  have HN7 := hidZ (HN6.out.grown hg7 (by omega))
  have hmn : 1 ≤ lMany s ∧ lMany s ≤ 4 := numP_le (by omega)
  have a7 : (numP s 1 4 (lh5 s)).2.1 ≤ s.size := numP_at (lo := 1) (hi := 4) a5
  have ER : Hid ((numP s 1 4 (lh5 s)).1 = lMany s) := rfl
  have E6 : Hid (lh6 s = ((numP s 1 4 (lh5 s)).2.1, (numP s 1 4 (lh5 s)).2.2 || overB (lBehind s) (1 + lMany s))) := rfl
  rw [ER.out]
  rw [EL.out] at E6
  clear HI6 HN6 hg7 hl7 a5 ER
  generalize numP s 1 4 (lh5 s) = N at *
  obtain ⟨mm, r7⟩ := N
  simp only at a7 E6 HI7
  obtain ⟨mn, EMN⟩ : ∃ ru, lMany s = ru := ⟨_, rfl⟩
  rw [EMN] at hmn E6 ⊢
  replace EMN := hidZ EMN
  have c0 := HI7.out.cell (imgC_0 _ _ _)
  go_wp2_with fail
  clear c0
  go_loopw [29] (fun x wr => ∃ k : Nat, x = .int .i64 (k : Int) ∧ k ≤ ru ∧ IW w wr rb s (r7.1, r7.2 || overB (L.take k) (1 + mn)) (.slice (some ⟨bb, 0, none⟩) ru ru) (List.replicate 256 0) (.slice none 0 0) ∧ NatsIn wr (w.heap.size + 2) bb L) (fun x _ => ru - (intOf x).toNat)
  case atStart =>
    refine ⟨0, rfl, Nat.zero_le _, ?_, HN7.out⟩
    have e : (r7.1, r7.2 || overB (L.take 0) (1 + mn)) = r7 := by simp [overB]
    rw [e]; exact HI7.out
  case round =>
    obtain ⟨k, rfl, hk, hiw, hnw⟩ := hrel
    have HI8 := hidZ hiw
    have HN8 := hidZ hnw
    clear hiw hnw HI7 HN7
    by_cases hlt : k < ru
    · have hkl : k < L.length := by omega
      have HOV := hidZ (overB_succ L (1 + mn) k hkl)
      have hx : wr.cell? ⟨bb, k, none⟩ = some (.int .i64 (L[k] : Int)) := by have := HN8.out.2.2 k _ (natC_get L k hkl); rw [Nat.zero_add] at this; exact this
      have hxl : L[k] ≤ 5 := hble.out _ (List.getElem_mem hkl)
      generalize L[k] = x at *
      have hd : decide ((k : Int) < (ru : Int)) = true := by simp; omega
      have f2 := HI8.out.rd.fz 2
      have c2 := HI8.out.rd.c2
      by_cases hov : 1 + mn < x
      · have hd2 : decide ((1 : Int) + (mn : Int) < (x : Int)) = true := by simp; omega
        have HE : Hid (overB (L.take (k + 1)) (1 + mn) = true) := by unfold Hid; rw [HOV.out]; simp [hov]
        have HI9 := hidZ (HI8.out.step (grown_set (World.grownBy.refl _ _) 2 (.bool true)) HI8.out.rd.setBad)
        have HN9 := hidZ (HN8.out.set (g := rb) (k := 2) (by omega) (.bool true))
        clear HOV hov
        go_wp2
        go_roundw
        case rel =>
          refine ⟨k + 1, by go_num, by omega, ?_, HN9.out⟩
          rw [HE.out, Bool.or_true]; exact HI9.out
        case measure => simp [intOf]; omega
      · have hd2 : decide ((1 : Int) + (mn : Int) < (x : Int)) = false := by simp; omega
        have HE : Hid (overB (L.take (k + 1)) (1 + mn) = overB (L.take k) (1 + mn)) := by unfold Hid; rw [HOV.out]; simp [hov]
        clear HOV hov
        go_wp2
        go_roundw
        case rel =>
          refine ⟨k + 1, by go_num, by omega, ?_, HN8.out⟩
          rw [HE.out]; exact HI8.out
        case measure => simp [intOf]; omega
    · have e : k = ru := by omega
      subst e
      have HI9 : Hid (IW w wr rb s (lh6 s) (.slice (some ⟨bb, 0, none⟩) k k) (List.replicate 256 0) (.slice none 0 0)) := by
        unfold Hid
        have := HI8.out
        rw [List.take_of_length_le (by omega), ← E6.out] at this
        exact this
      have a6 : (lh6 s).1 ≤ s.size := by rw [E6.out]; exact a7
      have hd : decide ((k : Int) < (k : Int)) = false := by simp
      clear HI8
      go_wp2_with fail
      refine (lnumber_any s _ 0 255 rb _ hs HI9.out.rd a6).mono ?_
      rintro e w8 ⟨rfl, hg8, hl8⟩
      have HIA : Hid (IW w w8 rb s (lh7 s) _ _ _) := hidZ (HI9.out.step hg8 hl8)
      have HNA := hidZ (HN8.out.grown hg8 (by omega))
      have hx6 := numP_le (s := s) (lo := 0) (hi := 255) (r := lh6 s) (by omega)
      have a8 : (lh7 s).1 ≤ s.size := numP_at (lo := 0) (hi := 255) a6
      have EC : Hid (lClasses s = 1 + (numP s 0 255 (lh6 s)).1) := rfl
      clear HI9 HN8 hg8 hl8 a6
      generalize (numP s 0 255 (lh6 s)).1 = x6 at *
      obtain ⟨cl, ECL⟩ : ∃ cl, lClasses s = cl := ⟨_, rfl⟩
      rw [ECL] at EC
      have hcl : cl = 1 + x6 := EC.out
      have h8 : (cl : Int) - 1 = (x6 : Int) := by omega
      have hcI : (1 : Int) + (x6 : Int) = (cl : Int) := by omega
      have EX : Hid (x6 = cl - 1) := by unfold Hid; omega
      replace ECL := hidZ ECL
      replace hcl := hidZ hcl
      have hcb : cl ≤ 256 := by have := hcl.out; omega
      clear EC
      go_wp2_with fail
      go_loopg [44] 256 (fun gk x wr => ∃ (xs : List Nat) (m : Nat) (r' : LSt), x = .int .i64 (m : Int) ∧ xs.length = m ∧ m + gk = 256 ∧ r'.1 ≤ s.size ∧ numsP s x6 256 [] (lh7 s) = numsP s x6 gk xs r' ∧
        IW w wr rb s r' (.slice (some ⟨bb, 0, none⟩) k k) (xs ++ List.replicate gk 0) (.slice none 0 0) ∧ NatsIn wr (w.heap.size + 2) bb L)
      case atStart => exact ⟨[], 0, lh7 s, rfl, rfl, rfl, a8, rfl, HIA.out, HNA.out⟩
      case round =>
        obtain ⟨xs, m, r', rfl, hxl, hmg, hr', heq, hiw, hnw⟩ := hrel
        have HQ := hidZ heq
        have HIB := hidZ hiw
        have HNB := hidZ hnw
        have HX := hidZ hxl
        clear heq hiw hnw hxl HIA HNA
        by_cases hlt2 : m < 256
        · obtain ⟨g', rfl⟩ : ∃ g', gk = g' + 1 := ⟨gk - 1, by omega⟩
          have HQ2 : Hid (numsP s x6 256 [] (lh7 s) = numsP s x6 g' (xs ++ [(numP s 0 x6 r').1]) (numP s 0 x6 r').2) := HQ.out
          have hc := lnumber_any s r' 0 x6 rb wr hs HIB.out.rd hr'
          have ha := numP_at (lo := 0) (hi := x6) hr'
          generalize numP s 0 x6 r' = N at *
          obtain ⟨x, r2⟩ := N
          simp only at *
          have hd2 : decide ((m : Int) < 256) = true := by simp; omega
          go_wp2_with fail
          refine hc.mono ?_
          rintro e w9 ⟨rfl, hg9, hl9⟩
          have HIC := hidZ (HIB.out.step hg9 hl9)
          have HNC := hidZ (HNB.out.grown hg9 (by omega))
          clear hg9 hl9 HIB HNB hc HQ
          have hml : m < (xs ++ List.replicate (g' + 1) 0).length := by rw [HIC.out.hl]; exact hlt2
          have HE : Hid ((xs ++ List.replicate (g' + 1) 0).set m x = (xs ++ [x]) ++ List.replicate g' 0) := by unfold Hid; rw [← HX.out]; exact set_next xs g' x
          have HIS := hidZ (HIC.out.set (k := 1 + m) (u := .int .i64 (x : Int)) (by omega) (imgC_setk _ _ _ m x hml) (by rw [List.length_set]; exact HIC.out.hl))
          have HNS := hidZ (HNC.out.set (g := w.heap.size + 1) (k := 1 + m) (by omega) (.int .i64 (x : Int)))
          have cm := HIC.out.cell (imgC_k _ _ _ m hml)
          have fm := HIC.out.fz (k := 1 + m) (by omega)
          rw [HE.out] at HIS
          generalize (xs ++ List.replicate (g' + 1) 0)[m] = old at *
          clear HIC HNC hml HE
          have hmI : (0 : Int) ≤ (m : Int) ∧ (m : Int) < 256 := by omega
          go_wp2
          go_roundg g'
          case measure => omega
          case rel => exact ⟨xs ++ [x], m + 1, r2, by go_num, by simp [HX.out], by omega, ha, HQ2.out, HIS.out, HNS.out⟩
        · have e : gk = 0 := by omega
          subst e
          have HE : Hid (lClassOf s = xs ∧ lh8 s = r') := by
            have e1 : numsP s x6 256 [] (lh7 s) = (xs, r') := HQ.out
            have e2 : lClasses s - 1 = x6 := by rw [ECL.out, EX.out]
            unfold Hid lClassOf lh8
            rw [e2, e1]; exact ⟨rfl, rfl⟩
          have HID := HIB
          rw [List.replicate_zero, List.append_nil] at HID
          have hd2 : decide ((m : Int) < 256) = false := by simp; omega
          clear HIB HQ hmg
          go_wp2_with fail
          go_loopg [10] mn (fun gk _ wr => ∃ (ys : List CondG) (vc : Value) (j : Nat) (r2 : LSt), ys.length = j ∧ j + gk = mn ∧ r2.1 ≤ s.size ∧
            condsP s k cl mn [] r' = condsP s k cl gk (ys.map (fun y => y.2.map (·.1))) r2 ∧ IW w wr rb s r2 (.slice (some ⟨bb, 0, none⟩) k k) xs vc ∧ NatsIn wr (w.heap.size + 2) bb L ∧
            wr.ownsRow (bb + 1) 143 1 vc j (condC ys) ∧ CondsIn wr cl bb vc ys)
          case atStart => exact ⟨[], .slice none 0 0, 0, r', rfl, by omega, hr', rfl, HID.out, HNB.out, World.ownsRow_nil _ _ _ _, fun y hy => absurd hy (List.not_mem_nil)⟩
          case round =>
            obtain ⟨ys, vc, j, r2, hyl, hjg, hr2, heq, hiw, hnw, how, hcw⟩ := hrel
            have HQ := hidZ heq
            have HIW := hidZ hiw
            have HNW := hidZ hnw
            have HOW := hidZ how
            have HCW := hidZ hcw
            have HY := hidZ hyl
            clear heq hiw hnw how hcw hyl HID HNB
            obtain ⟨va, vcap, hvc⟩ := rowSlice HOW.out
            subst hvc
            by_cases hlt3 : j < mn
            · obtain ⟨g', rfl⟩ : ∃ g', gk = g' + 1 := ⟨gk - 1, by omega⟩
              have HQ2 : Hid (condsP s k cl mn [] r' = condsP s k cl g' (ys.map (fun y => y.2.map (·.1)) ++ [(condP s k cl r2).1]) (condP s k cl r2).2) := HQ.out
              have hc := lcond_any s r2 k cl rb wr hs hcb HIW.out.rd hr2
              have ha := condP_at (ru := k) (cl := cl) hr2
              generalize condP s k cl r2 = N at *
              obtain ⟨zl, r3⟩ := N
              simp only at *
              have hd3 : decide ((j : Int) < (mn : Int)) = true := by simp; omega
              have c257 := HIW.out.cell (imgC_257 _ _ _ HIW.out.hl)
              go_wp2_with fail
              refine hc.mono ?_
              rintro e w9 ⟨B, zs, hB, rfl, hzm, how9, hst9, hg9, hl9⟩
              have HI9 := hidZ (HIW.out.step hg9 hl9)
              have HN9 := hidZ (HNW.out.grown hg9 (by omega))
              have HO9 : Hid (w9.ownsRow (bb + 1) 143 1 (.slice va j vcap) j (condC ys)) := hidZ (HOW.out.kept hg9 (by
                cases hv : (Value.slice va j vcap).ownBlock with
                | none => exact .inl rfl
                | some q => right; have := (HOW.out.lt q hv).1; intro e; injection e; omega))
              have hbw : bb < wr.heap.size := HNW.out.2.1
              have HC9 : Hid (CondsIn w9 cl bb (.slice va j vcap) (ys ++ [(B, zs)])) := hidZ ((HCW.out.move hg9 (fun q hq => by injection hq; left; omega) (fun q _ hq => hq)).snoc ⟨⟨(how9.lt B rfl).2, by
                  intro i u hu
                  have := how9.cells rfl i u hu
                  by_cases hi : i = 0
                  · subst hi; simpa [Addr.add] using this
                  · simpa [Addr.add, hi] using this, fun z hz => ⟨(hst9 z hz).2.1, (hst9 z hz).2.2⟩⟩, fun q hq => by
                  have hq' : B ≤ q := by
                    rcases hq with rfl | ⟨z, hz, rfl⟩
                    · exact Nat.le_refl _
                    · have := (hst9 z hz).1; omega
                  refine ⟨by omega, fun e => ?_⟩
                  have := (HOW.out.lt q e).2
                  omega⟩)
              have HZ := hidZ hzm
              clear hg9 hl9 how9 hst9 hzm HIW HNW HOW HCW hc HQ c257
              have c257 := HI9.out.cell (imgC_257 _ _ _ HI9.out.hl)
              have hz9 : wr.heap.size ≤ w9.heap.size := by have := HC9.out (B, zs) (List.mem_append.2 (.inr (List.mem_singleton.2 rfl))); have := this.1.lt; simp only at this; omega
              go_wp2_with (first | (at_builtin; refine wpList_app1 w9 rfl (.tmp 65) (.tmp 67) 73 rfl (bb + 1) 143 (.slice none 0 0) 1 24 Try.underlying73 Try.infoConds rfl (by decide) (by decide) _ j (condC ys) [.slice (some ⟨B, 0, none⟩) zs.length zs.length] _ rfl HO9.out _ rfl rfl rfl (by simp [Value.oneCell']) (by omega) (by omega) ?_; intro ga capa wa howa hga hata hlta; have HIA := hidZ ((HI9.out.other (World.grownBy_alloc w9 _ none) (fun q hq => by cases hq)).other hga (fun q hq => by have := (HO9.out.lt q hq).1; omega)); have d257 := HIA.out.cell (imgC_257 _ _ _ HIA.out.hl); have f257 := HIA.out.fz (k := 257) (by omega); clear c257))
              have hnc : ∀ q, q < (w9.alloc (.cells #[.slice (some ⟨B, 0, none⟩) zs.length zs.length] 143)).heap.size → (Value.slice (some ⟨ga, 0, none⟩) (j + 1) capa).ownBlock = some q → (Value.slice va j vcap).ownBlock = some q := fun q hq e => by
                have e' : ga = q := by simpa [Value.ownBlock] using e
                subst e'
                rcases hata with h1 | h1
                · exact h1
                · simp at hq; omega
              go_roundg g'
              case measure => omega
              case rel =>
                refine ⟨ys ++ [(B, zs)], .slice (some ⟨ga, 0, none⟩) (j + 1) capa, j + 1, r3, by simp [HY.out], by omega, ha, ?_, ?_, ?_, ?_, ?_⟩
                · rw [List.map_append, List.map_singleton]; simp only; rw [HZ.out]; exact HQ2.out
                · exact HIA.out.set (k := 257) (by omega) (imgC_set257 _ _ _ _ HIA.out.hl) HIA.out.hl
                · refine NatsIn.set ((HN9.out.grown (g := w.heap.size) (World.grownBy_alloc w9 _ _) (by omega)).block hga.size (hga.block bb (by simp; have := HN9.out.2.1; omega) (fun e => ?_))) (by omega) _
                  have := (HO9.out.lt bb e.symm).1
                  omega
                · rw [condC_snoc]; exact ownsRow_setCell_below howa (by show w.heap.size + 1 < bb + 1; omega) _
                · exact CondsIn.set ((HC9.out.move (World.grownBy_alloc w9 _ none) (fun q hq => by cases hq) (fun q _ hq => hq)).move hga (fun q hq => .inr hq) hnc) (by omega) _
            · have e : gk = 0 := by omega
              subst e
              have HE9 : Hid (lConds s = ys.map (fun y => y.2.map (·.1)) ∧ lh9 s = r2) := by
                have e1 : condsP s k cl mn [] r' = (ys.map (fun y => y.2.map (·.1)), r2) := HQ.out
                unfold Hid lConds lh9
                rw [ERU.out, ECL.out, EMN.out, HE.out.2, e1]; exact ⟨rfl, rfl⟩
              have c257 := HIW.out.cell (imgC_257 _ _ _ HIW.out.hl)
              have hd3 : decide ((j : Int) < (mn : Int)) = false := by simp; omega
              have HONE := hidZ (imgC_one (vb := .slice (some ⟨bb, 0, none⟩) k k) (vc := .slice va j vcap) (cs := xs) rfl rfl)
              have HLEN := hidZ (imgC_len (.slice (some ⟨bb, 0, none⟩) k k) xs (.slice va j vcap) HIW.out.hl)
              obtain ⟨IL, EIL⟩ : ∃ l, imgC (.slice (some ⟨bb, 0, none⟩) k k) xs (.slice va j vcap) = l := ⟨_, rfl⟩
              have HIM : Hid (wr.rangeAt (w.heap.size + 1) 0 IL) := by rw [← EIL]; exact HIW.out.im
              rw [EIL] at HONE HLEN
              replace EIL := hidZ EIL
              have HSZ : Hid (IL.toArray.size = 258) := by unfold Hid; simpa using HLEN.out
              go_wp2_with (first | (refine wpList_load_mid rfl 75 (.tmp 3) rfl (w.heap.size + 1) 0 rfl IL _ HIM.out Try.underlying75 rfl ?_ ?_; (rw [HLEN.out]; exact Try.imgSize)) | (refine wpList_store_mid rfl 75 (.tmp 2) (.tmp 70) rfl w.heap.size 0 IL.toArray rfl rfl ?_ ?_ (all_oneCell_toArray HONE.out) ?_; (rw [HSZ.out]; exact HIW.out.t0); (rw [HSZ.out]; exact Try.imgSize)))
              have HT0 : Hid (wr.there w.heap.size 0 IL.length) := by unfold Hid; rw [HLEN.out]; exact HIW.out.t0
              refine ret_cell1 Try.results57 w.heap.size 0 IL _ rfl ?_ Try.underlying75 rfl (by rw [HLEN.out]; exact Try.imgSize) rfl ?_
              · exact World.rangeAt_setCells_same _ _ _ _ HT0.out
              · have hbs := below_setCells IL 0 wr w.heap.size (Below.refl w.heap.size _) (Nat.le_refl _)
                have hyl := HY.out
                refine ⟨bb, .slice va j vcap, ys, ?_, ?_, ?_, HE9.out.1.symm, fun y hy => ?_, ?_, ?_⟩
                · rw [ERU.out, HE.out.1, EIL.out]
                · rw [EL.out]; exact HNW.out.block hbs.size (setCells_block wr w.heap.size 0 IL bb (by omega))
                · rw [hyl]; exact ownsRow_setCells_below HOW.out (by omega) IL 0
                · rw [ECL.out]
                  obtain ⟨h1, h2⟩ := HCW.out y hy
                  exact ⟨h1.block hbs.size (fun q _ ho => setCells_block wr w.heap.size 0 IL q (by have := (h2 q ho).1; omega)), fun q ho => (h2 q ho).1⟩
                · exact grown_setCells HIW.out.g _ _ _ (Nat.le_refl _)
                · rw [HE9.out.2]; exact HIW.out.rd.below hbs hrb
end Go.Proofs.Ytgjgjgihceijnaa

namespace Go.Proofs.Ytgjgjgihceijnaa
open Go.RowKit Go.Stn

end Go.Proofs.Ytgjgjgihceijnaa

namespace Go.Proofs.Ytgjgjgihceijnaa
open Go.RowKit Go.Stn

/-- What Check answers. -/
def chk (s : ByteArray) : Int := if 120000 < s.size then 1 else if imgOk s = true then 0 else 5

end Go.Proofs.Ytgjgjgihceijnaa

