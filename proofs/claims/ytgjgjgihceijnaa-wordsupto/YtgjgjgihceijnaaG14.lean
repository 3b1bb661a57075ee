/- Texts put together: PlToken, StWk, StAdd, StTo, CuTell. -/
import Derived.Test.YtgjgjgihceijnaaG13
import Derived.Test.YtgjgjgihceijnaaG09
import Derived.Test.YtgjgjgihceijnaaG07
import Derived.Deep.RegionLaw
namespace Go.Stn
/-- The first rule, and 1, whose last places meet the places; 0, if there is none. -/
def tokL : List Int → Int → Nat → Nat
  | [], _, _ => 0
  | a :: r, pl, k => if andI pl a = 0 then tokL r pl (k + 1) else k + 1
def tokP (l : List Int) (pl : Int) : Nat := tokL l pl 0
theorem tokL_step {l : List Int} {a : Int} {k : Nat} (h : l[k]? = some a) (pl : Int) (m : Nat) : tokL (l.drop k) pl m = if andI pl a = 0 then tokL (l.drop (k + 1)) pl (m + 1) else m + 1 := by
  have e : l.drop k = a :: l.drop (k + 1) := by
    obtain ⟨hk, he⟩ := List.getElem?_eq_some_iff.1 h
    rw [List.drop_eq_getElem_cons hk, he]
  rw [e, tokL]
end Go.Stn
namespace Go.Proofs.Ytgjgjgihceijnaa
open Go.RowKit Go.Stn

set_option maxRecDepth 100000 in
theorem ptoken_any (l : List Int) (v : Value) (pl : Int) (nb : Nat) (vf : Value) (next : Nat → Int) (w : World) (hl : l.length ≤ 1000000) (h : NetAt w nb vf v next) (hr : Row1 w v l) :
    Calls Try.prog 120 #[.pointer (some ⟨nb, 0, none⟩), .int .i64 pl] w fun e w' => w' = w ∧ e = .returned (.int .i64 (tokP l pl : Int)) := by
  have c1 := h.c1
  clear h
  rcases hr.sh with ⟨rfl, rfl⟩ | ⟨g, cap, rfl, h1, h2, hcells⟩
  · go_enter Try.func120, Try.ntmps120
    go_wp2_with fail
    go_loop [12] (fun i => i = .int .i64 0) (fun _ => 0)
    case atStart => rfl
    case round =>
      subst hrel
      go_wp2
      go_ret
      exact ⟨rfl, rfl⟩
  · have HC := hidK hcells
    clear hcells hr
    go_enter Try.func120, Try.ntmps120
    go_wp2_with fail
    go_loop [12] (fun i => ∃ k : Nat, k ≤ l.length ∧ i = .int .i64 (k : Int) ∧ tokL (l.drop k) pl k = tokP l pl) (fun i => l.length - (intOf i).toNat)
    case atStart => exact ⟨0, Nat.zero_le _, rfl, by simp [tokP]⟩
    case round =>
      obtain ⟨k, hk, rfl, hall⟩ := hrel
      have HA := hidK hall
      clear hall
      by_cases hlt : k < l.length
      · obtain ⟨a, hu⟩ : ∃ u, l[k]? = some u := ⟨_, List.getElem?_eq_getElem hlt⟩
        have k0 := HC.out k _ hu
        have HS := hidK (tokL_step hu pl k)
        by_cases he : andI pl a = 0
        · have HN : Hid (tokL (l.drop (k + 1)) pl (k + 1) = tokP l pl) := by unfold Hid; rw [← HA.out, HS.out, if_pos he]
          have hb : (bits .and .i64 pl a != 0) = false := by rw [show bits .and .i64 pl a = 0 from he]; rfl
          clear hu he
          go_wp2
          go_round
          case rel => exact ⟨k + 1, by omega, by simp, HN.out⟩
          case measure => simp [intOf]; omega
        · have HE : Hid (tokP l pl = k + 1) := by unfold Hid; rw [← HA.out, HS.out, if_neg he]
          have hb : (bits .and .i64 pl a != 0) = true := bne_iff_ne.2 he
          clear hu he
          go_wp2
          go_ret
          exact ⟨rfl, by rw [HE.out]; rfl⟩
      · have e : k = l.length := by omega
        have HE : Hid (tokP l pl = 0) := by unfold Hid; rw [← HA.out, e, List.drop_length]; rfl
        clear HA
        subst e
        go_wp2
        go_ret
        exact ⟨rfl, by rw [HE.out]; rfl⟩
end Go.Proofs.Ytgjgjgihceijnaa

namespace Go.Stn
open Go.RowKit
/-- States on the way: the token, and the list of where each group leads. -/
def enC (E : List (Nat × Value)) : List Value := E.flatMap fun e => [Value.int .i64 (e.1 : Int), e.2]
theorem enC_snoc (E : List (Nat × Value)) (e : Nat × Value) : enC (E ++ [e]) = enC E ++ [Value.int .i64 (e.1 : Int), e.2] := by simp [enC]
def netA (vf vl : Value) (next : Nat → Int) : Array Value := #[vf, vl, .int .i64 (next 0), .int .i64 (next 1), .int .i64 (next 2), .int .i64 (next 3), .int .i64 (next 4), .int .i64 (next 5), .int .i64 (next 6), .int .i64 (next 7), .int .i64 (next 8), .int .i64 (next 9)]
theorem Row1.below {w w' : World} {v : Value} {l : List Int} {B : Nat} (h : Row1 w v l) (hB : Below B w w') (hb : ∀ k, v.ownBlock = some k → k < B) : Row1 w' v l := by
  refine ⟨?_⟩
  rcases h.sh with h1 | ⟨g, cap, rfl, h2, h3, h4⟩
  · exact .inl h1
  · exact .inr ⟨g, cap, rfl, h2, h3, fun k x hk => (hB.cell (p := ⟨g, k, none⟩) (hb g rfl)).trans (h4 k x hk)⟩
end Go.Stn
namespace Go.Proofs.Ytgjgjgihceijnaa
open Go.RowKit Go.Stn

theorem NetAt.box (w : World) (vf vl : Value) (next : Nat → Int) (ty : TypeId) (B : Nat) (hB : B = w.heap.size) : NetAt (w.alloc (.cells (netA vf vl next) ty)) B vf vl next := by
  have hc : ∀ i v, (netA vf vl next)[i]? = some v → (w.alloc (.cells (netA vf vl next) ty)).cell? ⟨B, i, none⟩ = some v := fun i v h => (World.cell?_alloc_at _ _ B i hB).trans h
  refine ⟨hc 0 _ rfl, hc 1 _ rfl, fun k hk => ?_, fun i => World.frozen?_alloc_at _ _ B i hB⟩
  have : k = 0 ∨ k = 1 ∨ k = 2 ∨ k = 3 ∨ k = 4 ∨ k = 5 ∨ k = 6 ∨ k = 7 ∨ k = 8 ∨ k = 9 := by omega
  rcases this with rfl | rfl | rfl | rfl | rfl | rfl | rfl | rfl | rfl | rfl <;> exact hc _ _ rfl

/-- A walk in memory. -/
structure WK (w : World) (wb : Nat) (num : Nat → Int) (S : List Int) (E : List (Nat × Value)) (vs vst : Value) : Prop where
  c0 : w.cell? ⟨wb, 0, none⟩ = some vs
  nm : ∀ x, x < 1024 → w.cell? ⟨wb, 1 + x, none⟩ = some (.int .i64 (num x))
  c2 : w.cell? ⟨wb, 1025, none⟩ = some vst
  fz : ∀ i, w.frozen? ⟨wb, i, none⟩ = false
  rs : w.ownsRow (wb + 1) 136 1 vs S.length (intC S)
  rt : w.ownsRow (wb + 1) 153 2 vst E.length (enC E)
  ap : ∀ k, vs.ownBlock = some k → vst.ownBlock = some k → False
  hb : wb < w.heap.size

/-- What a step of the walk may turn. -/
structure FW (w w' : World) (wb : Nat) (vs vst vs' vst' : Value) : Prop where
  os : w'.os = w.os
  tape : w'.tape = w.tape
  output : w'.output = w.output
  size : w.heap.size ≤ w'.heap.size
  block : ∀ k, k < w.heap.size → k ≠ wb → vs.ownBlock ≠ some k → vst.ownBlock ≠ some k → w'.heap[k]? = w.heap[k]?
  s1 : ∀ k, k < w.heap.size → vs'.ownBlock = some k → vs.ownBlock = some k
  s2 : ∀ k, k < w.heap.size → vst'.ownBlock = some k → vst.ownBlock = some k
theorem FW.trans {a b c : World} {wb : Nat} {v1 t1 v2 t2 v3 t3 : Value} (h : FW a b wb v1 t1 v2 t2) (k : FW b c wb v2 t2 v3 t3) : FW a c wb v1 t1 v3 t3 :=
  ⟨k.os.trans h.os, k.tape.trans h.tape, k.output.trans h.output, Nat.le_trans h.size k.size,
    fun i hi h1 h2 h3 => (k.block i (Nat.lt_of_lt_of_le hi h.size) h1 (fun e => h2 (h.s1 i hi e)) (fun e => h3 (h.s2 i hi e))).trans (h.block i hi h1 h2 h3),
    fun i hi e => h.s1 i hi (k.s1 i (Nat.lt_of_lt_of_le hi h.size) e), fun i hi e => h.s2 i hi (k.s2 i (Nat.lt_of_lt_of_le hi h.size) e)⟩
theorem FW.below {a b : World} {wb : Nat} {v1 t1 v2 t2 : Value} {num : Nat → Int} {S : List Int} {E : List (Nat × Value)} (h : FW a b wb v1 t1 v2 t2) (hw : WK a wb num S E v1 t1) : Below wb a b :=
  ⟨h.os, h.tape, h.output, h.size, fun k hk => h.block k (by have := hw.hb; omega) (by omega) (fun e => by have := (hw.rs.lt k e).1; omega) (fun e => by have := (hw.rt.lt k e).1; omega)⟩
theorem FW.of_below {a b : World} {wb : Nat} {v t : Value} (h : Below a.heap.size a b) : FW a b wb v t v t := ⟨h.os, h.tape, h.output, h.size, fun k hk _ _ _ => h.block k hk, fun _ _ e => e, fun _ _ e => e⟩

variable {w w' : World} {wb : Nat} {num : Nat → Int} {S : List Int} {E : List (Nat × Value)} {vs vst : Value}

theorem WK.below (h : WK w wb num S E vs vst) (hB : Below w.heap.size w w') : WK w' wb num S E vs vst := by
  have cl : ∀ i, w'.cell? ⟨wb, i, none⟩ = w.cell? ⟨wb, i, none⟩ := fun i => hB.cell (p := ⟨wb, i, none⟩) h.hb
  exact ⟨(cl 0).trans h.c0, fun x hx => (cl _).trans (h.nm x hx), (cl _).trans h.c2, fun i => (hB.frozen (p := ⟨wb, i, none⟩) h.hb).trans (h.fz i), row_stay h.rs hB, row_stay h.rt hB, h.ap, Nat.lt_of_lt_of_le h.hb hB.size⟩
theorem WK.drewN (h : WK w wb num S E vs vst) (q : Nat) : WK (w.drewN q) wb num S E vs vst := ⟨h.c0, h.nm, h.c2, h.fz, h.rs, h.rt, h.ap, h.hb⟩

/-- A number is set. -/
theorem WK.setN (h : WK w wb num S E vs vst) (x : Nat) (hx : x < 1024) (y : Int) : WK (w.setCell ⟨wb, 1 + x, none⟩ (.int .i64 y)) wb (fun j => if j = x then y else num j) S E vs vst := by
  have o : ∀ j u, j ≠ 1 + x → w.cell? ⟨wb, j, none⟩ = some u → (w.setCell ⟨wb, 1 + x, none⟩ (.int .i64 y)).cell? ⟨wb, j, none⟩ = some u := fun j u hj hu => by
    rw [World.cell?_setCell_other (h := by intro e; injection e; omega)]; exact hu
  refine ⟨o 0 _ (by omega) h.c0, fun j hj => ?_, o _ _ (by omega) h.c2, fun i => by rw [World.frozen?_setCell]; exact h.fz i, ownsRow_setCell_below h.rs (Nat.lt_succ_self _) _, ownsRow_setCell_below h.rt (Nat.lt_succ_self _) _, h.ap, by have := h.hb; simp [World.setCell]; omega⟩
  by_cases e : j = x
  · subst e; rw [if_pos rfl]; exact World.cell?_setCell_same _ _ _ (h.nm j hj)
  · rw [if_neg e]; exact o _ _ (by omega) (h.nm j hj)
theorem FW.set (w : World) (wb i : Nat) (v : Value) (vs vst : Value) : FW w (w.setCell ⟨wb, i, none⟩ v) wb vs vst vs vst :=
  ⟨rfl, rfl, rfl, by simp [World.setCell], fun k _ h1 _ _ => Below.heap_setCell _ _ _ _ h1, fun _ _ e => e, fun _ _ e => e⟩

/-- A set more: an append, and the store. -/
theorem WK.moreS {w4 : World} (h : WK w wb num S E vs vst) {o : Obj} {x : Int} {g cap : Nat}
    (hown : w4.ownsRow (wb + 1) 136 1 (.slice (some ⟨g, 0, none⟩) (S.length + 1) cap) (S.length + 1) (intC S ++ [.int .i64 x]))
    (hgrow : (w.alloc o).grownBy w4 vs.ownBlock) (hat : vs.ownBlock = some g ∨ g = w.heap.size + 1) :
    WK (w4.setCell ⟨wb, 0, none⟩ (.slice (some ⟨g, 0, none⟩) (S.length + 1) cap)) wb num (S ++ [x]) E (.slice (some ⟨g, 0, none⟩) (S.length + 1) cap) vst ∧
    FW w (w4.setCell ⟨wb, 0, none⟩ (.slice (some ⟨g, 0, none⟩) (S.length + 1) cap)) wb vs vst (.slice (some ⟨g, 0, none⟩) (S.length + 1) cap) vst := by
  have b0 := h.hb
  have hsz := hgrow.size
  simp at hsz
  have blk : ∀ k, k < w.heap.size → vs.ownBlock ≠ some k → w4.heap[k]? = w.heap[k]? := fun k hk hv => (hgrow.block k (by simp; omega) (fun e => hv e.symm)).trans (Below.heap_alloc w o k hk)
  have nwb : vs.ownBlock ≠ some wb := fun e => by have := (h.rs.lt wb e).1; omega
  have cc : ∀ i, w4.cell? ⟨wb, i, none⟩ = w.cell? ⟨wb, i, none⟩ := fun i => World.cell?_of_block (w := w) (a := ⟨wb, i, none⟩) (blk wb b0 nwb)
  have cf : ∀ i, w4.frozen? ⟨wb, i, none⟩ = w.frozen? ⟨wb, i, none⟩ := fun i => World.frozen?_of_block (w := w) (a := ⟨wb, i, none⟩) (blk wb b0 nwb)
  have oc : ∀ j u, j ≠ 0 → w.cell? ⟨wb, j, none⟩ = some u → (w4.setCell ⟨wb, 0, none⟩ (.slice (some ⟨g, 0, none⟩) (S.length + 1) cap)).cell? ⟨wb, j, none⟩ = some u := fun j u hj hu => by
    rw [World.cell?_setCell_other (h := by intro e; injection e; omega), cc]; exact hu
  have own : ∀ k, (Value.slice (some ⟨g, 0, none⟩) (S.length + 1) cap).ownBlock = some k → g = k := fun k hk => by simpa [Value.ownBlock] using hk
  refine ⟨⟨World.cell?_setCell_same (u := vs) _ _ _ ((cc 0).trans h.c0), fun y hy => oc _ _ (by omega) (h.nm y hy), oc _ _ (by omega) h.c2, fun i => by rw [World.frozen?_setCell, cf]; exact h.fz i, ?_, ?_, fun k hk1 hk2 => ?_, by simp [World.setCell]; omega⟩,
    hgrow.os, hgrow.tape, hgrow.output, by simp [World.setCell]; omega, fun k hk h1 h2 _ => (Below.heap_setCell _ _ _ _ h1).trans (blk k hk h2), fun k hk e => ?_, fun _ _ e => e⟩
  · rw [intC_snoc, List.length_append]; exact ownsRow_setCell_below hown (Nat.lt_succ_self _) _
  · exact ownsRow_setCell_below (row_top h.rt (fun k hk => blk k (h.rt.lt k hk).2 (fun e => h.ap k e hk))) (Nat.lt_succ_self _) _
  · have e := own k hk1
    subst e
    rcases hat with h1 | h1
    · exact h.ap g h1 hk2
    · have := (h.rt.lt g hk2).2; omega
  · have e' := own k e
    subst e'
    rcases hat with h1 | h1
    · exact h1
    · omega

/-- A state more. -/
theorem WK.moreE {w4 : World} (h : WK w wb num S E vs vst) {o : Obj} {x : Nat} {g cap : Nat}
    (hown : w4.ownsRow (wb + 1) 153 2 (.slice (some ⟨g, 0, none⟩) (E.length + 1) cap) (E.length + 1) (enC E ++ [.int .i64 (x : Int), .slice none 0 0]))
    (hgrow : (w.alloc o).grownBy w4 vst.ownBlock) (hat : vst.ownBlock = some g ∨ g = w.heap.size + 1) :
    WK (w4.setCell ⟨wb, 1025, none⟩ (.slice (some ⟨g, 0, none⟩) (E.length + 1) cap)) wb num S (E ++ [(x, .slice none 0 0)]) vs (.slice (some ⟨g, 0, none⟩) (E.length + 1) cap) ∧
    FW w (w4.setCell ⟨wb, 1025, none⟩ (.slice (some ⟨g, 0, none⟩) (E.length + 1) cap)) wb vs vst vs (.slice (some ⟨g, 0, none⟩) (E.length + 1) cap) := by
  have b0 := h.hb
  have hsz := hgrow.size
  simp at hsz
  have blk : ∀ k, k < w.heap.size → vst.ownBlock ≠ some k → w4.heap[k]? = w.heap[k]? := fun k hk hv => (hgrow.block k (by simp; omega) (fun e => hv e.symm)).trans (Below.heap_alloc w o k hk)
  have nwb : vst.ownBlock ≠ some wb := fun e => by have := (h.rt.lt wb e).1; omega
  have cc : ∀ i, w4.cell? ⟨wb, i, none⟩ = w.cell? ⟨wb, i, none⟩ := fun i => World.cell?_of_block (w := w) (a := ⟨wb, i, none⟩) (blk wb b0 nwb)
  have cf : ∀ i, w4.frozen? ⟨wb, i, none⟩ = w.frozen? ⟨wb, i, none⟩ := fun i => World.frozen?_of_block (w := w) (a := ⟨wb, i, none⟩) (blk wb b0 nwb)
  have oc : ∀ j u, j ≠ 1025 → w.cell? ⟨wb, j, none⟩ = some u → (w4.setCell ⟨wb, 1025, none⟩ (.slice (some ⟨g, 0, none⟩) (E.length + 1) cap)).cell? ⟨wb, j, none⟩ = some u := fun j u hj hu => by
    rw [World.cell?_setCell_other (h := by intro e; injection e; omega), cc]; exact hu
  have own : ∀ k, (Value.slice (some ⟨g, 0, none⟩) (E.length + 1) cap).ownBlock = some k → g = k := fun k hk => by simpa [Value.ownBlock] using hk
  refine ⟨⟨oc _ _ (by omega) h.c0, fun y hy => oc _ _ (by omega) (h.nm y hy), World.cell?_setCell_same (u := vst) _ _ _ ((cc 1025).trans h.c2), fun i => by rw [World.frozen?_setCell, cf]; exact h.fz i, ?_, ?_, fun k hk1 hk2 => ?_, by simp [World.setCell]; omega⟩,
    hgrow.os, hgrow.tape, hgrow.output, by simp [World.setCell]; omega, fun k hk h1 _ h3 => (Below.heap_setCell _ _ _ _ h1).trans (blk k hk h3), fun _ _ e => e, fun k hk e => ?_⟩
  · exact ownsRow_setCell_below (row_top h.rs (fun k hk => blk k (h.rs.lt k hk).2 (fun e => h.ap k hk e))) (Nat.lt_succ_self _) _
  · rw [enC_snoc, List.length_append]; exact ownsRow_setCell_below hown (Nat.lt_succ_self _) _
  · have e := own k hk2
    subst e
    rcases hat with h1 | h1
    · exact h.ap g hk1 h1
    · have := (h.rs.lt g hk1).2; omega
  · have e' := own k e
    subst e'
    rcases hat with h1 | h1
    · exact h1
    · omega
end Go.Proofs.Ytgjgjgihceijnaa

namespace Go.Proofs.Ytgjgjgihceijnaa
open Go.RowKit Go.Stn

theorem Try.infoSet : (Try.prog.info? 136).map (fun i => (i.zero, i.size, i.bytes)) = some (some (.int .i64 0), 1, 8) := by kernel_rfl

/-- What add leaves. -/
def AddOut (w : World) (wb : Nat) (num : Nat → Int) (S : List Int) (E : List (Nat × Value)) (vs vst : Value) (w' : World) : Prop := ∃ vs' vst', WK w' wb num S E vs' vst' ∧ FW w w' wb vs vst vs' vst'

set_option maxRecDepth 100000 in
set_option maxHeartbeats 1000000 in
theorem sadd_any (wb : Nat) (num : Nat → Int) (S : List Int) (E : List (Nat × Value)) (vs vst vf vl : Value) (next : Nat → Int) (lasts : List Int) (x : Int) (w : World) (hS : S.length ≤ 2000) (hE : E.length ≤ 2000) (hl : lasts.length ≤ 1000000)
    (h : WK w wb num S E vs vst) (hr : Row1 w vl lasts) (hv : ∀ k, vl.ownBlock = some k → k < wb) :
    Calls Try.prog 92 #[.pointer (some ⟨wb, 0, none⟩), .agg (netA vf vl next), .int .i64 x] w fun e w' => e = .returned (.tuple #[]) ∧ AddOut w wb num (S ++ [x]) (E ++ [(tokP lasts x, .slice none 0 0)]) vs vst w' := by
  have hB0 : Below w.heap.size w (w.alloc (.cells (netA vf vl next) 141)) := (Below.refl _ _).alloc (Nat.le_refl _) _
  have HN0 := hidZ (NetAt.box w vf vl next 141 w.heap.size rfl)
  have HW0 := hidZ (h.below hB0)
  have HF0 : Hid (FW w (w.alloc (.cells (netA vf vl next) 141)) wb vs vst vs vst) := FW.of_below hB0
  have HR0 := hidZ (hr.below hB0 (fun k hk => by have := hv k hk; have := h.hb; omega))
  clear h hr hB0
  go_enter Try.func92, Try.ntmps92
  go_wp2_with (first | (refine wpList_boxTo rfl 141 (.tmp 1) rfl _ rfl w.heap.size rfl (netA vf vl next) rfl ?_) | fail)
  generalize w.alloc (.cells (netA vf vl next) 141) = W at *
  refine (ptoken_any lasts vl x w.heap.size vf next W hl HN0.out HR0.out).mono ?_
  rintro e w1 ⟨rfl, rfl⟩
  obtain ⟨tk, htk⟩ : ∃ tk, tokP lasts x = tk := ⟨_, rfl⟩
  rw [htk]
  replace htk := hidZ htk
  obtain ⟨va, vcap, hvs⟩ := rowSlice HW0.out.rs
  subst hvs
  obtain ⟨ta, tcap, hvt⟩ := rowSlice HW0.out.rt
  subst hvt
  have c0 := HW0.out.c0
  have f0 := HW0.out.fz 0
  have hbw := HW0.out.hb
  have hne : some wb ≠ (Value.slice va S.length vcap).ownBlock := fun e => by have := (HW0.out.rs.lt wb e.symm).1; omega
  go_upto_region 3 with (first | (at_builtin; refine wpList_app1 w1 rfl (.tmp 13) (.tmp 15) 87 rfl (wb + 1) 136 (.int .i64 0) 1 8 Try.underlying87 Try.infoSet rfl (by decide) (by decide) (.slice va S.length vcap) S.length (intC S) [.int .i64 x] _ rfl HW0.out.rs _ rfl rfl rfl (by simp [Value.oneCell']) (by omega) (by omega) ?_; intro g4 cap4 w4 hown4 hgrow4 hat4 hlt4; have m3 := ((grow_cell hgrow4 (k := wb) hbw hne).1 0).trans c0; have n3 := ((grow_cell hgrow4 (k := wb) hbw hne).2 0).trans f0; have HM := hidZ (HW0.out.moreS (x := x) hown4 hgrow4 hat4); clear c0 f0) | fail)
  have HW4 := hidZ HM.out.1
  have HF4 := hidZ (HF0.out.trans HM.out.2)
  generalize w4.setCell ⟨wb, 0, none⟩ (.slice (some ⟨g4, 0, none⟩) (S.length + 1) cap4) = w5 at *
  clear HM hown4 hgrow4 hat4 hlt4 m3 n3 hne HW0 HN0 HR0 HF0 hbw
  have c2 := HW4.out.c2
  have f2 := HW4.out.fz 1025
  have hbw := HW4.out.hb
  have hne : some wb ≠ (Value.slice ta E.length tcap).ownBlock := fun e => by have := (HW4.out.rt.lt wb e.symm).1; omega
  go_wp2_with (first | (at_builtin; refine wpList_app1 w5 rfl (.tmp 23) (.tmp 26) 143 rfl (wb + 1) 153 (.agg #[.int .i64 0, .slice none 0 0]) 2 32 Try.underlying143 Try.infoState rfl (by decide) (by decide) (.slice ta E.length tcap) E.length (enC E) [.int .i64 (tk : Int), .slice none 0 0] _ rfl HW4.out.rt _ rfl rfl rfl (by simp [Value.oneCell']) (by omega) (by omega) ?_; intro g6 cap6 w6 hown6 hgrow6 hat6 hlt6; have m6 := ((grow_cell hgrow6 (k := wb) hbw hne).1 1025).trans c2; have n6 := ((grow_cell hgrow6 (k := wb) hbw hne).2 1025).trans f2; have HM6 := hidZ (HW4.out.moreE (x := tk) hown6 hgrow6 hat6); clear c2 f2) | fail)
  go_end0
  refine ⟨rfl, _, _, ?_, HF4.out.trans HM6.out.2⟩
  rw [htk.out]; exact HM6.out.1
end Go.Proofs.Ytgjgjgihceijnaa

namespace Go.Stn
/-- The numbers tell where each set stands. -/
def numOk (num : Nat → Int) (S : List Int) : Prop := ∀ x : Nat, x < 1024 → num x = if (x : Int) ∈ S ∧ x ≠ 0 then ((findP S (x : Int) : Nat) : Int) else 0
/-- Sets come upon: the empty one first, each once, each a set of places. -/
structure setsOk (S : List Int) : Prop where
  zero : S[0]? = some 0
  nd : S.Nodup
  rg : ∀ x ∈ S, 0 ≤ x ∧ x < 1024
/-- Where a set leads; the sets that are known then. -/
def toP (S : List Int) (x : Int) : Int × List Int :=
  if x ≤ 0 ∨ 1024 ≤ x then (-1, S) else if x ∈ S then ((findP S x : Nat), S) else ((S.length : Nat), S ++ [x])
theorem findP_lt {S : List Int} {x : Int} (h : x ∈ S) : findP S x < S.length := by
  induction S with
  | nil => cases h
  | cons a r ih =>
    rw [findP]
    split
    · simp
    · rename_i hne
      rcases List.mem_cons.1 h with e | e
      · exact absurd e.symm hne
      · have := ih e; simp; omega
theorem findP_none {S : List Int} {x : Int} (h : ¬ x ∈ S) : findP S x = S.length := by
  induction S with
  | nil => rfl
  | cons a r ih =>
    rw [findP, if_neg (fun e => h (by rw [e]; exact List.mem_cons_self)), ih (fun e => h (List.mem_cons_of_mem _ e))]; rfl
theorem findP_get {S : List Int} {x : Int} (h : x ∈ S) : S[findP S x]? = some x := by
  induction S with
  | nil => cases h
  | cons a r ih =>
    rw [findP]
    split
    · rename_i e; rw [e]; rfl
    · rename_i hne
      rcases List.mem_cons.1 h with e | e
      · exact absurd e.symm hne
      · rw [List.getElem?_cons_succ]; exact ih e
theorem findP_app {S T : List Int} {x : Int} (h : x ∈ S) : findP (S ++ T) x = findP S x := by
  induction S with
  | nil => cases h
  | cons a r ih =>
    rw [List.cons_append, findP, findP]
    split
    · rfl
    · rename_i hne
      rcases List.mem_cons.1 h with e | e
      · exact absurd e.symm hne
      · rw [ih e]
theorem findP_end {S : List Int} {x : Int} (h : ¬ x ∈ S) : findP (S ++ [x]) x = S.length := by
  induction S with
  | nil => simp [findP]
  | cons a r ih =>
    rw [List.cons_append, findP, if_neg (fun e => h (by rw [e]; exact List.mem_cons_self)), ih (fun e => h (List.mem_cons_of_mem _ e))]; rfl
theorem find_pos {S : List Int} (hs : setsOk S) {x : Int} (h : x ∈ S) (h0 : x ≠ 0) : 0 < findP S x := by
  refine Nat.pos_of_ne_zero (fun e => ?_)
  have := findP_get h
  rw [e, hs.zero] at this
  injection this with this
  exact h0 this.symm
theorem num_zero {num : Nat → Int} {S : List Int} (hs : setsOk S) (hn : numOk num S) {x : Nat} (hx : x < 1024) (h0 : x ≠ 0) : num x = 0 ↔ ¬ (x : Int) ∈ S := by
  rw [hn x hx]
  by_cases h : (x : Int) ∈ S
  · rw [if_pos ⟨h, h0⟩]
    have := find_pos hs h (by omega)
    constructor
    · intro e; omega
    · intro e; exact absurd h e
  · rw [if_neg (fun q => h q.1)]; simp [h]
theorem numOk_more {num : Nat → Int} {S : List Int} (hn : numOk num S) {x : Nat} (hx0 : x ≠ 0) (h : ¬ (x : Int) ∈ S) : numOk (fun j => if j = x then (S.length : Int) else num j) (S ++ [(x : Int)]) := by
  intro y hy
  by_cases e : y = x
  · subst e
    simp only [if_pos]
    rw [if_pos ⟨by simp, hx0⟩, findP_end h]
  · simp only [if_neg e]
    rw [hn y hy]
    by_cases hm : (y : Int) ∈ S
    · by_cases h0 : y = 0
      · rw [if_neg (fun q => q.2 h0), if_neg (fun q => q.2 h0)]
      · rw [if_pos ⟨hm, h0⟩, if_pos ⟨by simp [hm], h0⟩, findP_app hm]
    · rw [if_neg (fun q => hm q.1), if_neg (fun q => by
        rcases List.mem_append.1 q.1 with h1 | h1
        · exact hm h1
        · simp at h1; omega)]
theorem setsOk_more {S : List Int} (hs : setsOk S) {x : Int} (h : ¬ x ∈ S) (h1 : 0 ≤ x) (h2 : x < 1024) : setsOk (S ++ [x]) := by
  refine ⟨?_, ?_, fun y hy => ?_⟩
  · have := hs.zero
    have hl : 0 < S.length := (List.getElem?_eq_some_iff.1 this).1
    rw [List.getElem?_append_left hl]; exact this
  · rw [List.nodup_append]
    refine ⟨hs.nd, by simp, fun a ha b hb e => ?_⟩
    rw [List.mem_singleton] at hb
    subst hb; subst e; exact h ha
  · rcases List.mem_append.1 hy with h3 | h3
    · exact hs.rg y h3
    · rw [List.mem_singleton] at h3; subst h3; exact ⟨h1, h2⟩
/-- There are no more than 1024. -/
theorem sets_len {S : List Int} (hs : setsOk S) : S.length ≤ 1024 := by
  refine pigeon 1024 S.length (fun i => (S.getD i 0).toNat) (fun i hi => ?_) (fun i j hi hj he => ?_)
  · have := hs.rg (S[i]) (List.getElem_mem hi)
    rw [List.getD_eq_getElem?_getD, List.getElem?_eq_getElem hi]
    simp only [Option.getD_some]
    omega
  · have h1 := hs.rg (S[i]) (List.getElem_mem hi)
    have h2 := hs.rg (S[j]) (List.getElem_mem hj)
    rw [List.getD_eq_getElem?_getD, List.getD_eq_getElem?_getD, List.getElem?_eq_getElem hi, List.getElem?_eq_getElem hj] at he
    simp only [Option.getD_some] at he
    have hp := List.pairwise_iff_getElem.1 hs.nd
    rcases Nat.lt_trichotomy i j with hlt | heq | hgt
    · exact absurd (by omega) (hp i j hi hj hlt)
    · exact heq
    · exact absurd (by omega) (hp j i hj hi hgt)
end Go.Stn
namespace Go.Proofs.Ytgjgjgihceijnaa
open Go.RowKit Go.Stn

theorem Try.netSize : (Try.prog.info? 141).map (·.size) = some 12 := by kernel_rfl
theorem fw_drew {a b : World} {wb : Nat} {v1 t1 v2 t2 : Value} (h : FW a b wb v1 t1 v2 t2) : FW a b.drew wb v1 t1 v2 t2 := ⟨h.os, h.tape, h.output, h.size, h.block, h.s1, h.s2⟩

/-- The states then. -/
def toE (lasts : List Int) (S : List Int) (E : List (Nat × Value)) (x : Int) : List (Nat × Value) := if x ≤ 0 ∨ 1024 ≤ x then E else if x ∈ S then E else E ++ [(tokP lasts x, .slice none 0 0)]
def ToOut (w : World) (wb : Nat) (lasts : List Int) (S : List Int) (E : List (Nat × Value)) (vs vst : Value) (x : Int) (w' : World) : Prop :=
  ∃ num' vs' vst', WK w' wb num' (toP S x).2 (toE lasts S E x) vs' vst' ∧ numOk num' (toP S x).2 ∧ FW w w' wb vs vst vs' vst'

set_option maxRecDepth 100000 in
set_option maxHeartbeats 1000000 in
theorem sto_any (wb : Nat) (num : Nat → Int) (S : List Int) (E : List (Nat × Value)) (vs vst vf vl : Value) (next : Nat → Int) (lasts : List Int) (x : Int) (w : World) (hS : setsOk S) (hN : numOk num S) (hE : E.length ≤ 2000) (hl : lasts.length ≤ 1000000)
    (h : WK w wb num S E vs vst) (hr : Row1 w vl lasts) (hv : ∀ k, vl.ownBlock = some k → k < wb) :
    Calls Try.prog 94 #[.pointer (some ⟨wb, 0, none⟩), .agg (netA vf vl next), .int .i64 x] w fun e w' => e = .returned (.int .i64 (toP S x).1) ∧ ToOut w wb lasts S E vs vst x w' := by
  have hB0 : Below w.heap.size w (w.alloc (.cells (netA vf vl next) 141)) := (Below.refl _ _).alloc (Nat.le_refl _) _
  have HRG : Hid ((w.alloc (.cells (netA vf vl next) 141)).rangeAt w.heap.size 0 (netA vf vl next).toList) := rangeAt_new w _ _
  have HW0 := hidZ (h.below hB0)
  have HF0 : Hid (FW w (w.alloc (.cells (netA vf vl next) 141)) wb vs vst vs vst) := FW.of_below hB0
  have HR0 := hidZ (hr.below hB0 (fun k hk => by have := hv k hk; have := h.hb; omega))
  have hSl := sets_len hS
  have hwz : wb < w.heap.size := h.hb
  clear h hr hB0
  by_cases hx : x ≤ 0 ∨ 1024 ≤ x
  · have HE : Hid (toP S x = (-1, S) ∧ toE lasts S E x = E) := ⟨by unfold toP; rw [if_pos hx], by unfold toE; rw [if_pos hx]⟩
    rcases (show x ≤ 0 ∨ (0 < x ∧ 1024 ≤ x) by omega) with h1 | ⟨h0, h1⟩
    · have hd1 : decide (x ≤ 0) = true := by simp; omega
      go_enter Try.func94, Try.ntmps94
      go_wp2_with (first | (refine wpList_boxTo rfl 141 (.tmp 1) rfl _ rfl w.heap.size rfl (netA vf vl next) rfl ?_) | fail)
      go_ret
      rw [HE.out.1]
      exact ⟨rfl, num, vs, vst, by rw [HE.out.1, HE.out.2]; exact HW0.out, by rw [HE.out.1]; exact hN, HF0.out⟩
    · have hd1 : decide (x ≤ 0) = false := by simp; omega
      have hd2 : decide ((1024 : Int) ≤ x) = true := by simp; omega
      go_enter Try.func94, Try.ntmps94
      go_wp2_with (first | (refine wpList_boxTo rfl 141 (.tmp 1) rfl _ rfl w.heap.size rfl (netA vf vl next) rfl ?_) | fail)
      go_ret
      rw [HE.out.1]
      exact ⟨rfl, num, vs, vst, by rw [HE.out.1, HE.out.2]; exact HW0.out, by rw [HE.out.1]; exact hN, HF0.out⟩
  · obtain ⟨k, rfl⟩ : ∃ k : Nat, x = (k : Int) := ⟨x.toNat, by omega⟩
    have hk1 : k < 1024 := by omega
    have hk0 : k ≠ 0 := by omega
    have hd1 : decide ((k : Int) ≤ 0) = false := by simp; omega
    have hd2 : decide ((1024 : Int) ≤ (k : Int)) = false := by simp; omega
    have hkI : (0 : Int) ≤ (k : Int) ∧ (k : Int) < 1024 := by omega
    have nk := HW0.out.nm k hk1
    by_cases hm : (k : Int) ∈ S
    · have HE : Hid (toP S (k : Int) = (((findP S (k : Int) : Nat) : Int), S) ∧ toE lasts S E (k : Int) = E) := ⟨by unfold toP; rw [if_neg hx, if_pos hm], by unfold toE; rw [if_neg hx, if_pos hm]⟩
      have hnk : num k = ((findP S (k : Int) : Nat) : Int) := by rw [hN k hk1, if_pos ⟨hm, hk0⟩]
      have hne : ((num k : Int) == 0) = false := by rw [beq_eq_false_iff_ne]; exact fun e => (num_zero hS hN hk1 hk0).1 e hm
      rw [← hnk] at HE
      have HN := hidZ hN
      generalize num k = nv at *
      clear hx hm hnk hS hN
      go_enter Try.func94, Try.ntmps94
      go_wp2_with (first | (refine wpList_boxTo rfl 141 (.tmp 1) rfl _ rfl w.heap.size rfl (netA vf vl next) rfl ?_) | fail)
      go_ret
      rw [HE.out.1]
      exact ⟨rfl, num, vs, vst, by rw [HE.out.1, HE.out.2]; exact HW0.out, by rw [HE.out.1]; exact HN.out, HF0.out⟩
    · have HE : Hid (toP S (k : Int) = (((S.length : Nat) : Int), S ++ [(k : Int)]) ∧ toE lasts S E (k : Int) = E ++ [(tokP lasts (k : Int), .slice none 0 0)]) := ⟨by unfold toP; rw [if_neg hx, if_neg hm], by unfold toE; rw [if_neg hx, if_neg hm]⟩
      have hnk : num k = 0 := (num_zero hS hN hk1 hk0).2 hm
      have HNM := hidZ (numOk_more hN hk0 hm)
      rw [hnk] at nk
      have c0 := HW0.out.c0
      obtain ⟨va, vcap, hvs⟩ := rowSlice HW0.out.rs
      subst hvs
      have fk := HW0.out.fz (1 + k)
      clear hx hm hnk hS hN
      go_enter Try.func94, Try.ntmps94
      go_wp2_with (first | (refine wpList_boxTo rfl 141 (.tmp 1) rfl _ rfl w.heap.size rfl (netA vf vl next) rfl ?_) | fail)
      generalize w.alloc (.cells (netA vf vl next) 141) = W at *
      go_region
      all_goals
        have HW1 := hidZ ((HW0.out.setN k hk1 (S.length : Int)).drewN 1)
        have HF1 : Hid (FW w (W.setCell ⟨wb, 1 + k, none⟩ (.int .i64 (S.length : Int))).drew wb (.slice va S.length vcap) vst (.slice va S.length vcap) vst) := HF0.out.trans (fw_drew (FW.set W wb (1 + k) _ _ _))
        have hb1 : Below wb W (W.setCell ⟨wb, 1 + k, none⟩ (.int .i64 (S.length : Int))).drew := ⟨rfl, rfl, rfl, by simp [World.setCell], fun j hj => Below.heap_setCell _ _ _ _ (by simp only; omega)⟩
        have HR1 := hidZ (HR0.out.below hb1 hv)
        have HG1 : Hid ((W.setCell ⟨wb, 1 + k, none⟩ (.int .i64 (S.length : Int))).drew.rangeAt w.heap.size 0 (netA vf vl next).toList) := rangeAt_block HRG.out (Below.heap_setCell _ _ _ _ (by simp only; omega))
        clear HW0 HF0 HR0 HRG nk fk c0 hb1
        have HWT : Hid (WK (W.setCell ⟨wb, 1 + k, none⟩ (.int .i64 (S.length : Int))).drew wb (fun j => if j = k then (S.length : Int) else num j) S E (.slice va S.length vcap) vst) := HW1
        clear HW1
        generalize (W.setCell ⟨wb, 1 + k, none⟩ (.int .i64 (S.length : Int))).drew = W1 at *
        go_wp2_with (first | (refine wpList_load_mid rfl 141 (.tmp 4) rfl w.heap.size 0 rfl (netA vf vl next).toList _ HG1.out Try.underlying141 rfl Try.netSize ?_) | fail)
        refine (sadd_any wb _ S E _ vst vf vl next lasts (k : Int) W1 (by omega) hE hl HWT.out HR1.out hv).mono ?_
        rintro e w2 ⟨rfl, vs2, vst2, hw2, hf2⟩
        have HW2 := hidZ hw2
        have HF2 := hidZ (HF1.out.trans hf2)
        have nk2 := hw2.nm k hk1
        rw [if_pos rfl] at nk2
        clear hw2 hf2
        go_wp2
        go_ret
        rw [HE.out.1]
        exact ⟨rfl, _, vs2, vst2, by rw [HE.out.1, HE.out.2]; exact HW2.out, by rw [HE.out.1]; exact HNM.out, HF2.out⟩
end Go.Proofs.Ytgjgjgihceijnaa

namespace Go.Proofs.Ytgjgjgihceijnaa
open Go.RowKit Go.Stn

theorem Try.infoToken : (Try.prog.info? 61).map (fun i => (i.zero, i.size, i.bytes)) = some (some (.agg #[.int .i64 0, .int .i64 0, .int .i64 0]), 3, 24) := by kernel_rfl

variable {w w' : World} {cb top : Nat} {s inp : ByteArray} {bb vg vcap : Nat} {yb : Nat → Nat} {zb : Nat → Nat → Nat} {vt : Value} {hg hcap : Nat} {hbk : Nat → Nat} {HT : Nat → Nat → Bool} {c p n : Nat} {T : List (Int × Int × Int)}

/-- A token more: an append, and the store. -/
theorem CW.told {W w4 : World} (h : CW W cb W.heap.size s inp bb vg vcap yb zb vt hg hcap hbk HT c p n T) {o : Obj} {x : Int × Int × Int} {g cap : Nat}
    (hown : w4.ownsRow (cb + 1) 61 3 (.slice (some ⟨g, 0, none⟩) (T.length + 1) cap) (T.length + 1) (cells3 T ++ [.int .i64 x.1, .int .i64 x.2.1, .int .i64 x.2.2]))
    (hgrow : (W.alloc o).grownBy w4 vt.ownBlock) (hat : vt.ownBlock = some g ∨ g = W.heap.size + 1) (hgl : g < w4.heap.size) :
    CW (w4.setCell ⟨cb, 262, none⟩ (.slice (some ⟨g, 0, none⟩) (T.length + 1) cap)) cb w4.heap.size s inp bb vg vcap yb zb (.slice (some ⟨g, 0, none⟩) (T.length + 1) cap) hg hcap hbk HT c p n (T ++ [x]) := by
  have b0 := h.b0
  have b1 := h.b1
  have hsz := hgrow.size
  simp at hsz
  have blk : ∀ k, k < W.heap.size → vt.ownBlock ≠ some k → w4.heap[k]? = W.heap[k]? := fun k hk hv => (hgrow.block k (by simp; omega) (fun e => hv e.symm)).trans (Below.heap_alloc W o k hk)
  have ncb : vt.ownBlock ≠ some cb := fun e => by have := (h.rt.lt cb e).1; omega
  have nlo : ∀ k, k < cb → vt.ownBlock ≠ some k := fun k hk e => by have := (h.rt.lt k e).1; omega
  have nhg : vt.ownBlock ≠ some hg := fun e => (h.bv hg e).2.1 rfl
  have nhb : ∀ j, j < iM s → vt.ownBlock ≠ some (hbk j) := fun j hj e => (h.bv _ e).2.2 j hj rfl
  have bel : Below cb W w4 := ⟨hgrow.os, hgrow.tape, hgrow.output, by omega, fun k hk => blk k (by omega) (nlo k hk)⟩
  have cc : ∀ i, w4.cell? ⟨cb, i, none⟩ = W.cell? ⟨cb, i, none⟩ := fun i => World.cell?_of_block (w := W) (a := ⟨cb, i, none⟩) (blk cb b0 ncb)
  have cf : ∀ i, w4.frozen? ⟨cb, i, none⟩ = W.frozen? ⟨cb, i, none⟩ := fun i => World.frozen?_of_block (w := W) (a := ⟨cb, i, none⟩) (blk cb b0 ncb)
  have ch : ∀ i, w4.cell? ⟨hg, i, none⟩ = W.cell? ⟨hg, i, none⟩ := fun i => World.cell?_of_block (w := W) (a := ⟨hg, i, none⟩) (blk hg b1.2 nhg)
  have ct : ∀ j i, j < iM s → w4.cell? ⟨hbk j, i, none⟩ = W.cell? ⟨hbk j, i, none⟩ := fun j i hj => World.cell?_of_block (w := W) (a := ⟨hbk j, i, none⟩) (blk _ (h.b2 j hj).2.1 (nhb j hj))
  have ctf : ∀ j i, j < iM s → w4.frozen? ⟨hbk j, i, none⟩ = W.frozen? ⟨hbk j, i, none⟩ := fun j i hj => World.frozen?_of_block (w := W) (a := ⟨hbk j, i, none⟩) (blk _ (h.b2 j hj).2.1 (nhb j hj))
  have hlen : ∀ j u, (imgC (.slice (some ⟨bb, 0, none⟩) (iR s) (iR s)) (lClassOf s) (.slice (some ⟨vg, 0, none⟩) (iM s) vcap))[j]? = some u → j < 258 := fun j u hu => by
    have := (List.getElem?_eq_some_iff.1 hu).1
    rw [imgC_len _ _ _ (by unfold lClassOf; rw [numsP_len]; rfl)] at this; exact this
  have oc : ∀ j u, j ≠ 262 → W.cell? ⟨cb, j, none⟩ = some u → (w4.setCell ⟨cb, 262, none⟩ (.slice (some ⟨g, 0, none⟩) (T.length + 1) cap)).cell? ⟨cb, j, none⟩ = some u := fun j u hj hu => by
    rw [World.cell?_setCell_other (h := by intro e; injection e; omega), cc]; exact hu
  refine ⟨(h.mem.below bel (Nat.le_refl _)).below (below_cell (Nat.le_refl _)) (Nat.le_refl _), fun j u hu => oc _ _ (by have := hlen j u hu; omega) (h.im j u hu), oc _ _ (by omega) h.k1, oc _ _ (by omega) h.k2, oc _ _ (by omega) h.k3, oc _ _ (by omega) h.k4,
    World.cell?_setCell_same (u := vt) _ _ _ ((cc 262).trans h.k5), oc _ _ (by omega) h.k6, fun i => by rw [World.frozen?_setCell, cf]; exact h.fz i, ?_, fun j hj => ?_, fun j k hj hk => ⟨?_, ?_⟩, by omega, ⟨b1.1, by omega⟩, fun j hj => ?_, h.bi, fun k hk => ?_, by simp [World.setCell]⟩
  · rw [show (T ++ [x]).length = T.length + 1 by simp, show cells3 (T ++ [x]) = cells3 T ++ [.int .i64 x.1, .int .i64 x.2.1, .int .i64 x.2.2] by simp [cells3]]
    exact ownsRow_setCell_below hown (Nat.lt_succ_self _) _
  · rw [World.cell?_setCell_other (h := by intro e; injection e; omega), ch]; exact h.hl j hj
  · rw [World.cell?_setCell_other (h := by intro e; injection e; have := h.b2 j hj; omega), ct j k hj]; exact (h.tb j k hj hk).1
  · rw [World.frozen?_setCell, ctf j k hj]; exact (h.tb j k hj hk).2
  · have := h.b2 j hj; exact ⟨this.1, by omega, this.2.2⟩
  · have e : g = k := by simpa [Value.ownBlock] using hk
    subst e
    rcases hat with h1 | h1
    · have := h.bv g h1; exact ⟨by omega, this.2⟩
    · exact ⟨by omega, by omega, fun j hj => by have := h.b2 j hj; omega⟩

theorem CW.drew (h : CW w cb top s inp bb vg vcap yb zb vt hg hcap hbk HT c p n T) : CW w.drew cb top s inp bb vg vcap yb zb vt hg hcap hbk HT c p n T := h.drewN 1

set_option maxRecDepth 100000 in
set_option maxHeartbeats 1000000 in
theorem ctell_any (s inp : ByteArray) (cb bb vg vcap : Nat) (yb : Nat → Nat) (zb : Nat → Nat → Nat) (vt : Value) (hg hcap : Nat) (hbk : Nat → Nat) (HT : Nat → Nat → Bool) (c p n : Nat) (T : List (Int × Int × Int)) (r q : Int) (w : World)
    (hT : T.length ≤ 100000) (h : CW w cb w.heap.size s inp bb vg vcap yb zb vt hg hcap hbk HT c p n T) :
    Calls Try.prog 69 #[.pointer (some ⟨cb, 0, none⟩), .int .i64 r, .int .i64 q] w fun e w' => e = .returned (.tuple #[]) ∧ Below cb w w' ∧
      ∃ vt', CW w' cb w'.heap.size s inp bb vg vcap yb zb vt' hg hcap hbk HT c p n (T ++ [(r, (p : Int), q)]) := by
  have HC := hidZ h
  have k3 := h.k3
  have k5 := h.k5
  have f5 := h.fz 262
  obtain ⟨va, vc', hv⟩ := rowSlice h.rt
  subst hv
  have hb0 := h.b0
  clear h
  go_enter Try.func69, Try.ntmps69
  go_wp2_with fail
  have hcne : some cb ≠ (Value.slice va T.length vc').ownBlock := fun e => by have := (HC.out.rt.lt cb e.symm).1; omega
  go_region_law ((refine step_app1 w.drew rfl (.tmp 10) (.tmp 18) 38 rfl (cb + 1) 61 (.agg #[.int .i64 0, .int .i64 0, .int .i64 0]) 3 24 Try.underlying38 Try.infoToken rfl (by decide) (by decide) _ T.length (cells3 T) [.int .i64 r, .int .i64 (p : Int), .int .i64 q] _ (by simp [Act.eval]) HC.out.rt _ rfl (by simp [Act.eval]) rfl (by simp [Value.oneCell']) (by omega) (by show cb + 1 ≤ w.heap.size; omega) ?_; intro g4 cap4 w4 hown4 hgrow4 hat4 hlt4; have m3 := ((grow_cell hgrow4 (k := cb) (by show cb < w.heap.size; omega) hcne).1 262).trans k5; have n3 := ((grow_cell hgrow4 (k := cb) (by show cb < w.heap.size; omega) hcne).2 262).trans f5; have HM := hidZ (HC.out.drew.told (x := (r, (p : Int), q)) hown4 hgrow4 hat4 hlt4); have HBG : Hid (Below cb w w4) := (below_app (o := .cells #[.int .i64 r, .int .i64 (p : Int), .int .i64 q] 61) (_root_.Go.below_drewN (Below.refl cb w) 1) (by show cb ≤ w.heap.size; omega) HC.out.rt (Nat.le_succ _) hgrow4)))
  all_goals
    go_wp2
    go_end0
    exact ⟨rfl, HBG.out.setCell (p := ⟨cb, 262, none⟩) (Nat.le_refl _) _, _, HM.out.raise⟩
end Go.Proofs.Ytgjgjgihceijnaa

