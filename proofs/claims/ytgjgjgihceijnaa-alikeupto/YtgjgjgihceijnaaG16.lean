/- Texts put together: StTo, CuTell, CuPass, CuNew, CuTabs. -/
import Derived.Test.YtgjgjgihceijnaaG15
import Derived.Test.YtgjgjgihceijnaaG08
import Derived.Deep.RegionLaw
import Derived.Laws.Tables
import Derived.Great.BuildSlice
import Derived.Great.Ranges
/- (*states.walk).to: a walk. -/
namespace Go.Stn
/-- The numbers tell where each set stands. -/
def numOk (num : Nat → Int) (S : List Int) : Prop := ∀ x : Nat, x < 1024 → num x = if (x : Int) ∈ S ∧ x ≠ 0 then ((findP S (x : Int) : Nat) : Int) else 0
/-- Sets come upon: the empty one first, each once, each a set of places. -/
structure setsOk (S : List Int) : Prop where
  zero : S[0]? = some 0
  nd : S.Nodup
  rg : ∀ x ∈ S, 0 ≤ x ∧ x < 1024
/-- Where a set leads; the sets that are known then. -/
def toP (S : List Int) (x : Int) : Int × List Int :=
  if x ≤ 0 ∨ 1024 ≤ x then (-1, S) else if x ∈ S then ((findP S x : Nat), S) else ((S.length : Nat), S ++ [x])
theorem findP_lt {S : List Int} {x : Int} (h : x ∈ S) : findP S x < S.length := by
  induction S with
  | nil => cases h
  | cons a r ih =>
    rw [findP]
    split
    · simp
    · rename_i hne
      rcases List.mem_cons.1 h with e | e
      · exact absurd e.symm hne
      · have := ih e; simp; omega
theorem findP_none {S : List Int} {x : Int} (h : ¬ x ∈ S) : findP S x = S.length := by
  induction S with
  | nil => rfl
  | cons a r ih =>
    rw [findP, if_neg (fun e => h (by rw [e]; exact List.mem_cons_self)), ih (fun e => h (List.mem_cons_of_mem _ e))]; rfl
theorem findP_get {S : List Int} {x : Int} (h : x ∈ S) : S[findP S x]? = some x := by
  induction S with
  | nil => cases h
  | cons a r ih =>
    rw [findP]
    split
    · rename_i e; rw [e]; rfl
    · rename_i hne
      rcases List.mem_cons.1 h with e | e
      · exact absurd e.symm hne
      · rw [List.getElem?_cons_succ]; exact ih e
theorem findP_app {S T : List Int} {x : Int} (h : x ∈ S) : findP (S ++ T) x = findP S x := by
  induction S with
  | nil => cases h
  | cons a r ih =>
    rw [List.cons_append, findP, findP]
    split
    · rfl
    · rename_i hne
      rcases List.mem_cons.1 h with e | e
      · exact absurd e.symm hne
      · rw [ih e]
theorem findP_end {S : List Int} {x : Int} (h : ¬ x ∈ S) : findP (S ++ [x]) x = S.length := by
  induction S with
  | nil => simp [findP]
  | cons a r ih =>
    rw [List.cons_append, findP, if_neg (fun e => h (by rw [e]; exact List.mem_cons_self)), ih (fun e => h (List.mem_cons_of_mem _ e))]; rfl
theorem find_pos {S : List Int} (hs : setsOk S) {x : Int} (h : x ∈ S) (h0 : x ≠ 0) : 0 < findP S x := by
  refine Nat.pos_of_ne_zero (fun e => ?_)
  have := findP_get h
  rw [e, hs.zero] at this
  injection this with this
  exact h0 this.symm
theorem num_zero {num : Nat → Int} {S : List Int} (hs : setsOk S) (hn : numOk num S) {x : Nat} (hx : x < 1024) (h0 : x ≠ 0) : num x = 0 ↔ ¬ (x : Int) ∈ S := by
  rw [hn x hx]
  by_cases h : (x : Int) ∈ S
  · rw [if_pos ⟨h, h0⟩]
    have := find_pos hs h (by omega)
    constructor
    · intro e; omega
    · intro e; exact absurd h e
  · rw [if_neg (fun q => h q.1)]; simp [h]
theorem numOk_more {num : Nat → Int} {S : List Int} (hn : numOk num S) {x : Nat} (hx0 : x ≠ 0) (h : ¬ (x : Int) ∈ S) : numOk (fun j => if j = x then (S.length : Int) else num j) (S ++ [(x : Int)]) := by
  intro y hy
  by_cases e : y = x
  · subst e
    simp only [if_pos]
    rw [if_pos ⟨by simp, hx0⟩, findP_end h]
  · simp only [if_neg e]
    rw [hn y hy]
    by_cases hm : (y : Int) ∈ S
    · by_cases h0 : y = 0
      · rw [if_neg (fun q => q.2 h0), if_neg (fun q => q.2 h0)]
      · rw [if_pos ⟨hm, h0⟩, if_pos ⟨by simp [hm], h0⟩, findP_app hm]
    · rw [if_neg (fun q => hm q.1), if_neg (fun q => by
        rcases List.mem_append.1 q.1 with h1 | h1
        · exact hm h1
        · simp at h1; omega)]
theorem setsOk_more {S : List Int} (hs : setsOk S) {x : Int} (h : ¬ x ∈ S) (h1 : 0 ≤ x) (h2 : x < 1024) : setsOk (S ++ [x]) := by
  refine ⟨?_, ?_, fun y hy => ?_⟩
  · have := hs.zero
    have hl : 0 < S.length := (List.getElem?_eq_some_iff.1 this).1
    rw [List.getElem?_append_left hl]; exact this
  · rw [List.nodup_append]
    refine ⟨hs.nd, by simp, fun a ha b hb e => ?_⟩
    rw [List.mem_singleton] at hb
    subst hb; subst e; exact h ha
  · rcases List.mem_append.1 hy with h3 | h3
    · exact hs.rg y h3
    · rw [List.mem_singleton] at h3; subst h3; exact ⟨h1, h2⟩
/-- There are no more than 1024. -/
theorem sets_len {S : List Int} (hs : setsOk S) : S.length ≤ 1024 := by
  refine pigeon 1024 S.length (fun i => (S.getD i 0).toNat) (fun i hi => ?_) (fun i j hi hj he => ?_)
  · have := hs.rg (S[i]) (List.getElem_mem hi)
    rw [List.getD_eq_getElem?_getD, List.getElem?_eq_getElem hi]
    simp only [Option.getD_some]
    omega
  · have h1 := hs.rg (S[i]) (List.getElem_mem hi)
    have h2 := hs.rg (S[j]) (List.getElem_mem hj)
    rw [List.getD_eq_getElem?_getD, List.getD_eq_getElem?_getD, List.getElem?_eq_getElem hi, List.getElem?_eq_getElem hj] at he
    simp only [Option.getD_some] at he
    have hp := List.pairwise_iff_getElem.1 hs.nd
    rcases Nat.lt_trichotomy i j with hlt | heq | hgt
    · exact absurd (by omega) (hp i j hi hj hlt)
    · exact heq
    · exact absurd (by omega) (hp j i hj hi hgt)
end Go.Stn
namespace Go.Proofs.Ytgjgjgihceijnaa
open Go.RowKit Go.Stn

theorem Try.netSize : (Try.prog.info? 141).map (·.size) = some 12 := by kernel_rfl
theorem fw_drew {a b : World} {wb : Nat} {v1 t1 v2 t2 : Value} (h : FW a b wb v1 t1 v2 t2) : FW a b.drew wb v1 t1 v2 t2 := ⟨h.os, h.tape, h.output, h.size, h.block, h.s1, h.s2⟩

/-- The states then. -/
def toE (lasts : List Int) (S : List Int) (E : List (Nat × Value)) (x : Int) : List (Nat × Value) := if x ≤ 0 ∨ 1024 ≤ x then E else if x ∈ S then E else E ++ [(tokP lasts x, .slice none 0 0)]
def ToOut (w : World) (wb : Nat) (lasts : List Int) (S : List Int) (E : List (Nat × Value)) (vs vst : Value) (x : Int) (w' : World) : Prop :=
  ∃ num' vs' vst', WK w' wb num' (toP S x).2 (toE lasts S E x) vs' vst' ∧ numOk num' (toP S x).2 ∧ FW w w' wb vs vst vs' vst'

set_option maxRecDepth 100000 in
set_option maxHeartbeats 1000000 in
theorem sto_any (wb : Nat) (num : Nat → Int) (S : List Int) (E : List (Nat × Value)) (vs vst vf vl : Value) (next : Nat → Int) (lasts : List Int) (x : Int) (w : World) (hS : setsOk S) (hN : numOk num S) (hE : E.length ≤ 2000) (hl : lasts.length ≤ 1000000)
    (h : WK w wb num S E vs vst) (hr : Row1 w vl lasts) (hv : ∀ k, vl.ownBlock = some k → k < wb) :
    Calls Try.prog 94 #[.pointer (some ⟨wb, 0, none⟩), .agg (netA vf vl next), .int .i64 x] w fun e w' => e = .returned (.int .i64 (toP S x).1) ∧ ToOut w wb lasts S E vs vst x w' := by
  have hB0 : Below w.heap.size w (w.alloc (.cells (netA vf vl next) 141)) := (Below.refl _ _).alloc (Nat.le_refl _) _
  have HRG : Hid ((w.alloc (.cells (netA vf vl next) 141)).rangeAt w.heap.size 0 (netA vf vl next).toList) := rangeAt_new w _ _
  have HW0 := hidZ (h.below hB0)
  have HF0 : Hid (FW w (w.alloc (.cells (netA vf vl next) 141)) wb vs vst vs vst) := FW.of_below hB0
  have HR0 := hidZ (hr.below hB0 (fun k hk => by have := hv k hk; have := h.hb; omega))
  have hSl := sets_len hS
  have hwz : wb < w.heap.size := h.hb
  clear h hr hB0
  by_cases hx : x ≤ 0 ∨ 1024 ≤ x
  · have HE : Hid (toP S x = (-1, S) ∧ toE lasts S E x = E) := ⟨by unfold toP; rw [if_pos hx], by unfold toE; rw [if_pos hx]⟩
    rcases (show x ≤ 0 ∨ (0 < x ∧ 1024 ≤ x) by omega) with h1 | ⟨h0, h1⟩
    · have hd1 : decide (x ≤ 0) = true := by simp; omega
      go_enter Try.func94, Try.ntmps94
      go_wp2_with (first | (refine wpList_boxTo rfl 141 (.tmp 1) rfl _ rfl w.heap.size rfl (netA vf vl next) rfl ?_) | fail)
      go_ret
      rw [HE.out.1]
      exact ⟨rfl, num, vs, vst, by rw [HE.out.1, HE.out.2]; exact HW0.out, by rw [HE.out.1]; exact hN, HF0.out⟩
    · have hd1 : decide (x ≤ 0) = false := by simp; omega
      have hd2 : decide ((1024 : Int) ≤ x) = true := by simp; omega
      go_enter Try.func94, Try.ntmps94
      go_wp2_with (first | (refine wpList_boxTo rfl 141 (.tmp 1) rfl _ rfl w.heap.size rfl (netA vf vl next) rfl ?_) | fail)
      go_ret
      rw [HE.out.1]
      exact ⟨rfl, num, vs, vst, by rw [HE.out.1, HE.out.2]; exact HW0.out, by rw [HE.out.1]; exact hN, HF0.out⟩
  · obtain ⟨k, rfl⟩ : ∃ k : Nat, x = (k : Int) := ⟨x.toNat, by omega⟩
    have hk1 : k < 1024 := by omega
    have hk0 : k ≠ 0 := by omega
    have hd1 : decide ((k : Int) ≤ 0) = false := by simp; omega
    have hd2 : decide ((1024 : Int) ≤ (k : Int)) = false := by simp; omega
    have hkI : (0 : Int) ≤ (k : Int) ∧ (k : Int) < 1024 := by omega
    have nk := HW0.out.nm k hk1
    by_cases hm : (k : Int) ∈ S
    · have HE : Hid (toP S (k : Int) = (((findP S (k : Int) : Nat) : Int), S) ∧ toE lasts S E (k : Int) = E) := ⟨by unfold toP; rw [if_neg hx, if_pos hm], by unfold toE; rw [if_neg hx, if_pos hm]⟩
      have hnk : num k = ((findP S (k : Int) : Nat) : Int) := by rw [hN k hk1, if_pos ⟨hm, hk0⟩]
      have hne : ((num k : Int) == 0) = false := by rw [beq_eq_false_iff_ne]; exact fun e => (num_zero hS hN hk1 hk0).1 e hm
      rw [← hnk] at HE
      have HN := hidZ hN
      generalize num k = nv at *
      clear hx hm hnk hS hN
      go_enter Try.func94, Try.ntmps94
      go_wp2_with (first | (refine wpList_boxTo rfl 141 (.tmp 1) rfl _ rfl w.heap.size rfl (netA vf vl next) rfl ?_) | fail)
      go_ret
      rw [HE.out.1]
      exact ⟨rfl, num, vs, vst, by rw [HE.out.1, HE.out.2]; exact HW0.out, by rw [HE.out.1]; exact HN.out, HF0.out⟩
    · have HE : Hid (toP S (k : Int) = (((S.length : Nat) : Int), S ++ [(k : Int)]) ∧ toE lasts S E (k : Int) = E ++ [(tokP lasts (k : Int), .slice none 0 0)]) := ⟨by unfold toP; rw [if_neg hx, if_neg hm], by unfold toE; rw [if_neg hx, if_neg hm]⟩
      have hnk : num k = 0 := (num_zero hS hN hk1 hk0).2 hm
      have HNM := hidZ (numOk_more hN hk0 hm)
      rw [hnk] at nk
      have c0 := HW0.out.c0
      obtain ⟨va, vcap, hvs⟩ := rowSlice HW0.out.rs
      subst hvs
      have fk := HW0.out.fz (1 + k)
      clear hx hm hnk hS hN
      go_enter Try.func94, Try.ntmps94
      go_wp2_with (first | (refine wpList_boxTo rfl 141 (.tmp 1) rfl _ rfl w.heap.size rfl (netA vf vl next) rfl ?_) | fail)
      generalize w.alloc (.cells (netA vf vl next) 141) = W at *
      go_region
      all_goals
        have HW1 := hidZ ((HW0.out.setN k hk1 (S.length : Int)).drewN 1)
        have HF1 : Hid (FW w (W.setCell ⟨wb, 1 + k, none⟩ (.int .i64 (S.length : Int))).drew wb (.slice va S.length vcap) vst (.slice va S.length vcap) vst) := HF0.out.trans (fw_drew (FW.set W wb (1 + k) _ _ _))
        have hb1 : Below wb W (W.setCell ⟨wb, 1 + k, none⟩ (.int .i64 (S.length : Int))).drew := ⟨rfl, rfl, rfl, by simp [World.setCell], fun j hj => Below.heap_setCell _ _ _ _ (by simp only; omega)⟩
        have HR1 := hidZ (HR0.out.below hb1 hv)
        have HG1 : Hid ((W.setCell ⟨wb, 1 + k, none⟩ (.int .i64 (S.length : Int))).drew.rangeAt w.heap.size 0 (netA vf vl next).toList) := rangeAt_block HRG.out (Below.heap_setCell _ _ _ _ (by simp only; omega))
        clear HW0 HF0 HR0 HRG nk fk c0 hb1
        have HWT : Hid (WK (W.setCell ⟨wb, 1 + k, none⟩ (.int .i64 (S.length : Int))).drew wb (fun j => if j = k then (S.length : Int) else num j) S E (.slice va S.length vcap) vst) := HW1
        clear HW1
        generalize (W.setCell ⟨wb, 1 + k, none⟩ (.int .i64 (S.length : Int))).drew = W1 at *
        go_wp2_with (first | (refine wpList_load_mid rfl 141 (.tmp 4) rfl w.heap.size 0 rfl (netA vf vl next).toList _ HG1.out Try.underlying141 rfl Try.netSize ?_) | fail)
        refine (sadd_any wb _ S E _ vst vf vl next lasts (k : Int) W1 (by omega) hE hl HWT.out HR1.out hv).mono ?_
        rintro e w2 ⟨rfl, vs2, vst2, hw2, hf2⟩
        have HW2 := hidZ hw2
        have HF2 := hidZ (HF1.out.trans hf2)
        have nk2 := hw2.nm k hk1
        rw [if_pos rfl] at nk2
        clear hw2 hf2
        go_wp2
        go_ret
        rw [HE.out.1]
        exact ⟨rfl, _, vs2, vst2, by rw [HE.out.1, HE.out.2]; exact HW2.out, by rw [HE.out.1]; exact HNM.out, HF2.out⟩
end Go.Proofs.Ytgjgjgihceijnaa

/- (*cut.progress).tell: a walk. -/
namespace Go.Proofs.Ytgjgjgihceijnaa
open Go.RowKit Go.Stn

theorem Try.infoToken : (Try.prog.info? 61).map (fun i => (i.zero, i.size, i.bytes)) = some (some (.agg #[.int .i64 0, .int .i64 0, .int .i64 0]), 3, 24) := by kernel_rfl

variable {w w' : World} {cb top : Nat} {s inp : ByteArray} {bb vg vcap : Nat} {yb : Nat → Nat} {zb : Nat → Nat → Nat} {vt : Value} {hg hcap : Nat} {hbk : Nat → Nat} {HT : Nat → Nat → Bool} {c p n : Nat} {T : List (Int × Int × Int)}

/-- A token more: an append, and the store. -/
theorem CW.told {W w4 : World} (h : CW W cb W.heap.size s inp bb vg vcap yb zb vt hg hcap hbk HT c p n T) {o : Obj} {x : Int × Int × Int} {g cap : Nat}
    (hown : w4.ownsRow (cb + 1) 61 3 (.slice (some ⟨g, 0, none⟩) (T.length + 1) cap) (T.length + 1) (cells3 T ++ [.int .i64 x.1, .int .i64 x.2.1, .int .i64 x.2.2]))
    (hgrow : (W.alloc o).grownBy w4 vt.ownBlock) (hat : vt.ownBlock = some g ∨ g = W.heap.size + 1) (hgl : g < w4.heap.size) :
    CW (w4.setCell ⟨cb, 262, none⟩ (.slice (some ⟨g, 0, none⟩) (T.length + 1) cap)) cb w4.heap.size s inp bb vg vcap yb zb (.slice (some ⟨g, 0, none⟩) (T.length + 1) cap) hg hcap hbk HT c p n (T ++ [x]) := by
  have b0 := h.b0
  have b1 := h.b1
  have hsz := hgrow.size
  simp at hsz
  have blk : ∀ k, k < W.heap.size → vt.ownBlock ≠ some k → w4.heap[k]? = W.heap[k]? := fun k hk hv => (hgrow.block k (by simp; omega) (fun e => hv e.symm)).trans (Below.heap_alloc W o k hk)
  have ncb : vt.ownBlock ≠ some cb := fun e => by have := (h.rt.lt cb e).1; omega
  have nlo : ∀ k, k < cb → vt.ownBlock ≠ some k := fun k hk e => by have := (h.rt.lt k e).1; omega
  have nhg : vt.ownBlock ≠ some hg := fun e => (h.bv hg e).2.1 rfl
  have nhb : ∀ j, j < iM s → vt.ownBlock ≠ some (hbk j) := fun j hj e => (h.bv _ e).2.2 j hj rfl
  have bel : Below cb W w4 := ⟨hgrow.os, hgrow.tape, hgrow.output, by omega, fun k hk => blk k (by omega) (nlo k hk)⟩
  have cc : ∀ i, w4.cell? ⟨cb, i, none⟩ = W.cell? ⟨cb, i, none⟩ := fun i => World.cell?_of_block (w := W) (a := ⟨cb, i, none⟩) (blk cb b0 ncb)
  have cf : ∀ i, w4.frozen? ⟨cb, i, none⟩ = W.frozen? ⟨cb, i, none⟩ := fun i => World.frozen?_of_block (w := W) (a := ⟨cb, i, none⟩) (blk cb b0 ncb)
  have ch : ∀ i, w4.cell? ⟨hg, i, none⟩ = W.cell? ⟨hg, i, none⟩ := fun i => World.cell?_of_block (w := W) (a := ⟨hg, i, none⟩) (blk hg b1.2 nhg)
  have ct : ∀ j i, j < iM s → w4.cell? ⟨hbk j, i, none⟩ = W.cell? ⟨hbk j, i, none⟩ := fun j i hj => World.cell?_of_block (w := W) (a := ⟨hbk j, i, none⟩) (blk _ (h.b2 j hj).2.1 (nhb j hj))
  have ctf : ∀ j i, j < iM s → w4.frozen? ⟨hbk j, i, none⟩ = W.frozen? ⟨hbk j, i, none⟩ := fun j i hj => World.frozen?_of_block (w := W) (a := ⟨hbk j, i, none⟩) (blk _ (h.b2 j hj).2.1 (nhb j hj))
  have hlen : ∀ j u, (imgC (.slice (some ⟨bb, 0, none⟩) (iR s) (iR s)) (lClassOf s) (.slice (some ⟨vg, 0, none⟩) (iM s) vcap))[j]? = some u → j < 258 := fun j u hu => by
    have := (List.getElem?_eq_some_iff.1 hu).1
    rw [imgC_len _ _ _ (by unfold lClassOf; rw [numsP_len]; rfl)] at this; exact this
  have oc : ∀ j u, j ≠ 262 → W.cell? ⟨cb, j, none⟩ = some u → (w4.setCell ⟨cb, 262, none⟩ (.slice (some ⟨g, 0, none⟩) (T.length + 1) cap)).cell? ⟨cb, j, none⟩ = some u := fun j u hj hu => by
    rw [World.cell?_setCell_other (h := by intro e; injection e; omega), cc]; exact hu
  refine ⟨(h.mem.below bel (Nat.le_refl _)).below (below_cell (Nat.le_refl _)) (Nat.le_refl _), fun j u hu => oc _ _ (by have := hlen j u hu; omega) (h.im j u hu), oc _ _ (by omega) h.k1, oc _ _ (by omega) h.k2, oc _ _ (by omega) h.k3, oc _ _ (by omega) h.k4,
    World.cell?_setCell_same (u := vt) _ _ _ ((cc 262).trans h.k5), oc _ _ (by omega) h.k6, fun i => by rw [World.frozen?_setCell, cf]; exact h.fz i, ?_, fun j hj => ?_, fun j k hj hk => ⟨?_, ?_⟩, by omega, ⟨b1.1, by omega⟩, fun j hj => ?_, h.bi, fun k hk => ?_, by simp [World.setCell]⟩
  · rw [show (T ++ [x]).length = T.length + 1 by simp, show cells3 (T ++ [x]) = cells3 T ++ [.int .i64 x.1, .int .i64 x.2.1, .int .i64 x.2.2] by simp [cells3]]
    exact ownsRow_setCell_below hown (Nat.lt_succ_self _) _
  · rw [World.cell?_setCell_other (h := by intro e; injection e; omega), ch]; exact h.hl j hj
  · rw [World.cell?_setCell_other (h := by intro e; injection e; have := h.b2 j hj; omega), ct j k hj]; exact (h.tb j k hj hk).1
  · rw [World.frozen?_setCell, ctf j k hj]; exact (h.tb j k hj hk).2
  · have := h.b2 j hj; exact ⟨this.1, by omega, this.2.2⟩
  · have e : g = k := by simpa [Value.ownBlock] using hk
    subst e
    rcases hat with h1 | h1
    · have := h.bv g h1; exact ⟨by omega, this.2⟩
    · exact ⟨by omega, by omega, fun j hj => by have := h.b2 j hj; omega⟩

theorem CW.drew (h : CW w cb top s inp bb vg vcap yb zb vt hg hcap hbk HT c p n T) : CW w.drew cb top s inp bb vg vcap yb zb vt hg hcap hbk HT c p n T := h.drewN 1

set_option maxRecDepth 100000 in
set_option maxHeartbeats 1000000 in
theorem ctell_any (s inp : ByteArray) (cb bb vg vcap : Nat) (yb : Nat → Nat) (zb : Nat → Nat → Nat) (vt : Value) (hg hcap : Nat) (hbk : Nat → Nat) (HT : Nat → Nat → Bool) (c p n : Nat) (T : List (Int × Int × Int)) (r q : Int) (w : World)
    (hT : T.length ≤ 100000) (h : CW w cb w.heap.size s inp bb vg vcap yb zb vt hg hcap hbk HT c p n T) :
    Calls Try.prog 69 #[.pointer (some ⟨cb, 0, none⟩), .int .i64 r, .int .i64 q] w fun e w' => e = .returned (.tuple #[]) ∧ Below cb w w' ∧
      ∃ vt', CW w' cb w'.heap.size s inp bb vg vcap yb zb vt' hg hcap hbk HT c p n (T ++ [(r, (p : Int), q)]) := by
  have HC := hidZ h
  have k3 := h.k3
  have k5 := h.k5
  have f5 := h.fz 262
  obtain ⟨va, vc', hv⟩ := rowSlice h.rt
  subst hv
  have hb0 := h.b0
  clear h
  go_enter Try.func69, Try.ntmps69
  go_wp2_with fail
  have hcne : some cb ≠ (Value.slice va T.length vc').ownBlock := fun e => by have := (HC.out.rt.lt cb e.symm).1; omega
  go_region_law ((refine step_app1 w.drew rfl (.tmp 10) (.tmp 18) 38 rfl (cb + 1) 61 (.agg #[.int .i64 0, .int .i64 0, .int .i64 0]) 3 24 Try.underlying38 Try.infoToken rfl (by decide) (by decide) _ T.length (cells3 T) [.int .i64 r, .int .i64 (p : Int), .int .i64 q] _ (by simp [Act.eval]) HC.out.rt _ rfl (by simp [Act.eval]) rfl (by simp [Value.oneCell']) (by omega) (by show cb + 1 ≤ w.heap.size; omega) ?_; intro g4 cap4 w4 hown4 hgrow4 hat4 hlt4; have m3 := ((grow_cell hgrow4 (k := cb) (by show cb < w.heap.size; omega) hcne).1 262).trans k5; have n3 := ((grow_cell hgrow4 (k := cb) (by show cb < w.heap.size; omega) hcne).2 262).trans f5; have HM := hidZ (HC.out.drew.told (x := (r, (p : Int), q)) hown4 hgrow4 hat4 hlt4); have HBG : Hid (Below cb w w4) := (below_app (o := .cells #[.int .i64 r, .int .i64 (p : Int), .int .i64 q] 61) (_root_.Go.below_drewN (Below.refl cb w) 1) (by show cb ≤ w.heap.size; omega) HC.out.rt (Nat.le_succ _) hgrow4)))
  all_goals
    go_wp2
    go_end0
    exact ⟨rfl, HBG.out.setCell (p := ⟨cb, 262, none⟩) (Nat.le_refl _) _, _, HM.out.raise⟩
end Go.Proofs.Ytgjgjgihceijnaa

/- (*cut.progress).pass: a walk. -/
namespace Go.Proofs.Ytgjgjgihceijnaa
open Go.RowKit Go.Stn

set_option maxRecDepth 100000 in
set_option maxHeartbeats 1000000 in
theorem cpass_any (s inp : ByteArray) (cb bb vg vcap : Nat) (yb : Nat → Nat) (zb : Nat → Nat → Nat) (vt : Value) (hg hcap : Nat) (hbk : Nat → Nat) (HT : Nat → Nat → Bool) (c p n : Nat) (T : List (Int × Int × Int)) (r q : Nat) (w : World)
    (hi : imgOk s = true) (hr : r < iR s) (hT : T.length ≤ 100000) (h : CW w cb w.heap.size s inp bb vg vcap yb zb vt hg hcap hbk HT c p n T) :
    Calls Try.prog 70 #[.pointer (some ⟨cb, 0, none⟩), .int .i64 r, .int .i64 q] w fun e w' => e = .returned (.tuple #[]) ∧ Below cb w w' ∧
      ∃ vt', CW w' cb w'.heap.size s inp bb vg vcap yb zb vt' hg hcap hbk HT (if 1 < thenB s r then thenB s r - 2 else c) q n (if thenB s r = 1 then T else T ++ [((r : Int), (p : Int), (q : Int))]) := by
  have HC := hidZ h
  have k0 := h.im 0 _ (imgC_0 _ _ _)
  have m0 := h.mem.be r hr
  have hle := then_le hi hr
  have hM := (img_head hi).2.2.2.1
  obtain ⟨R, ER⟩ : ∃ R, iR s = R := ⟨_, rfl⟩
  rw [ER] at k0 hr
  obtain ⟨b, EB⟩ : ∃ b, thenB s r = b := ⟨_, rfl⟩
  rw [EB] at m0 hle ⊢
  have hbl : b ≤ 5 := by omega
  have hrI : (0 : Int) ≤ (r : Int) ∧ (r : Int) < (R : Int) := by omega
  have hb0 := h.b0
  replace ER := hidZ ER
  replace EB := hidZ EB
  clear h hi hle hM
  rcases (show b = 1 ∨ b = 0 ∨ 2 ≤ b by omega) with hb | hb | hb
  · have hd1 : ((b : Int) != 1) = false := by rw [hb]; rfl
    have hd2 : decide ((2 : Int) ≤ (b : Int)) = false := by simp; omega
    rw [if_neg (show ¬ 1 < b by omega), if_pos hb]
    clear hb
    have q3 := HC.out.k3
    have f3 := HC.out.fz 260
    go_enter Try.func70, Try.ntmps70
    go_wp2
    go_end0
    exact ⟨rfl, (Below.refl _ _).setCell (p := ⟨cb, 260, none⟩) (Nat.le_refl _) _, vt, (HC.out.setP q).raise⟩
  · have hd1 : ((b : Int) != 1) = true := by rw [hb]; rfl
    have hd2 : decide ((2 : Int) ≤ (b : Int)) = false := by simp; omega
    rw [if_neg (show ¬ 1 < b by omega), if_neg (show ¬ b = 1 by omega)]
    clear hb
    go_enter Try.func70, Try.ntmps70
    go_wp2_with fail
    refine (ctell_any s inp cb bb vg vcap yb zb vt hg hcap hbk HT c p n T (r : Int) (q : Int) _ hT HC.out).mono ?_
    rintro e w1 ⟨rfl, hb1, vt1, hc1⟩
    have HC1 := hidZ hc1
    have HB1 := hidZ hb1
    have q3 := hc1.k3
    have f3 := hc1.fz 260
    clear hc1 hb1 k0 m0
    go_wp2
    go_end0
    exact ⟨rfl, HB1.out.setCell (p := ⟨cb, 260, none⟩) (Nat.le_refl _) _, vt1, (HC1.out.setP q).raise⟩
  · have hd1 : ((b : Int) != 1) = true := by rw [bne_iff_ne]; omega
    have hd2 : decide ((2 : Int) ≤ (b : Int)) = true := by simp; omega
    rw [if_pos (show 1 < b by omega), if_neg (show ¬ b = 1 by omega)]
    obtain ⟨c', hc'⟩ : ∃ c' : Nat, b - 2 = c' := ⟨_, rfl⟩
    have hbc : (b : Int) - 2 = (c' : Int) := by omega
    rw [hc']
    clear hc'
    go_enter Try.func70, Try.ntmps70
    go_wp2_with fail
    refine (ctell_any s inp cb bb vg vcap yb zb vt hg hcap hbk HT c p n T (r : Int) (q : Int) _ hT HC.out).mono ?_
    rintro e w1 ⟨rfl, hb1, vt1, hc1⟩
    have HC1 := hidZ hc1
    have HB1 := hidZ hb1
    have q2 := hc1.k2
    have f2 := hc1.fz 259
    have q3 := (hc1.setC c').k3
    have f3 := (hc1.setC c').fz 260
    clear hc1 hb1 k0 m0
    go_wp2
    go_end0
    exact ⟨rfl, (HB1.out.setCell (p := ⟨cb, 259, none⟩) (Nat.le_refl _) _).setCell (p := ⟨cb, 260, none⟩) (Nat.le_refl _) _, vt1, ((HC1.out.setC c').setP q).raise⟩
end Go.Proofs.Ytgjgjgihceijnaa

/- A new cutter of package cut: its cells, its tables. -/
namespace Go.Stn
open Go.RowKit
/-- What a fill of a part leaves. -/
theorem fold_get (off : Nat) : ∀ (l : List Value) (n : Nat) (Z : Array Value), ((l.zipIdx n).foldl (fun cs x => cs.setIfInBounds (off + x.2) x.1) Z).size = Z.size ∧
    ∀ k, ((l.zipIdx n).foldl (fun cs x => cs.setIfInBounds (off + x.2) x.1) Z)[k]? = if off + n ≤ k ∧ k < off + n + l.length ∧ k < Z.size then l[k - (off + n)]? else Z[k]? := by
  intro l
  induction l with
  | nil => intro n Z; refine ⟨rfl, fun k => ?_⟩; rw [if_neg (by simp; omega)]; rfl
  | cons v r ih =>
    intro n Z
    rw [List.zipIdx_cons, List.foldl_cons]
    obtain ⟨h1, h2⟩ := ih (n + 1) (Z.setIfInBounds (off + n) v)
    refine ⟨by rw [h1]; simp, fun k => ?_⟩
    rw [h2 k]
    simp only [Array.size_setIfInBounds, List.length_cons]
    by_cases e : k = off + n
    · subst e
      rw [if_neg (by omega)]
      by_cases hz : off + n < Z.size
      · rw [if_pos (by omega), Array.getElem?_setIfInBounds_self_of_lt hz]; simp
      · rw [if_neg (by omega), Array.getElem?_eq_none (by simp; omega), Array.getElem?_eq_none (by omega)]
    · by_cases hc : off + (n + 1) ≤ k ∧ k < off + (n + 1) + r.length ∧ k < Z.size
      · rw [if_pos hc, if_pos (by omega), show k - (off + n) = (k - (off + (n + 1))) + 1 by omega, List.getElem?_cons_succ]
      · rw [if_neg hc, if_neg (by omega), Array.getElem?_setIfInBounds_ne (by omega)]
theorem all_get {A : Array Value} {q : Value → Bool} (h : A.all q = true) {i : Nat} {v : Value} (hv : A[i]? = some v) : q v = true := by
  rw [Array.all_eq_true] at h
  obtain ⟨hi, rfl⟩ := Array.getElem?_eq_some_iff.1 hv
  exact h i hi
theorem fill_get (off : Nat) (A Z : Array Value) : (A.zipIdx.foldl (fun cs x => cs.setIfInBounds (off + x.2) x.1) Z).size = Z.size ∧
    ∀ k, (A.zipIdx.foldl (fun cs x => cs.setIfInBounds (off + x.2) x.1) Z)[k]? = if off ≤ k ∧ k < off + A.size ∧ k < Z.size then A[k - off]? else Z[k]? := by
  have h := fold_get off A.toList 0 Z
  have e : A.zipIdx.foldl (fun cs x => cs.setIfInBounds (off + x.2) x.1) Z = (A.toList.zipIdx 0).foldl (fun cs x => cs.setIfInBounds (off + x.2) x.1) Z := by
    rw [← Array.foldl_toList, Array.toList_zipIdx]
  rw [e]
  refine ⟨h.1, fun k => ?_⟩
  rw [h.2 k]
  simp
end Go.Stn
namespace Go.Proofs.Ytgjgjgihceijnaa
open Go.RowKit Go.Stn

theorem Try.cutZero : ((Try.prog.info? 156).map (·.zero)) = some (some (.agg Try.zeroCells156)) := by kernel_rfl
theorem Try.cutZeroTail : (List.range 6).map (fun k => Try.zeroCells156[258 + k]?) = [some (.string ByteArray.empty), some (.int .i64 0), some (.int .i64 0), some (.int .i64 0), some (.slice none 0 0), some (.slice none 0 0)] := by kernel_rfl
theorem Try.cutZeroSize : Try.zeroCells156.size = 264 := by kernel_rfl
theorem Try.cutSize : (Try.prog.info? 156).map (·.size) = some 264 := by kernel_rfl
theorem Try.cutZeroOne : Try.zeroCells156.all (·.oneCell') = true := by kernel_rfl
theorem Try.cutPlaces : (match Try.prog.underlying 156 with
    | some (.struct fs) => fs.toList.mapM (fun f => (Try.prog.info? f.type).map fun i => (f.offset, i.size))
    | _ => none) = some [(0, 258), (258, 1), (259, 1), (260, 1), (261, 1), (262, 1), (263, 1)] := by kernel_rfl
theorem Try.cutBuilt (parts : List (Nat × Value)) : Try.prog.built 156 parts = Instr.fill ([(0, 258), (258, 1), (259, 1), (260, 1), (261, 1), (262, 1), (263, 1)].toArray[·]?) Try.zeroCells156 parts := by
  have h0 := Try.cutZero
  have hp := Try.cutPlaces
  generalize Try.zeroCells156 = Z at *
  unfold Program.built
  cases hi : Try.prog.info? 156 with
  | none => rw [hi] at h0; cases h0
  | some it =>
    rw [hi] at h0
    have hz : it.zero = some (.agg Z) := by simpa using h0
    cases hu : Try.prog.underlying 156 with
    | none => rw [hu] at hp; cases hp
    | some d =>
      rw [hu] at hp
      cases d with
      | struct fs =>
        simp only at hp
        simp only [hz, hp, Value.cells]
      | _ => cases hp

/-- The cells of a new cutter. -/
theorem cut_built (A : Array Value) (hA : A.size = 258) (hone : A.all (·.oneCell') = true) (inp : ByteArray) (c0 : Int) : ∃ C : Array Value, Try.prog.built 156 [(0, .agg A), (1, .string inp), (2, .int .i64 c0)] = some C ∧ C.size = 264 ∧ C.all (·.oneCell') = true ∧
    (∀ k, k < 258 → C[k]? = A[k]?) ∧ C[258]? = some (.string inp) ∧ C[259]? = some (.int .i64 c0) ∧ C[260]? = some (.int .i64 0) ∧ C[261]? = some (.int .i64 0) ∧ C[262]? = some (.slice none 0 0) ∧ C[263]? = some (.slice none 0 0) := by
  have hz := Try.cutZeroSize
  have ht := Try.cutZeroTail
  have ho := Try.cutZeroOne
  rw [Try.cutBuilt]
  generalize Try.zeroCells156 = Z at *
  have htl : ∀ k v, [some (Value.string ByteArray.empty), some (.int .i64 0), some (.int .i64 0), some (.int .i64 0), some (.slice none 0 0), some (.slice none 0 0)][k]? = some v → k < 6 → Z[258 + k]? = v := fun k v hk h6 => by
    rw [← ht, List.getElem?_map, List.getElem?_range h6] at hk
    simpa using hk
  obtain ⟨s1, g1⟩ := fill_get 0 A Z
  obtain ⟨s2, g2⟩ := fill_get 258 #[Value.string inp] (A.zipIdx.foldl (fun cs x => cs.setIfInBounds (0 + x.2) x.1) Z)
  obtain ⟨s3, g3⟩ := fill_get 259 #[Value.int .i64 c0] (#[Value.string inp].zipIdx.foldl (fun cs x => cs.setIfInBounds (258 + x.2) x.1) (A.zipIdx.foldl (fun cs x => cs.setIfInBounds (0 + x.2) x.1) Z))
  refine ⟨#[Value.int .i64 c0].zipIdx.foldl (fun cs x => cs.setIfInBounds (259 + x.2) x.1) (#[Value.string inp].zipIdx.foldl (fun cs x => cs.setIfInBounds (258 + x.2) x.1) (A.zipIdx.foldl (fun cs x => cs.setIfInBounds (0 + x.2) x.1) Z)), ?_, by rw [s3, s2, s1, hz], ?_, fun k hk => ?_, ?_, ?_, ?_, ?_, ?_, ?_⟩
  · have e1 : (Value.agg A).cells = A := rfl
    have e2 : (Value.string inp).cells = #[Value.string inp] := rfl
    have e3 : (Value.int .i64 c0).cells = #[Value.int .i64 c0] := rfl
    unfold Instr.fill
    simp only [List.getElem?_toArray, List.getElem?_cons_zero, e1, hA, hz]
    rw [if_neg (by decide)]
    unfold Instr.fill
    simp only [List.getElem?_cons_succ, List.getElem?_cons_zero, e2]
    rw [if_neg (by rw [s1, hz]; simp)]
    unfold Instr.fill
    simp only [List.getElem?_cons_succ, List.getElem?_cons_zero, e3]
    rw [if_neg (by rw [s2, s1, hz]; simp)]
    unfold Instr.fill
    rfl
  · rw [Array.all_eq_true]
    intro i hi
    have hv := Array.getElem?_eq_getElem hi
    have hi2 := hi
    rw [s3, s2, s1, hz] at hi2
    rw [g3, g2, g1] at hv
    generalize (#[Value.int .i64 c0].zipIdx.foldl (fun cs x => cs.setIfInBounds (259 + x.2) x.1) (#[Value.string inp].zipIdx.foldl (fun cs x => cs.setIfInBounds (258 + x.2) x.1) (A.zipIdx.foldl (fun cs x => cs.setIfInBounds (0 + x.2) x.1) Z)))[i] = u at *
    split at hv
    · rename_i hc
      have e : i - 259 = 0 := by have := hc.2.1; simp at this; omega
      rw [e] at hv
      have hq : (#[Value.int .i64 c0] : Array Value).all (·.oneCell') = true := by simp [Value.oneCell']
      exact all_get hq hv
    · split at hv
      · rename_i hc
        have e : i - 258 = 0 := by have := hc.2.1; simp at this; omega
        rw [e] at hv
        have hq : (#[Value.string inp] : Array Value).all (·.oneCell') = true := by simp [Value.oneCell']
        exact all_get hq hv
      · split at hv
        · exact all_get hone hv
        · exact all_get ho hv
  · rw [g3, if_neg (by omega), g2, if_neg (by omega), g1, if_pos (by omega)]; rfl
  · rw [g3, if_neg (by omega), g2, if_pos ⟨by omega, by simp, by rw [s1, hz]; omega⟩]; rfl
  · rw [g3, if_pos ⟨by omega, by simp, by rw [s2, s1, hz]; omega⟩]; rfl
  · rw [g3, if_neg (by simp), g2, if_neg (by simp), g1, if_neg (by omega)]; exact htl 2 _ rfl (by omega)
  · rw [g3, if_neg (by simp), g2, if_neg (by simp), g1, if_neg (by omega)]; exact htl 3 _ rfl (by omega)
  · rw [g3, if_neg (by simp), g2, if_neg (by simp), g1, if_neg (by omega)]; exact htl 4 _ rfl (by omega)
  · rw [g3, if_neg (by simp), g2, if_neg (by simp), g1, if_neg (by omega)]; exact htl 5 _ rfl (by omega)
end Go.Proofs.Ytgjgjgihceijnaa

/- A new cutter of package cut: its tables are made one by one. -/
namespace Go.Proofs.Ytgjgjgihceijnaa
open Go.RowKit Go.Stn

def hopL (s inp : ByteArray) (hbk : Nat → Nat) (m : Nat) : List Value := (List.range m).map fun j => Value.slice (some ⟨hbk j, 0, none⟩) (nSt s j * inp.size) (nSt s j * inp.size)

structure CW0 (w : World) (cb : Nat) (s inp : ByteArray) (bb vg vcap : Nat) (yb : Nat → Nat) (zb : Nat → Nat → Nat) (vh : Value) (hbk : Nat → Nat) (c0 m : Nat) : Prop where
  mem : IM w s bb vg yb zb cb
  im : w.rangeAt cb 0 (imgC (.slice (some ⟨bb, 0, none⟩) (iR s) (iR s)) (lClassOf s) (.slice (some ⟨vg, 0, none⟩) (iM s) vcap))
  k1 : w.cell? ⟨cb, 258, none⟩ = some (.string inp)
  k2 : w.cell? ⟨cb, 259, none⟩ = some (.int .i64 c0)
  k3 : w.cell? ⟨cb, 260, none⟩ = some (.int .i64 0)
  k4 : w.cell? ⟨cb, 261, none⟩ = some (.int .i64 0)
  k5 : w.cell? ⟨cb, 262, none⟩ = some (.slice none 0 0)
  k6 : w.cell? ⟨cb, 263, none⟩ = some vh
  fz : ∀ i, w.frozen? ⟨cb, i, none⟩ = false
  rh : w.ownsRow (cb + 1) 94 1 vh m (hopL s inp hbk m)
  tb : ∀ j k, j < m → k < nSt s j * inp.size → w.cell? ⟨hbk j, k, none⟩ = some (.bool false) ∧ w.frozen? ⟨hbk j, k, none⟩ = false
  hb : cb < w.heap.size
  b2 : ∀ j, j < m → cb < hbk j ∧ hbk j < w.heap.size ∧ vh.ownBlock ≠ some (hbk j)
  bi : ∀ i j, i < m → j < m → hbk i = hbk j → i = j

variable {w w' : World} {cb : Nat} {s inp : ByteArray} {bb vg vcap : Nat} {yb : Nat → Nat} {zb : Nat → Nat → Nat} {vh : Value} {hbk : Nat → Nat} {c0 m : Nat}

theorem made_get (n k : Nat) (h : k < n) : (madeCells #[Value.bool false] n)[k]? = some (.bool false) := by
  unfold madeCells
  rw [Array.getElem?_map, Array.getElem?_range, if_pos h]
  simp [Nat.mod_one]

theorem CW0.more (h : CW0 w cb s inp bb vg vcap yb zb vh hbk c0 m) {e1 : TypeId} {o : Obj} {w4 : World} {NL g cap : Nat} (hNL : nSt s m * inp.size = NL)
    (hown : w4.ownsRow (cb + 1) 94 1 (.slice (some ⟨g, 0, none⟩) (m + 1) cap) (m + 1) (hopL s inp hbk m ++ [.slice (some ⟨w.heap.size, 0, none⟩) NL NL]))
    (hgrow : ((w.alloc (.cells (madeCells #[.bool false] NL) e1)).alloc o).grownBy w4 vh.ownBlock) (hat : vh.ownBlock = some g ∨ g = w.heap.size + 2) :
    CW0 (w4.setCell ⟨cb, 263, none⟩ (.slice (some ⟨g, 0, none⟩) (m + 1) cap)) cb s inp bb vg vcap yb zb (.slice (some ⟨g, 0, none⟩) (m + 1) cap) (fun j => if j = m then w.heap.size else hbk j) c0 (m + 1) := by
  have b0 := h.hb
  have hsz := hgrow.size
  simp at hsz
  have hvl : ∀ k, vh.ownBlock = some k → cb < k ∧ k < w.heap.size := fun k hk => by have := h.rh.lt k hk; omega
  have blk : ∀ k, k < w.heap.size → vh.ownBlock ≠ some k → w4.heap[k]? = w.heap[k]? := fun k hk hv => ((hgrow.block k (by simp; omega) (fun e => hv e.symm)).trans (Below.heap_alloc _ o k (by simp; omega))).trans (Below.heap_alloc w _ k hk)
  have blkN : w4.heap[w.heap.size]? = some (.cells (madeCells #[.bool false] NL) e1 (0, 0)) := ((hgrow.block _ (by simp; omega) (fun e => by have := hvl _ e.symm; omega)).trans (Below.heap_alloc _ o _ (by simp))).trans (heap_alloc_new w _)
  have ncb : vh.ownBlock ≠ some cb := fun e => by have := hvl cb e; omega
  have bel : Below cb w w4 := ⟨hgrow.os, hgrow.tape, hgrow.output, by omega, fun k hk => blk k (by omega) (fun e => by have := hvl k e; omega)⟩
  have cc : ∀ i, w4.cell? ⟨cb, i, none⟩ = w.cell? ⟨cb, i, none⟩ := fun i => World.cell?_of_block (w := w) (a := ⟨cb, i, none⟩) (blk cb b0 ncb)
  have cf : ∀ i, w4.frozen? ⟨cb, i, none⟩ = w.frozen? ⟨cb, i, none⟩ := fun i => World.frozen?_of_block (w := w) (a := ⟨cb, i, none⟩) (blk cb b0 ncb)
  have hlen : ∀ j u, (imgC (.slice (some ⟨bb, 0, none⟩) (iR s) (iR s)) (lClassOf s) (.slice (some ⟨vg, 0, none⟩) (iM s) vcap))[j]? = some u → j < 258 := fun j u hu => by
    have := (List.getElem?_eq_some_iff.1 hu).1
    rw [imgC_len _ _ _ (by unfold lClassOf; rw [numsP_len]; rfl)] at this; exact this
  have oc : ∀ j u, j ≠ 263 → w.cell? ⟨cb, j, none⟩ = some u → (w4.setCell ⟨cb, 263, none⟩ (.slice (some ⟨g, 0, none⟩) (m + 1) cap)).cell? ⟨cb, j, none⟩ = some u := fun j u hj hu => by
    rw [World.cell?_setCell_other (h := by intro e; injection e; omega), cc]; exact hu
  have hg2 : ∀ k, k < w.heap.size → vh.ownBlock ≠ some k → (Value.slice (some ⟨g, 0, none⟩) (m + 1) cap).ownBlock ≠ some k := fun k hk hv e => by
    have e' : g = k := by simpa [Value.ownBlock] using e
    subst e'
    rcases hat with h1 | h1
    · exact hv h1
    · omega
  refine ⟨(h.mem.below bel (Nat.le_refl _)).below (below_cell (Nat.le_refl _)) (Nat.le_refl _), fun j u hu => oc _ _ (by have := hlen j u hu; omega) (h.im j u hu), oc _ _ (by omega) h.k1, oc _ _ (by omega) h.k2, oc _ _ (by omega) h.k3, oc _ _ (by omega) h.k4, oc _ _ (by omega) h.k5,
    World.cell?_setCell_same (u := vh) _ _ _ ((cc 263).trans h.k6), fun i => by rw [World.frozen?_setCell, cf]; exact h.fz i, ?_, fun j k hj hk => ?_, by simp [World.setCell]; omega, fun j hj => ?_, fun i j hi hj he => ?_⟩
  · have e : hopL s inp (fun j => if j = m then w.heap.size else hbk j) (m + 1) = hopL s inp hbk m ++ [.slice (some ⟨w.heap.size, 0, none⟩) NL NL] := by
      unfold hopL
      rw [List.range_succ, List.map_append, List.map_singleton]
      congr 1
      · refine List.map_congr_left (fun j hj => ?_)
        simp only
        rw [if_neg (by have := List.mem_range.1 hj; omega)]
      · simp only [if_pos]; rw [hNL]
    rw [e]; exact ownsRow_setCell_below hown (Nat.lt_succ_self _) _
  · by_cases e : j = m
    · subst e
      rw [if_pos rfl]
      rw [hNL] at hk
      refine ⟨?_, ?_⟩
      · rw [World.cell?_setCell_other (h := by intro e; injection e; omega)]
        unfold World.cell?
        simp only [blkN]
        exact made_get NL k hk
      · rw [World.frozen?_setCell]
        unfold World.frozen?
        simp only [blkN]
        simp
    · rw [if_neg e]
      have hj' : j < m := by omega
      have b := h.b2 j hj'
      have bq := blk _ b.2.1 b.2.2
      refine ⟨?_, ?_⟩
      · rw [World.cell?_setCell_other (h := by intro e; injection e; omega), World.cell?_of_block (w := w) (a := ⟨hbk j, k, none⟩) bq]; exact (h.tb j k hj' hk).1
      · rw [World.frozen?_setCell, World.frozen?_of_block (w := w) (a := ⟨hbk j, k, none⟩) bq]; exact (h.tb j k hj' hk).2
  · by_cases e : j = m
    · subst e
      simp only [if_pos]
      refine ⟨b0, by simp [World.setCell]; omega, fun e' => ?_⟩
      have e2 : g = w.heap.size := by simpa [Value.ownBlock] using e'
      rcases hat with h1 | h1
      · have := hvl g h1; omega
      · omega
    · simp only [if_neg e]
      have b := h.b2 j (by omega)
      exact ⟨b.1, by simp [World.setCell]; omega, hg2 _ b.2.1 b.2.2⟩
  · by_cases e1 : i = m
    · by_cases e2 : j = m
      · omega
      · simp only [if_pos e1, if_neg e2] at he
        have := (h.b2 j (by omega)).2.1; omega
    · by_cases e2 : j = m
      · simp only [if_neg e1, if_pos e2] at he
        have := (h.b2 i (by omega)).2.1; omega
      · simp only [if_neg e1, if_neg e2] at he
        exact h.bi i j (by omega) (by omega) he

theorem CW0.drew (h : CW0 w cb s inp bb vg vcap yb zb vh hbk c0 m) : CW0 w.drew cb s inp bb vg vcap yb zb vh hbk c0 m := ⟨h.mem.drewN 1, h.im, h.k1, h.k2, h.k3, h.k4, h.k5, h.k6, h.fz, h.rh, h.tb, h.hb, h.b2, h.bi⟩

/-- All tables are made. -/
theorem CW0.done (h : CW0 w cb s inp bb vg vcap yb zb vh hbk c0 (iM s)) (hM : 1 ≤ iM s) : ∃ hg hcap, CW w cb w.heap.size s inp bb vg vcap yb zb (.slice none 0 0) hg hcap hbk (fun _ _ => false) c0 0 0 [] := by
  have hlt := h.rh.lt
  have hrh := h.rh
  obtain ⟨g, cap, hv, hbg, hgl⟩ := h.rh.form (by omega)
  have hk6 := h.k6
  have hb2 := h.b2
  rw [hv] at hlt hrh hk6 hb2
  refine ⟨g, cap, h.mem, h.im, h.k1, h.k2, h.k3, h.k4, h.k5, hk6, h.fz, World.ownsRow_nil _ _ _ _, fun j hj => ?_, h.tb, h.hb, ?_, fun j hj => ?_, h.bi, fun k hk => ?_, Nat.le_refl _⟩
  · have := row_range hrh j (.slice (some ⟨hbk j, 0, none⟩) (nSt s j * inp.size) (nSt s j * inp.size)) (by unfold hopL; rw [List.getElem?_map, List.getElem?_range hj]; rfl)
    rw [Nat.zero_add] at this; exact this
  · have := hlt g rfl; omega
  · have b := hb2 j hj
    refine ⟨b.1, b.2.1, fun e => b.2.2 ?_⟩
    rw [e]; rfl
  · cases hk
theorem hope_nil (s inp : ByteArray) : hopeOk s inp [] (fun _ _ => false) := fun _ _ _ _ _ _ => by simp [memB]
end Go.Proofs.Ytgjgjgihceijnaa

