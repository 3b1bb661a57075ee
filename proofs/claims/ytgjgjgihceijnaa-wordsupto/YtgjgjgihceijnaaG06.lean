/- Texts put together: LyRead, CuMem, ScHope, ScHas, ScCut. -/
import Derived.Test.YtgjgjgihceijnaaG05
import Derived.Test.YtgjgjgihceijnaaG04
import Derived.Test.YtgjgjgihceijnaaG02
import Derived.Laws.StructEq
namespace Go.Proofs.Ytgjgjgihceijnaa
open Go.RowKit Go.Stn

/-- What Read comes to: an image in memory, or the error. -/
def LReadOut (w : World) (s : ByteArray) (e : Ending) (w' : World) : Prop :=
  Below w.heap.size w w' ∧ ((¬ (s.size ≤ 120000 ∧ imgOk s = true) ∧ e = .returned (.tuple #[.agg Try.zeroCells75, .int .i64 (chk s)])) ∨ (s.size ≤ 120000 ∧ imgOk s = true ∧
    ∃ (bb : Nat) (vc : Value) (ys : List CondG), e = .returned (.tuple #[.agg (imgC (.slice (some ⟨bb, 0, none⟩) (lRules s) (lRules s)) (lClassOf s) vc).toArray, .int .i64 0]) ∧
      NatsIn w' w.heap.size bb (lBehind s) ∧ w'.ownsRow (bb + 1) 143 1 vc ys.length (condC ys) ∧ ys.map (fun y => y.2.map (·.1)) = lConds s ∧ (∀ y ∈ ys, CondIn w' (lClasses s) y) ∧ (∀ y ∈ ys, ∀ k, ownG y k → bb < k)))

theorem row_stay {w w' : World} {base : Nat} {e : TypeId} {size : Nat} {v : Value} {m : Nat} {xs : List Value} (hr : w.ownsRow base e size v m xs) (hB : Below w.heap.size w w') : w'.ownsRow base e size v m xs := by
  refine ⟨hr.1, ?_⟩
  have hlt := hr.lt
  rcases hr.2 with hn | ⟨g, cap, cur, rfl, hbg, hg, rest⟩
  · exact .inl hn
  · exact .inr ⟨g, cap, cur, rfl, hbg, (hB.block g (hlt g rfl).2).trans hg, rest⟩

set_option maxRecDepth 100000 in
set_option maxHeartbeats 2000000 in
theorem lread_any (s : ByteArray) (w : World) :
    Calls Try.prog 39 #[.string s] w fun e w' => LReadOut w s e w' := by
  by_cases hlong : 120000 < s.size
  · have HT := hidZ (there_newA w Try.zeroCells75 75 w.heap.size 258 Try.imgZero rfl)
    have hd : decide ((120000 : Int) < (s.size : Int)) = true := by simp; omega
    go_enter Try.func39, Try.ntmps39
    go_wp2_with (first | (refine wpList_store_mid rfl 75 (.tmp 2) (.tmp 9) rfl w.heap.size 0 Try.zeroCells75 rfl rfl ?_ ?_ Try.imgZeroOne ?_; (rw [Try.imgZero]; exact HT.out); (rw [Try.imgZero]; exact Try.imgSize)))
    refine ret_cell2 Try.results39 w.heap.size 0 Try.zeroCells75.toList _ (.int .i64 1) rfl rfl ?_ Try.underlying75 rfl (by rw [Array.length_toList, Try.imgZero]; exact Try.imgSize) rfl ?_
    · exact World.rangeAt_setCells_same _ _ _ _ (by rw [Array.length_toList, Try.imgZero]; exact HT.out)
    · refine ⟨below_setCells _ 0 _ w.heap.size ((Below.refl _ _).alloc (Nat.le_refl _) _) (Nat.le_refl _), .inl ⟨fun h => by omega, ?_⟩⟩
      have e : chk s = 1 := by unfold chk; rw [if_pos hlong]
      rw [e]
  · have hd : decide ((120000 : Int) < (s.size : Int)) = false := by simp; omega
    have HL0 : Hid (LRd ((w.alloc (.cells Try.zeroCells75 75)).alloc (.cells #[.string s, .int .i64 0, .bool false] 132)) (w.heap.size + 1) s (0, false)) := by
      have e : w.heap.size + 1 = (w.alloc (.cells Try.zeroCells75 75)).heap.size := by simp
      rw [e]
      refine ⟨?_, ?_, ?_, ?_, ?_⟩
      · rw [World.cell?_alloc_new]; rfl
      · rw [World.cell?_alloc_new]; rfl
      · rw [World.cell?_alloc_new]; rfl
      · intro i; rw [World.frozen?_alloc_new]
      · simp
    have HT := hidZ (World.there_alloc (there_newA w Try.zeroCells75 75 w.heap.size 258 Try.imgZero rfl) (.cells #[.string s, .int .i64 0, .bool false] 132))
    have HB : Hid (Below w.heap.size w ((w.alloc (.cells Try.zeroCells75 75)).alloc (.cells #[.string s, .int .i64 0, .bool false] 132))) := ((Below.refl _ _).alloc (Nat.le_refl _) _).alloc (by simp) _
    have hz : w.heap.size + 2 = ((w.alloc (.cells Try.zeroCells75 75)).alloc (.cells #[.string s, .int .i64 0, .bool false] 132)).heap.size := by simp
    go_enter Try.func39, Try.ntmps39
    go_wp2_with fail
    generalize (w.alloc (.cells Try.zeroCells75 75)).alloc (.cells #[.string s, .int .i64 0, .bool false] 132) = W at *
    refine (limage_any s (w.heap.size + 1) W (by omega) HL0.out).mono ?_
    rintro e w1 ⟨bb, vc, ys, rfl, hn, ho, hm, hc, hg, hl⟩
    have HLEN := hidZ (imgC_len (.slice (some ⟨bb, 0, none⟩) (lRules s) (lRules s)) (lClassOf s) vc (by unfold lClassOf; rw [numsP_len]; rfl))
    have HONE := hidZ (imgC_one (vb := .slice (some ⟨bb, 0, none⟩) (lRules s) (lRules s)) (vc := vc) (cs := lClassOf s) rfl (by obtain ⟨va, vcap, rfl⟩ := rowSlice ho; rfl))
    obtain ⟨IL, EIL⟩ : ∃ l, imgC (.slice (some ⟨bb, 0, none⟩) (lRules s) (lRules s)) (lClassOf s) vc = l := ⟨_, rfl⟩
    rw [EIL] at HLEN HONE ⊢
    replace EIL := hidZ EIL
    have HSZ : Hid (IL.toArray.size = 258) := by unfold Hid; simpa using HLEN.out
    have HTL : Hid (IL.toArray.toList = IL) := by unfold Hid; simp
    have HALL : Hid (IL.toArray.all (·.oneCell') = true) := all_oneCell_toArray HONE.out
    obtain ⟨IA, EIA⟩ : ∃ l, IL.toArray = l := ⟨_, rfl⟩
    rw [EIA] at HSZ HTL HALL ⊢
    replace EIA := hidZ EIA
    have HN := hidZ hn
    have HO := hidZ ho
    have HM := hidZ hm
    have HC := hidZ hc
    have HB1 : Hid (Below w.heap.size w w1) := HB.out.trans ((grown_below hg (by omega)).mono (by omega))
    have HT1 := hidZ (there_block HT.out (hg.block w.heap.size (by omega) (by intro e; injection e; omega)))
    have HRD := hidZ hl
    have hz1 : w.heap.size + 2 ≤ w1.heap.size := by have := hg.size; omega
    have c1 := hl.c1
    have c2 := hl.c2
    have HIF := hidZ (read_iff s)
    have hat := lh9_at s
    have hbb : w.heap.size + 4 ≤ bb := by have := HN.out.1; omega
    clear hn ho hm hc hg hl HL0 HB HT hz
    generalize lh9 s = R at *
    have HN2 := hidZ (there_newA w1 Try.zeroCells75 75 w1.heap.size 258 Try.imgZero rfl)
    have HBS : Hid (Below w1.heap.size w1 ((w1.alloc (.cells Try.zeroCells75 75)).setCells w1.heap.size 0 IA.toList)) := below_setCells _ 0 _ w1.heap.size ((Below.refl _ _).alloc (Nat.le_refl _) _) (Nat.le_refl _)
    have HRI : Hid (((w1.alloc (.cells Try.zeroCells75 75)).setCells w1.heap.size 0 IA.toList).rangeAt w1.heap.size 0 IL) := by
      have h := World.rangeAt_setCells_same (w1.alloc (.cells Try.zeroCells75 75)) w1.heap.size 0 IA.toList (by rw [Array.length_toList, HSZ.out]; exact HN2.out)
      rw [HTL.out] at h ⊢; exact h
    have HB2 : Hid (Below w.heap.size w ((w1.alloc (.cells Try.zeroCells75 75)).setCells w1.heap.size 0 IA.toList)) := HB1.out.trans (HBS.out.mono (by omega))
    have HT2 := hidZ (there_below HT1.out HBS.out (by omega))
    have HR2 := hidZ (HRD.out.below HBS.out (by omega))
    clear c1 c2
    have c1 := HR2.out.c1
    have c2 := HR2.out.c2
    have HNF := hidZ (HN.out.block HBS.out.size (HBS.out.block bb HN.out.2.1))
    have HOF := hidZ (row_stay HO.out HBS.out)
    have HCF : Hid (∀ y ∈ ys, CondIn ((w1.alloc (.cells Try.zeroCells75 75)).setCells w1.heap.size 0 IA.toList) (lClasses s) y ∧ ∀ k, ownG y k → bb < k) := fun y hy => ⟨(HC.out y hy).1.below HBS.out (Nat.le_refl _), (HC.out y hy).2⟩
    obtain ⟨a, b⟩ := R
    simp only at *
    generalize hW2 : (w1.alloc (.cells Try.zeroCells75 75)).setCells w1.heap.size 0 IA.toList = w2 at *
    have HW2 := hidZ hW2
    clear HB1 HT1 HRD HN HO HC HBS hW2
    cases b with
    | true =>
      have HNO : Hid (imgOk s = false) := by have := HIF.out; unfold Hid; simpa using this
      go_wp2_with (first | (refine wpList_store_mid rfl 75 (.tmp 5) (.tmp 12) rfl w1.heap.size 0 IA rfl rfl ?_ ?_ HALL.out ?_; (rw [HSZ.out]; exact HN2.out); (rw [HSZ.out]; exact Try.imgSize); rw [HW2.out]) | (refine wpList_store_mid rfl 75 (.tmp 2) (.tmp 22) rfl w.heap.size 0 Try.zeroCells75 rfl rfl ?_ ?_ Try.imgZeroOne ?_; (rw [Try.imgZero]; exact HT2.out); (rw [Try.imgZero]; exact Try.imgSize)))
      refine ret_cell2 Try.results39 w.heap.size 0 Try.zeroCells75.toList _ (.int .i64 5) rfl rfl ?_ Try.underlying75 rfl (by rw [Array.length_toList, Try.imgZero]; exact Try.imgSize) rfl ?_
      · exact World.rangeAt_setCells_same _ _ _ _ (by rw [Array.length_toList, Try.imgZero]; exact HT2.out)
      · refine ⟨below_setCells _ 0 _ w.heap.size HB2.out (Nat.le_refl _), .inl ⟨fun h => (by have h2 := h.2; rw [HNO.out] at h2; cases h2), ?_⟩⟩
        have e : chk s = 5 := by unfold chk; rw [if_neg hlong, HNO.out]; rfl
        rw [e]
    | false =>
      by_cases hlt : a < s.size
      · have HNO : Hid (imgOk s = false) := by have := HIF.out; unfold Hid; simpa [hlt] using this
        have hda : decide ((a : Int) < (s.size : Int)) = true := by simp; omega
        go_wp2_with (first | (refine wpList_store_mid rfl 75 (.tmp 5) (.tmp 12) rfl w1.heap.size 0 IA rfl rfl ?_ ?_ HALL.out ?_; (rw [HSZ.out]; exact HN2.out); (rw [HSZ.out]; exact Try.imgSize); rw [HW2.out]) | (refine wpList_store_mid rfl 75 (.tmp 2) (.tmp 22) rfl w.heap.size 0 Try.zeroCells75 rfl rfl ?_ ?_ Try.imgZeroOne ?_; (rw [Try.imgZero]; exact HT2.out); (rw [Try.imgZero]; exact Try.imgSize)))
        refine ret_cell2 Try.results39 w.heap.size 0 Try.zeroCells75.toList _ (.int .i64 5) rfl rfl ?_ Try.underlying75 rfl (by rw [Array.length_toList, Try.imgZero]; exact Try.imgSize) rfl ?_
        · exact World.rangeAt_setCells_same _ _ _ _ (by rw [Array.length_toList, Try.imgZero]; exact HT2.out)
        · refine ⟨below_setCells _ 0 _ w.heap.size HB2.out (Nat.le_refl _), .inl ⟨fun h => (by have h2 := h.2; rw [HNO.out] at h2; cases h2), ?_⟩⟩
          have e : chk s = 5 := by unfold chk; rw [if_neg hlong, HNO.out]; rfl
          rw [e]
      · have HYES : Hid (imgOk s = true) := by have := HIF.out; unfold Hid; simpa [hlt] using this
        have hda : decide ((a : Int) < (s.size : Int)) = false := by simp; omega
        go_wp2_with (first | (refine wpList_store_mid rfl 75 (.tmp 5) (.tmp 12) rfl w1.heap.size 0 IA rfl rfl ?_ ?_ HALL.out ?_; (rw [HSZ.out]; exact HN2.out); (rw [HSZ.out]; exact Try.imgSize); rw [HW2.out]) | (refine wpList_load_mid rfl 75 (.tmp 5) rfl w1.heap.size 0 rfl IL _ HRI.out Try.underlying75 rfl ?_ ?_; (rw [HLEN.out]; exact Try.imgSize); rw [EIA.out]) | (refine wpList_store_mid rfl 75 (.tmp 2) (.tmp 23) rfl w.heap.size 0 IA rfl rfl ?_ ?_ HALL.out ?_; (rw [HSZ.out]; exact HT2.out); (rw [HSZ.out]; exact Try.imgSize)))
        refine ret_cell2 Try.results39 w.heap.size 0 IL _ (.int .i64 0) rfl rfl ?_ Try.underlying75 rfl (by rw [HLEN.out]; exact Try.imgSize) rfl ?_
        · have h := World.rangeAt_setCells_same w2 w.heap.size 0 IA.toList (by rw [Array.length_toList, HSZ.out]; exact HT2.out)
          rw [HTL.out] at h ⊢; exact h
        · have hbs : Below w.heap.size w2 (w2.setCells w.heap.size 0 IA.toList) := below_setCells _ 0 _ w.heap.size (Below.refl _ _) (Nat.le_refl _)
          refine ⟨HB2.out.trans hbs, .inr ⟨by omega, HYES.out, bb, vc, ys, by rw [EIL.out], ?_, ownsRow_setCells_below HOF.out (by omega) _ 0, HM.out, fun y hy => ?_, fun y hy => (HCF.out y hy).2⟩⟩
          · obtain ⟨_, n2, n3⟩ := HNF.out.block hbs.size (setCells_block w2 w.heap.size 0 IA.toList bb (by omega))
            exact ⟨by omega, n2, n3⟩
          · obtain ⟨h1, h2⟩ := HCF.out y hy
            exact h1.block hbs.size (fun q _ ho => setCells_block w2 w.heap.size 0 IA.toList q (by have := h2 q ho; omega))
end Go.Proofs.Ytgjgjgihceijnaa

namespace Go.Stn
open Go.RowKit
theorem stC_get (cl : Nat) (zs : List ((Nat × List Int) × Nat)) : ∀ (k : Nat) (z : (Nat × List Int) × Nat), zs[k]? = some z → (stC cl zs)[2 * k]? = some (.int .i64 (z.1.1 : Int)) ∧ (stC cl zs)[2 * k + 1]? = some (.slice (some ⟨z.2, 0, none⟩) cl cl) := by
  induction zs with
  | nil => intro k z h; simp at h
  | cons y r ih =>
    intro k z h
    have e : stC cl (y :: r) = Value.int .i64 (y.1.1 : Int) :: Value.slice (some ⟨y.2, 0, none⟩) cl cl :: stC cl r := by simp [stC]
    rw [e]
    cases k with
    | zero => simp at h; subst h; exact ⟨rfl, rfl⟩
    | succ j =>
      have := ih j z (by simpa using h)
      rw [show 2 * (j + 1) = 2 * j + 1 + 1 by omega]
      exact ⟨by simpa using this.1, by simpa using this.2⟩
theorem condC_get (ys : List CondG) (k : Nat) (y : CondG) (h : ys[k]? = some y) : (condC ys)[k]? = some (.slice (some ⟨y.1, 0, none⟩) y.2.length y.2.length) := by
  unfold condC; rw [List.getElem?_map, h]; rfl
theorem intC_get (l : List Int) (k : Nat) (x : Int) (h : l[k]? = some x) : (intC l)[k]? = some (.int .i64 x) := by
  unfold intC; rw [List.getElem?_map, h]; rfl

/-- Where a byte leads, as a number: -1 for nowhere. -/
def leadJ (s : ByteArray) (c st v : Nat) : Int := leadI (leadN s c st v)

/-- An image in memory, below top. -/
structure IM (w : World) (s : ByteArray) (bb vg : Nat) (yb : Nat → Nat) (zb : Nat → Nat → Nat) (top : Nat) : Prop where
  be : ∀ r, r < iR s → w.cell? ⟨bb, r, none⟩ = some (.int .i64 (thenB s r))
  co : ∀ c, c < iM s → w.cell? ⟨vg, c, none⟩ = some (.slice (some ⟨yb c, 0, none⟩) (nSt s c) (nSt s c))
  tk : ∀ c st, c < iM s → st < nSt s c → w.cell? ⟨yb c, 2 * st, none⟩ = some (.int .i64 (markN s c st))
  nx : ∀ c st, c < iM s → st < nSt s c → w.cell? ⟨yb c, 2 * st + 1, none⟩ = some (.slice (some ⟨zb c st, 0, none⟩) (iK s) (iK s))
  ld : ∀ c st v, c < iM s → st < nSt s c → v < 256 → w.cell? ⟨zb c st, clsN s v, none⟩ = some (.int .i64 (leadJ s c st v))
  b0 : bb < top
  b1 : vg < top
  b2 : ∀ c, c < iM s → yb c < top
  b3 : ∀ c st, c < iM s → st < nSt s c → zb c st < top

/-- From where on it lies. -/
structure ILo (s : ByteArray) (bb vg : Nat) (yb : Nat → Nat) (zb : Nat → Nat → Nat) (lo : Nat) : Prop where
  b0 : lo ≤ bb
  b1 : lo ≤ vg
  b2 : ∀ c, c < iM s → lo ≤ yb c
  b3 : ∀ c st, c < iM s → st < nSt s c → lo ≤ zb c st

theorem IM.below {w w' : World} {s : ByteArray} {bb vg : Nat} {yb : Nat → Nat} {zb : Nat → Nat → Nat} {top B : Nat} (h : IM w s bb vg yb zb top) (hB : Below B w w') (hb : top ≤ B) : IM w' s bb vg yb zb top :=
  ⟨fun r hr => (hB.cell (p := ⟨bb, r, none⟩) (Nat.lt_of_lt_of_le h.b0 hb)).trans (h.be r hr), fun c hc => (hB.cell (p := ⟨vg, c, none⟩) (Nat.lt_of_lt_of_le h.b1 hb)).trans (h.co c hc),
    fun c st hc hs => (hB.cell (p := ⟨yb c, 2 * st, none⟩) (Nat.lt_of_lt_of_le (h.b2 c hc) hb)).trans (h.tk c st hc hs), fun c st hc hs => (hB.cell (p := ⟨yb c, 2 * st + 1, none⟩) (Nat.lt_of_lt_of_le (h.b2 c hc) hb)).trans (h.nx c st hc hs),
    fun c st v hc hs hv => (hB.cell (p := ⟨zb c st, clsN s v, none⟩) (Nat.lt_of_lt_of_le (h.b3 c st hc hs) hb)).trans (h.ld c st v hc hs hv), h.b0, h.b1, h.b2, h.b3⟩
theorem IM.drewN {w : World} {s : ByteArray} {bb vg : Nat} {yb : Nat → Nat} {zb : Nat → Nat → Nat} {top : Nat} (h : IM w s bb vg yb zb top) (q : Nat) : IM (w.drewN q) s bb vg yb zb top := ⟨h.be, h.co, h.tk, h.nx, h.ld, h.b0, h.b1, h.b2, h.b3⟩
end Go.Stn
namespace Go.Proofs.Ytgjgjgihceijnaa
open Go.RowKit Go.Stn

/-- What Read laid, to be read. -/
theorem read_mem {w : World} {s : ByteArray} (hi : imgOk s = true) {bb : Nat} {vc : Value} {ys : List CondG} {lo : Nat} (hn : NatsIn w lo bb (lBehind s)) (ho : w.ownsRow (bb + 1) 143 1 vc ys.length (condC ys))
    (hm : ys.map (fun y => y.2.map (·.1)) = lConds s) (hc : ∀ y ∈ ys, CondIn w (lClasses s) y) (hk : ∀ y ∈ ys, ∀ k, ownG y k → bb < k) : ∃ vg cap yb zb, vc = .slice (some ⟨vg, 0, none⟩) (iM s) cap ∧ IM w s bb vg yb zb w.heap.size ∧ ILo s bb vg yb zb lo := by
  have hd := img_read hi
  have hcs := (img_conds hi).1
  have hlen : ys.length = iM s := by have := congrArg List.length (hm.trans hcs); simpa using this
  have hM := (img_head hi).2.2.1
  have hlt := ho.lt
  obtain ⟨g, cap, rfl, hbg, hgl⟩ := ho.form (by omega)
  have hrow := row_range ho
  have hy : ∀ c, c < iM s → ∃ y, ys[c]? = some y ∧ y ∈ ys ∧ y.2.map (·.1) = condV s c := fun c hc' => by
    have hcl : c < ys.length := by omega
    refine ⟨ys[c], List.getElem?_eq_getElem hcl, List.getElem_mem hcl, ?_⟩
    have := congrArg (fun l => l[c]?) (hm.trans hcs)
    simp only [List.getElem?_map, List.getElem?_eq_getElem hcl, List.getElem?_range hc', Option.map_some] at this
    injection this
  have hz : ∀ c st, c < iM s → st < nSt s c → ∀ y, ys[c]? = some y → y ∈ ys → y.2.map (·.1) = condV s c → ∃ z, y.2[st]? = some z ∧ z ∈ y.2 ∧ z.1 = rowV s (iK s) (rwAt s c st) := fun c st hc' hs' y _ _ he => by
    have hl : y.2.length = nSt s c := by have := congrArg List.length he; unfold condV at this; simpa using this
    have hsl : st < y.2.length := by omega
    refine ⟨y.2[st], List.getElem?_eq_getElem hsl, List.getElem_mem hsl, ?_⟩
    have := congrArg (fun l => l[st]?) he
    unfold condV at this
    simp only [List.getElem?_map, List.getElem?_eq_getElem hsl, List.getElem?_range hs', Option.map_some] at this
    injection this
  have hlenY : ∀ c, c < iM s → ∀ y, ys[c]? = some y → y.2.map (·.1) = condV s c → y.2.length = nSt s c := fun c _ y _ he => by
    have := congrArg List.length he; unfold condV at this; simpa using this
  have cellAt : ∀ (b k : Nat) (l : List Value) (v : Value), w.rangeAt b 0 l → l[k]? = some v → w.cell? ⟨b, k, none⟩ = some v := fun b k l v hr hk => by
    have := hr k v hk; rw [Nat.zero_add] at this; exact this
  refine ⟨g, cap, fun c => ((ys[c]?).getD (0, [])).1, fun c st => ((((ys[c]?).getD (0, [])).2[st]?).getD ((0, []), 0)).2, by rw [hlen], ?_, ?_⟩
  refine ⟨fun r hr => ?_, fun c hc' => ?_, fun c st hc' hs' => ?_, fun c st hc' hs' => ?_, fun c st v hc' hs' hv => ?_, hn.2.1, (hlt g rfl).2, fun c hc' => ?_, fun c st hc' hs' => ?_⟩
  · refine cellAt _ _ _ _ hn.2.2 ?_
    rw [hd.be]
    unfold natC
    rw [List.getElem?_map, List.getElem?_map, List.getElem?_range hr]; rfl
  · obtain ⟨y, h1, h2, h3⟩ := hy c hc'
    refine cellAt _ _ _ _ hrow ?_
    rw [condC_get ys c y h1, h1, hlenY c hc' y h1 h3]; rfl
  · obtain ⟨y, h1, h2, h3⟩ := hy c hc'
    obtain ⟨z, h4, h5, h6⟩ := hz c st hc' hs' y h1 h2 h3
    simp only [h1, Option.getD_some]
    refine cellAt _ _ _ _ (hc y h2).rg ?_
    rw [(stC_get _ _ st z h4).1, h6]; rfl
  · obtain ⟨y, h1, h2, h3⟩ := hy c hc'
    obtain ⟨z, h4, h5, h6⟩ := hz c st hc' hs' y h1 h2 h3
    simp only [h1, Option.getD_some, h4]
    refine cellAt _ _ _ _ (hc y h2).rg ?_
    rw [(stC_get _ _ st z h4).2, hd.cl]
  · obtain ⟨y, h1, h2, h3⟩ := hy c hc'
    obtain ⟨z, h4, h5, h6⟩ := hz c st hc' hs' y h1 h2 h3
    simp only [h1, Option.getD_some, h4]
    refine cellAt _ _ _ _ ((hc y h2).rows z h5).2 (intC_get _ _ _ ?_)
    rw [h6]
    unfold rowV
    rw [List.getElem?_map, List.getElem?_range (cls_lt hi v hv)]
    unfold leadJ leadN
    rw [Option.map_some, show rwAt s c st + (clsN s v + 1) = rwAt s c st + 1 + clsN s v by omega]
  · obtain ⟨y, h1, h2, h3⟩ := hy c hc'
    simp only [h1, Option.getD_some]
    exact (hc y h2).lt
  · obtain ⟨y, h1, h2, h3⟩ := hy c hc'
    obtain ⟨z, h4, h5, h6⟩ := hz c st hc' hs' y h1 h2 h3
    simp only [h1, Option.getD_some, h4]
    exact ((hc y h2).rows z h5).1
  · have hbb := hn.1
    refine ⟨hbb, by omega, fun c hc' => ?_, fun c st hc' hs' => ?_⟩
    · obtain ⟨y, h1, h2, h3⟩ := hy c hc'
      simp only [h1, Option.getD_some]
      have := hk y h2 y.1 (.inl rfl)
      omega
    · obtain ⟨y, h1, h2, h3⟩ := hy c hc'
      obtain ⟨z, h4, h5, h6⟩ := hz c st hc' hs' y h1 h2 h3
      simp only [h1, Option.getD_some, h4]
      have := hk y h2 z.2 (.inr ⟨z, h5, rfl⟩)
      omega
end Go.Proofs.Ytgjgjgihceijnaa

namespace Go.Stn
/-- The state behind d bytes from a stand on. -/
def stepFrom (s inp : ByteArray) (c : Nat) : Nat → Nat → Nat → Option Nat
  | st, _, 0 => some st
  | st, i, d + 1 => if leadN s c st (bt inp i) = 255 then none else stepFrom s inp c (leadN s c st (bt inp i)) (i + 1) d

theorem stepFrom_snoc (s inp : ByteArray) (c : Nat) : ∀ d st i, stepFrom s inp c st i (d + 1) =
    match stepFrom s inp c st i d with
    | none => none
    | some t => if leadN s c t (bt inp (i + d)) = 255 then none else some (leadN s c t (bt inp (i + d))) := by
  intro d
  induction d with
  | zero => intro st i; simp [stepFrom]
  | succ e ih =>
    intro st i
    rw [stepFrom]
    split
    · rename_i h; rw [stepFrom, if_pos h]
    · rename_i h
      rw [ih, stepFrom, if_neg h]
      have : i + 1 + e = i + (e + 1) := by omega
      rw [this]

theorem stepTo_from (s inp : ByteArray) (c p : Nat) : ∀ d, stepTo s inp c p d = stepFrom s inp c 0 p d := by
  intro d
  induction d with
  | zero => rfl
  | succ e ih => rw [stepTo, ih, stepFrom_snoc]; cases stepFrom s inp c 0 p e <;> rfl

/-- From this stand on no token comes. -/
def dead (s inp : ByteArray) (c st i : Nat) : Prop := ∀ d t, 1 ≤ d → i + d ≤ inp.size → stepFrom s inp c st i d = some t → markN s c t = 0

/-- All of these are dead. -/
def allDead (s inp : ByteArray) (H : List (Int × Int × Int)) : Prop := ∀ c st i, std c st i ∈ H → dead s inp c st i

theorem dead_end {s inp : ByteArray} {c st i : Nat} (h : ¬ i < inp.size) : dead s inp c st i := by
  intro d t hd hi; omega
theorem dead_nowhere {s inp : ByteArray} {c st i : Nat} (h : leadN s c st (bt inp i) = 255) : dead s inp c st i := by
  intro d t hd hi hs
  obtain ⟨e, rfl⟩ : ∃ e, d = e + 1 := ⟨d - 1, by omega⟩
  rw [stepFrom, if_pos h] at hs; cases hs
theorem dead_step {s inp : ByteArray} {c st i : Nat} (h : leadN s c st (bt inp i) ≠ 255) (hm : markN s c (leadN s c st (bt inp i)) = 0) (hd : dead s inp c (leadN s c st (bt inp i)) (i + 1)) : dead s inp c st i := by
  intro d t h1 hi hs
  obtain ⟨e, rfl⟩ : ∃ e, d = e + 1 := ⟨d - 1, by omega⟩
  rw [stepFrom, if_neg h] at hs
  cases e with
  | zero => rw [stepFrom] at hs; injection hs with hs; rw [← hs]; exact hm
  | succ f => exact hd (f + 1) t (by omega) (by omega) hs

/-- Looking on: the token that is found last; best: that of before. -/
def lookT (s inp : ByteArray) (c : Nat) (H : List (Int × Int × Int)) : Nat → Nat → Nat → Option (Nat × Nat) → Option (Nat × Nat)
  | 0, _, _, best => best
  | d + 1, st, i, best =>
    if memB H (std c st i) = true then best
    else if leadN s c st (bt inp i) = 255 then best
    else lookT s inp c H d (leadN s c st (bt inp i)) (i + 1) (if 0 < markN s c (leadN s c st (bt inp i)) then some (markN s c (leadN s c st (bt inp i)) - 1, i + 1) else best)

/-- Where nothing comes, nothing is found. -/
theorem lookT_dead {s inp : ByteArray} {c : Nat} : ∀ d st i best, i + d ≤ inp.size → dead s inp c st i → lookT s inp c [] d st i best = best := by
  intro d
  induction d with
  | zero => intro st i best _ _; rfl
  | succ e ih =>
    intro st i best hi hd
    rw [lookT, if_neg (by simp [memB])]
    split
    · rfl
    · rename_i h
      have hm : markN s c (leadN s c st (bt inp i)) = 0 := hd 1 _ (by omega) (by omega) (by rw [stepFrom, if_neg h, stepFrom])
      rw [if_neg (by omega)]
      refine ih _ _ _ (by omega) ?_
      intro d t h1 h2 h3
      exact hd (d + 1) t (by omega) (by omega) (by rw [stepFrom, if_neg h]; exact h3)

/-- What is hopeless may be passed by. -/
theorem lookT_hope {s inp : ByteArray} {c : Nat} {H : List (Int × Int × Int)} (hH : allDead s inp H) : ∀ d st i best, i + d ≤ inp.size → lookT s inp c H d st i best = lookT s inp c [] d st i best := by
  intro d
  induction d with
  | zero => intro st i best _; rfl
  | succ e ih =>
    intro st i best hi
    by_cases hm : memB H (std c st i) = true
    · rw [lookT, if_pos hm]
      have hin : std c st i ∈ H := by unfold memB at hm; exact List.contains_iff_mem.1 hm
      exact (lookT_dead (e + 1) st i best hi (hH c st i hin)).symm
    · rw [lookT, if_neg hm]
      conv => rhs; rw [lookT, if_neg (by simp [memB])]
      split
      · rfl
      · exact ih _ _ _ (by omega)

/-- The longest token from a stand on. -/
def longG (s inp : ByteArray) (c st i : Nat) : Nat → Option (Nat × Nat)
  | 0 => none
  | d + 1 => match stepFrom s inp c st i (d + 1) with
    | none => longG s inp c st i d
    | some t => if 0 < markN s c t then some (markN s c t - 1, i + (d + 1)) else longG s inp c st i d

theorem longG_nowhere {s inp : ByteArray} {c st i : Nat} (h : leadN s c st (bt inp i) = 255) : ∀ d, longG s inp c st i d = none := by
  intro d
  induction d with
  | zero => rfl
  | succ e ih =>
    have hs : stepFrom s inp c st i (e + 1) = none := by rw [stepFrom, if_pos h]
    rw [longG, hs]; exact ih

theorem longG_cons {s inp : ByteArray} {c st i : Nat} (h : leadN s c st (bt inp i) ≠ 255) : ∀ d, longG s inp c st i (d + 1) =
    (longG s inp c (leadN s c st (bt inp i)) (i + 1) d).or (if 0 < markN s c (leadN s c st (bt inp i)) then some (markN s c (leadN s c st (bt inp i)) - 1, i + 1) else none) := by
  intro d
  induction d with
  | zero =>
    have hs : stepFrom s inp c st i (0 + 1) = some (leadN s c st (bt inp i)) := by
      conv => lhs; rw [stepFrom, if_neg h]
      rfl
    conv => lhs; rw [longG, hs]
    simp [longG]
  | succ e ih =>
    have hs : stepFrom s inp c st i (e + 1 + 1) = stepFrom s inp c (leadN s c st (bt inp i)) (i + 1) (e + 1) := by
      conv => lhs; rw [stepFrom, if_neg h]
    rw [longG, hs]
    conv => rhs; rw [longG]
    cases stepFrom s inp c (leadN s c st (bt inp i)) (i + 1) (e + 1) with
    | none => exact ih
    | some t =>
      simp only
      by_cases hm : 0 < markN s c t
      · rw [if_pos hm, if_pos hm]; simp; omega
      · rw [if_neg hm, if_neg hm]; exact ih

theorem lookT_long {s inp : ByteArray} {c : Nat} : ∀ d st i best, lookT s inp c [] d st i best = (longG s inp c st i d).or best := by
  intro d
  induction d with
  | zero => intro st i best; simp [lookT, longG]
  | succ e ih =>
    intro st i best
    rw [lookT, if_neg (by simp [memB])]
    by_cases h : leadN s c st (bt inp i) = 255
    · rw [if_pos h, longG_nowhere h]; simp
    · rw [if_neg h, ih, longG_cons h]
      by_cases hm : 0 < markN s c (leadN s c st (bt inp i))
      · rw [if_pos hm, if_pos hm]; cases longG s inp c (leadN s c st (bt inp i)) (i + 1) e <;> simp
      · rw [if_neg hm, if_neg hm]; cases longG s inp c (leadN s c st (bt inp i)) (i + 1) e <;> simp

theorem longD_G (s inp : ByteArray) (c p : Nat) : ∀ d, longD s inp c p d = match longG s inp c 0 p d with
    | none => (-1, p)
    | some x => ((x.1 : Int), x.2) := by
  intro d
  induction d with
  | zero => rfl
  | succ e ih =>
    rw [longD, longG]
    unfold tokAt
    rw [stepTo_from]
    cases h : stepFrom s inp c 0 p (e + 1) with
    | none => simp only; exact ih
    | some t =>
      simp only
      by_cases hm : 0 < markN s c t
      · rw [if_pos hm, if_pos hm]
      · rw [if_neg hm, if_neg hm]; exact ih

/-- LOOKING FINDS THE LONGEST, whatever hopeless is known. -/
theorem look_finds {s inp : ByteArray} {c p : Nat} {H : List (Int × Int × Int)} (hH : allDead s inp H) (hp : p ≤ inp.size) :
    lng s inp c p = match lookT s inp c H (inp.size - p) 0 p none with
      | none => (-1, p)
      | some x => ((x.1 : Int), x.2) := by
  unfold lng
  rw [lookT_hope hH _ _ _ _ (by omega), lookT_long, longD_G]
  cases longG s inp c 0 p (inp.size - p) <;> simp

theorem std_inj {c st i c' st' i' : Nat} (h : std c st i = std c' st' i') : c = c' ∧ st = st' ∧ i = i' := by
  unfold std at h
  injection h with h1 h2
  injection h2 with h2 h3
  omega

/-- What stood since the last token is dead. -/
theorem lookP_dead {s inp : ByteArray} {c : Nat} {H : List (Int × Int × Int)} (hH : allDead s inp H) : ∀ d st i S n, i + d = inp.size →
    (∀ c' st' i', std c' st' i' ∈ S → dead s inp c st i → dead s inp c' st' i') → allDead s inp (lookP s inp c H d st i S n).1 := by
  intro d
  induction d with
  | zero =>
    intro st i S n hi hS c' st' i' hin
    exact hS c' st' i' hin (dead_end (by omega))
  | succ e ih =>
    intro st i S n hi hS
    by_cases hk : memB H (std c st i) = true
    · rw [lookP_known hk]
      intro c' st' i' hin
      exact hS c' st' i' hin (hH c st i (by unfold memB at hk; exact List.contains_iff_mem.1 hk))
    · have hk : memB H (std c st i) = false := by simpa using hk
      by_cases hl : leadN s c st (bt inp i) = 255
      · rw [lookP_nowhere hk hl]
        intro c' st' i' hin
        rcases List.mem_append.1 hin with h | h
        · exact hS c' st' i' h (dead_nowhere hl)
        · rw [List.mem_singleton] at h
          obtain ⟨rfl, rfl, rfl⟩ := std_inj h
          exact dead_nowhere hl
      · by_cases hm : 0 < markN s c (leadN s c st (bt inp i))
        · rw [lookP_token hk hl hm]
          exact ih _ _ _ _ (by omega) (fun c' st' i' h => by cases h)
        · rw [lookP_step hk hl (by omega)]
          refine ih _ _ _ _ (by omega) (fun c' st' i' h hd => ?_)
          have hd2 := dead_step hl (by omega) hd
          rcases List.mem_append.1 h with h | h
          · exact hS c' st' i' h hd2
          · rw [List.mem_singleton] at h
            obtain ⟨rfl, rfl, rfl⟩ := std_inj h
            exact hd2

theorem look_dead {s inp : ByteArray} {c p : Nat} {H : List (Int × Int × Int)} (hH : allDead s inp H) (hp : p ≤ inp.size) : allDead s inp (H ++ (lookFrom s inp c H p).1) := by
  intro c' st' i' hin
  rcases List.mem_append.1 hin with h | h
  · exact hH c' st' i' h
  · exact lookP_dead hH _ 0 p [] 0 (by omega) (fun _ _ _ h => by cases h) c' st' i' h

end Go.Stn

namespace Go.Stn
/-- Three numbers, as a stand (a condition, a state, a place) or a token lies in memory. -/
def cells3 (l : List (Int × Int × Int)) : List Value := l.flatMap fun x => [.int .i64 x.1, .int .i64 x.2.1, .int .i64 x.2.2]

theorem cells3_length (l : List (Int × Int × Int)) : (cells3 l).length = l.length * 3 := by
  induction l with
  | nil => rfl
  | cons a r ih => simp only [cells3, List.flatMap_cons, List.length_append, List.length_cons, List.length_nil] at *; omega

theorem cells3_get (l : List (Int × Int × Int)) (k : Nat) (x : Int × Int × Int) (h : l[k]? = some x) :
    (cells3 l)[k * 3]? = some (.int .i64 x.1) ∧ (cells3 l)[k * 3 + 1]? = some (.int .i64 x.2.1) ∧ (cells3 l)[k * 3 + 2]? = some (.int .i64 x.2.2) := by
  induction l generalizing k with
  | nil => simp at h
  | cons a r ih =>
    cases k with
    | zero => simp at h; subst h; simp [cells3]
    | succ n =>
      have := ih n (by simpa using h)
      have e : cells3 (a :: r) = [.int .i64 a.1, .int .i64 a.2.1, .int .i64 a.2.2] ++ cells3 r := rfl
      rw [e]
      have e1 : (n + 1) * 3 = n * 3 + 3 := by omega
      rw [e1, List.getElem?_append_right (by simp), List.getElem?_append_right (by simp only [List.length_cons, List.length_nil]; omega), List.getElem?_append_right (by simp only [List.length_cons, List.length_nil]; omega)]
      simp only [List.length_cons, List.length_nil]
      have a1 : n * 3 + 3 - (0 + 1 + 1 + 1) = n * 3 := by omega
      have a2 : n * 3 + 3 + 1 - (0 + 1 + 1 + 1) = n * 3 + 1 := by omega
      have a3 : n * 3 + 3 + 2 - (0 + 1 + 1 + 1) = n * 3 + 2 := by omega
      rw [a1, a2, a3]
      exact this

end Go.Stn
namespace Go.Proofs.Ytgjgjgihceijnaa
open Go.RowKit Go.Stn

/-- A row of three-celled elements that can be read: nil, or cells in a block below B. -/
structure Row3 (w : World) (B : Nat) (v : Value) (l : List (Int × Int × Int)) : Prop where
  sh : (v = .slice none 0 0 ∧ l = []) ∨ ∃ g cap, v = .slice (some ⟨g, 0, none⟩) l.length cap ∧ g < B ∧ l.length ≤ cap ∧ cap ≤ maxLen ∧
    ∀ k x, l[k]? = some x → w.cell? ⟨g, k * 3, none⟩ = some (.int .i64 x.1) ∧ w.cell? ⟨g, k * 3 + 1, none⟩ = some (.int .i64 x.2.1) ∧ w.cell? ⟨g, k * 3 + 2, none⟩ = some (.int .i64 x.2.2)

theorem ownsRow_row3 {w : World} {base e : Nat} {v : Value} {n : Nat} {l : List (Int × Int × Int)} (h : w.ownsRow base e 3 v n (cells3 l)) : Row3 w w.heap.size v l := by
  have hn : n = l.length := by have := h.1; rw [cells3_length] at this; omega
  subst hn
  refine ⟨?_⟩
  rcases h.2 with ⟨rfl, h0⟩ | ⟨g, cap, cur, rfl, hb, hg, hnc, hcm, hcs, htake⟩
  · exact .inl ⟨rfl, List.eq_nil_of_length_eq_zero h0⟩
  · refine .inr ⟨g, cap, rfl, (Array.getElem?_eq_some_iff.1 hg).1, hnc, hcm, fun k x hx => ?_⟩
    have hc := h.cells (g := g) rfl
    have hadd : ∀ j, (⟨g, 0, none⟩ : Addr).add j = ⟨g, j, none⟩ := fun j => by unfold Addr.add; split <;> simp_all
    obtain ⟨a1, a2, a3⟩ := cells3_get l k x hx
    have b1 := hc _ _ a1
    have b2 := hc _ _ a2
    have b3 := hc _ _ a3
    rw [hadd] at b1 b2 b3
    exact ⟨b1, b2, b3⟩

end Go.Proofs.Ytgjgjgihceijnaa

namespace Go.Proofs.Ytgjgjgihceijnaa
open Go.RowKit Go.Stn

variable {w w' : World} {cb base top ib : Nat} {inp : ByteArray} {c : Nat} {H : List (Int × Int × Int)} {n : Nat} {T : List (Int × Int × Int)} {vh vt : Value}

theorem ownsRow_below {w w' : World} {base : Nat} {e : TypeId} {size : Nat} {v : Value} {m : Nat} {xs : List Value} {B : Nat} (h : w.ownsRow base e size v m xs) (hB : Below B w w') (hz : w.heap.size ≤ B) : w'.ownsRow base e size v m xs := by
  refine ⟨h.1, ?_⟩
  rcases h.2 with hn | ⟨g, cap, cur, rfl, hbg, hg, rest⟩
  · exact .inl hn
  · have hlt : g < w.heap.size := (Array.getElem?_eq_some_iff.1 hg).1
    exact .inr ⟨g, cap, cur, rfl, hbg, (hB.block g (by omega)).trans hg, rest⟩

end Go.Proofs.Ytgjgjgihceijnaa

