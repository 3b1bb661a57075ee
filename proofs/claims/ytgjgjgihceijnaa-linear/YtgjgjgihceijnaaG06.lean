/- Texts put together: LyRead, CuMem, KpMem, StPure, StAlike. -/
import Derived.Test.YtgjgjgihceijnaaG04
import Derived.Test.YtgjgjgihceijnaaG05
import Derived.Test.YtgjgjgihceijnaaG01
import Derived.Test.YtgjgjgihceijnaaG02
/- layout.Read: a walk. -/
namespace Go.Proofs.Ytgjgjgihceijnaa
open Go.RowKit Go.Stn

/-- What Read comes to: an image in memory, or the error. -/
def LReadOut (w : World) (s : ByteArray) (e : Ending) (w' : World) : Prop :=
  Below w.heap.size w w' ∧ ((¬ (s.size ≤ 120000 ∧ imgOk s = true) ∧ e = .returned (.tuple #[.agg Try.zeroCells75, .int .i64 (chk s)])) ∨ (s.size ≤ 120000 ∧ imgOk s = true ∧
    ∃ (bb : Nat) (vc : Value) (ys : List CondG), e = .returned (.tuple #[.agg (imgC (.slice (some ⟨bb, 0, none⟩) (lRules s) (lRules s)) (lClassOf s) vc).toArray, .int .i64 0]) ∧
      NatsIn w' w.heap.size bb (lBehind s) ∧ w'.ownsRow (bb + 1) 143 1 vc ys.length (condC ys) ∧ ys.map (fun y => y.2.map (·.1)) = lConds s ∧ (∀ y ∈ ys, CondIn w' (lClasses s) y) ∧ (∀ y ∈ ys, ∀ k, ownG y k → bb < k)))

theorem row_stay {w w' : World} {base : Nat} {e : TypeId} {size : Nat} {v : Value} {m : Nat} {xs : List Value} (hr : w.ownsRow base e size v m xs) (hB : Below w.heap.size w w') : w'.ownsRow base e size v m xs := by
  refine ⟨hr.1, ?_⟩
  have hlt := hr.lt
  rcases hr.2 with hn | ⟨g, cap, cur, rfl, hbg, hg, rest⟩
  · exact .inl hn
  · exact .inr ⟨g, cap, cur, rfl, hbg, (hB.block g (hlt g rfl).2).trans hg, rest⟩

set_option maxRecDepth 100000 in
set_option maxHeartbeats 2000000 in
theorem lread_any (s : ByteArray) (w : World) :
    Calls Try.prog 39 #[.string s] w fun e w' => LReadOut w s e w' := by
  by_cases hlong : 120000 < s.size
  · have HT := hidZ (there_newA w Try.zeroCells75 75 w.heap.size 258 Try.imgZero rfl)
    have hd : decide ((120000 : Int) < (s.size : Int)) = true := by simp; omega
    go_enter Try.func39, Try.ntmps39
    go_wp2_with (first | (refine wpList_store_mid rfl 75 (.tmp 2) (.tmp 9) rfl w.heap.size 0 Try.zeroCells75 rfl rfl ?_ ?_ Try.imgZeroOne ?_; (rw [Try.imgZero]; exact HT.out); (rw [Try.imgZero]; exact Try.imgSize)))
    refine ret_cell2 Try.results39 w.heap.size 0 Try.zeroCells75.toList _ (.int .i64 1) rfl rfl ?_ Try.underlying75 rfl (by rw [Array.length_toList, Try.imgZero]; exact Try.imgSize) rfl ?_
    · exact World.rangeAt_setCells_same _ _ _ _ (by rw [Array.length_toList, Try.imgZero]; exact HT.out)
    · refine ⟨below_setCells _ 0 _ w.heap.size ((Below.refl _ _).alloc (Nat.le_refl _) _) (Nat.le_refl _), .inl ⟨fun h => by omega, ?_⟩⟩
      have e : chk s = 1 := by unfold chk; rw [if_pos hlong]
      rw [e]
  · have hd : decide ((120000 : Int) < (s.size : Int)) = false := by simp; omega
    have HL0 : Hid (LRd ((w.alloc (.cells Try.zeroCells75 75)).alloc (.cells #[.string s, .int .i64 0, .bool false] 132)) (w.heap.size + 1) s (0, false)) := by
      have e : w.heap.size + 1 = (w.alloc (.cells Try.zeroCells75 75)).heap.size := by simp
      rw [e]
      refine ⟨?_, ?_, ?_, ?_, ?_⟩
      · rw [World.cell?_alloc_new]; rfl
      · rw [World.cell?_alloc_new]; rfl
      · rw [World.cell?_alloc_new]; rfl
      · intro i; rw [World.frozen?_alloc_new]
      · simp
    have HT := hidZ (World.there_alloc (there_newA w Try.zeroCells75 75 w.heap.size 258 Try.imgZero rfl) (.cells #[.string s, .int .i64 0, .bool false] 132))
    have HB : Hid (Below w.heap.size w ((w.alloc (.cells Try.zeroCells75 75)).alloc (.cells #[.string s, .int .i64 0, .bool false] 132))) := ((Below.refl _ _).alloc (Nat.le_refl _) _).alloc (by simp) _
    have hz : w.heap.size + 2 = ((w.alloc (.cells Try.zeroCells75 75)).alloc (.cells #[.string s, .int .i64 0, .bool false] 132)).heap.size := by simp
    go_enter Try.func39, Try.ntmps39
    go_wp2_with fail
    generalize (w.alloc (.cells Try.zeroCells75 75)).alloc (.cells #[.string s, .int .i64 0, .bool false] 132) = W at *
    refine (limage_any s (w.heap.size + 1) W (by omega) HL0.out).mono ?_
    rintro e w1 ⟨bb, vc, ys, rfl, hn, ho, hm, hc, hg, hl⟩
    have HLEN := hidZ (imgC_len (.slice (some ⟨bb, 0, none⟩) (lRules s) (lRules s)) (lClassOf s) vc (by unfold lClassOf; rw [numsP_len]; rfl))
    have HONE := hidZ (imgC_one (vb := .slice (some ⟨bb, 0, none⟩) (lRules s) (lRules s)) (vc := vc) (cs := lClassOf s) rfl (by obtain ⟨va, vcap, rfl⟩ := rowSlice ho; rfl))
    obtain ⟨IL, EIL⟩ : ∃ l, imgC (.slice (some ⟨bb, 0, none⟩) (lRules s) (lRules s)) (lClassOf s) vc = l := ⟨_, rfl⟩
    rw [EIL] at HLEN HONE ⊢
    replace EIL := hidZ EIL
    have HSZ : Hid (IL.toArray.size = 258) := by unfold Hid; simpa using HLEN.out
    have HTL : Hid (IL.toArray.toList = IL) := by unfold Hid; simp
    have HALL : Hid (IL.toArray.all (·.oneCell') = true) := all_oneCell_toArray HONE.out
    obtain ⟨IA, EIA⟩ : ∃ l, IL.toArray = l := ⟨_, rfl⟩
    rw [EIA] at HSZ HTL HALL ⊢
    replace EIA := hidZ EIA
    have HN := hidZ hn
    have HO := hidZ ho
    have HM := hidZ hm
    have HC := hidZ hc
    have HB1 : Hid (Below w.heap.size w w1) := HB.out.trans ((grown_below hg (by omega)).mono (by omega))
    have HT1 := hidZ (there_block HT.out (hg.block w.heap.size (by omega) (by intro e; injection e; omega)))
    have HRD := hidZ hl
    have hz1 : w.heap.size + 2 ≤ w1.heap.size := by have := hg.size; omega
    have c1 := hl.c1
    have c2 := hl.c2
    have HIF := hidZ (read_iff s)
    have hat := lh9_at s
    have hbb : w.heap.size + 4 ≤ bb := by have := HN.out.1; omega
    clear hn ho hm hc hg hl HL0 HB HT hz
    generalize lh9 s = R at *
    have HN2 := hidZ (there_newA w1 Try.zeroCells75 75 w1.heap.size 258 Try.imgZero rfl)
    have HBS : Hid (Below w1.heap.size w1 ((w1.alloc (.cells Try.zeroCells75 75)).setCells w1.heap.size 0 IA.toList)) := below_setCells _ 0 _ w1.heap.size ((Below.refl _ _).alloc (Nat.le_refl _) _) (Nat.le_refl _)
    have HRI : Hid (((w1.alloc (.cells Try.zeroCells75 75)).setCells w1.heap.size 0 IA.toList).rangeAt w1.heap.size 0 IL) := by
      have h := World.rangeAt_setCells_same (w1.alloc (.cells Try.zeroCells75 75)) w1.heap.size 0 IA.toList (by rw [Array.length_toList, HSZ.out]; exact HN2.out)
      rw [HTL.out] at h ⊢; exact h
    have HB2 : Hid (Below w.heap.size w ((w1.alloc (.cells Try.zeroCells75 75)).setCells w1.heap.size 0 IA.toList)) := HB1.out.trans (HBS.out.mono (by omega))
    have HT2 := hidZ (there_below HT1.out HBS.out (by omega))
    have HR2 := hidZ (HRD.out.below HBS.out (by omega))
    clear c1 c2
    have c1 := HR2.out.c1
    have c2 := HR2.out.c2
    have HNF := hidZ (HN.out.block HBS.out.size (HBS.out.block bb HN.out.2.1))
    have HOF := hidZ (row_stay HO.out HBS.out)
    have HCF : Hid (∀ y ∈ ys, CondIn ((w1.alloc (.cells Try.zeroCells75 75)).setCells w1.heap.size 0 IA.toList) (lClasses s) y ∧ ∀ k, ownG y k → bb < k) := fun y hy => ⟨(HC.out y hy).1.below HBS.out (Nat.le_refl _), (HC.out y hy).2⟩
    obtain ⟨a, b⟩ := R
    simp only at *
    generalize hW2 : (w1.alloc (.cells Try.zeroCells75 75)).setCells w1.heap.size 0 IA.toList = w2 at *
    have HW2 := hidZ hW2
    clear HB1 HT1 HRD HN HO HC HBS hW2
    cases b with
    | true =>
      have HNO : Hid (imgOk s = false) := by have := HIF.out; unfold Hid; simpa using this
      go_wp2_with (first | (refine wpList_store_mid rfl 75 (.tmp 5) (.tmp 12) rfl w1.heap.size 0 IA rfl rfl ?_ ?_ HALL.out ?_; (rw [HSZ.out]; exact HN2.out); (rw [HSZ.out]; exact Try.imgSize); rw [HW2.out]) | (refine wpList_store_mid rfl 75 (.tmp 2) (.tmp 22) rfl w.heap.size 0 Try.zeroCells75 rfl rfl ?_ ?_ Try.imgZeroOne ?_; (rw [Try.imgZero]; exact HT2.out); (rw [Try.imgZero]; exact Try.imgSize)))
      refine ret_cell2 Try.results39 w.heap.size 0 Try.zeroCells75.toList _ (.int .i64 5) rfl rfl ?_ Try.underlying75 rfl (by rw [Array.length_toList, Try.imgZero]; exact Try.imgSize) rfl ?_
      · exact World.rangeAt_setCells_same _ _ _ _ (by rw [Array.length_toList, Try.imgZero]; exact HT2.out)
      · refine ⟨below_setCells _ 0 _ w.heap.size HB2.out (Nat.le_refl _), .inl ⟨fun h => (by have h2 := h.2; rw [HNO.out] at h2; cases h2), ?_⟩⟩
        have e : chk s = 5 := by unfold chk; rw [if_neg hlong, HNO.out]; rfl
        rw [e]
    | false =>
      by_cases hlt : a < s.size
      · have HNO : Hid (imgOk s = false) := by have := HIF.out; unfold Hid; simpa [hlt] using this
        have hda : decide ((a : Int) < (s.size : Int)) = true := by simp; omega
        go_wp2_with (first | (refine wpList_store_mid rfl 75 (.tmp 5) (.tmp 12) rfl w1.heap.size 0 IA rfl rfl ?_ ?_ HALL.out ?_; (rw [HSZ.out]; exact HN2.out); (rw [HSZ.out]; exact Try.imgSize); rw [HW2.out]) | (refine wpList_store_mid rfl 75 (.tmp 2) (.tmp 22) rfl w.heap.size 0 Try.zeroCells75 rfl rfl ?_ ?_ Try.imgZeroOne ?_; (rw [Try.imgZero]; exact HT2.out); (rw [Try.imgZero]; exact Try.imgSize)))
        refine ret_cell2 Try.results39 w.heap.size 0 Try.zeroCells75.toList _ (.int .i64 5) rfl rfl ?_ Try.underlying75 rfl (by rw [Array.length_toList, Try.imgZero]; exact Try.imgSize) rfl ?_
        · exact World.rangeAt_setCells_same _ _ _ _ (by rw [Array.length_toList, Try.imgZero]; exact HT2.out)
        · refine ⟨below_setCells _ 0 _ w.heap.size HB2.out (Nat.le_refl _), .inl ⟨fun h => (by have h2 := h.2; rw [HNO.out] at h2; cases h2), ?_⟩⟩
          have e : chk s = 5 := by unfold chk; rw [if_neg hlong, HNO.out]; rfl
          rw [e]
      · have HYES : Hid (imgOk s = true) := by have := HIF.out; unfold Hid; simpa [hlt] using this
        have hda : decide ((a : Int) < (s.size : Int)) = false := by simp; omega
        go_wp2_with (first | (refine wpList_store_mid rfl 75 (.tmp 5) (.tmp 12) rfl w1.heap.size 0 IA rfl rfl ?_ ?_ HALL.out ?_; (rw [HSZ.out]; exact HN2.out); (rw [HSZ.out]; exact Try.imgSize); rw [HW2.out]) | (refine wpList_load_mid rfl 75 (.tmp 5) rfl w1.heap.size 0 rfl IL _ HRI.out Try.underlying75 rfl ?_ ?_; (rw [HLEN.out]; exact Try.imgSize); rw [EIA.out]) | (refine wpList_store_mid rfl 75 (.tmp 2) (.tmp 23) rfl w.heap.size 0 IA rfl rfl ?_ ?_ HALL.out ?_; (rw [HSZ.out]; exact HT2.out); (rw [HSZ.out]; exact Try.imgSize)))
        refine ret_cell2 Try.results39 w.heap.size 0 IL _ (.int .i64 0) rfl rfl ?_ Try.underlying75 rfl (by rw [HLEN.out]; exact Try.imgSize) rfl ?_
        · have h := World.rangeAt_setCells_same w2 w.heap.size 0 IA.toList (by rw [Array.length_toList, HSZ.out]; exact HT2.out)
          rw [HTL.out] at h ⊢; exact h
        · have hbs : Below w.heap.size w2 (w2.setCells w.heap.size 0 IA.toList) := below_setCells _ 0 _ w.heap.size (Below.refl _ _) (Nat.le_refl _)
          refine ⟨HB2.out.trans hbs, .inr ⟨by omega, HYES.out, bb, vc, ys, by rw [EIL.out], ?_, ownsRow_setCells_below HOF.out (by omega) _ 0, HM.out, fun y hy => ?_, fun y hy => (HCF.out y hy).2⟩⟩
          · obtain ⟨_, n2, n3⟩ := HNF.out.block hbs.size (setCells_block w2 w.heap.size 0 IA.toList bb (by omega))
            exact ⟨by omega, n2, n3⟩
          · obtain ⟨h1, h2⟩ := HCF.out y hy
            exact h1.block hbs.size (fun q _ ho => setCells_block w2 w.heap.size 0 IA.toList q (by have := h2 q ho; omega))
end Go.Proofs.Ytgjgjgihceijnaa

/- An image that layout.Read laid in memory, as cut reads it. -/
namespace Go.Stn
open Go.RowKit
theorem stC_get (cl : Nat) (zs : List ((Nat × List Int) × Nat)) : ∀ (k : Nat) (z : (Nat × List Int) × Nat), zs[k]? = some z → (stC cl zs)[2 * k]? = some (.int .i64 (z.1.1 : Int)) ∧ (stC cl zs)[2 * k + 1]? = some (.slice (some ⟨z.2, 0, none⟩) cl cl) := by
  induction zs with
  | nil => intro k z h; simp at h
  | cons y r ih =>
    intro k z h
    have e : stC cl (y :: r) = Value.int .i64 (y.1.1 : Int) :: Value.slice (some ⟨y.2, 0, none⟩) cl cl :: stC cl r := by simp [stC]
    rw [e]
    cases k with
    | zero => simp at h; subst h; exact ⟨rfl, rfl⟩
    | succ j =>
      have := ih j z (by simpa using h)
      rw [show 2 * (j + 1) = 2 * j + 1 + 1 by omega]
      exact ⟨by simpa using this.1, by simpa using this.2⟩
theorem condC_get (ys : List CondG) (k : Nat) (y : CondG) (h : ys[k]? = some y) : (condC ys)[k]? = some (.slice (some ⟨y.1, 0, none⟩) y.2.length y.2.length) := by
  unfold condC; rw [List.getElem?_map, h]; rfl
theorem intC_get (l : List Int) (k : Nat) (x : Int) (h : l[k]? = some x) : (intC l)[k]? = some (.int .i64 x) := by
  unfold intC; rw [List.getElem?_map, h]; rfl

/-- Where a byte leads, as a number: -1 for nowhere. -/
def leadJ (s : ByteArray) (c st v : Nat) : Int := leadI (leadN s c st v)

/-- An image in memory, below top. -/
structure IM (w : World) (s : ByteArray) (bb vg : Nat) (yb : Nat → Nat) (zb : Nat → Nat → Nat) (top : Nat) : Prop where
  be : ∀ r, r < iR s → w.cell? ⟨bb, r, none⟩ = some (.int .i64 (thenB s r))
  co : ∀ c, c < iM s → w.cell? ⟨vg, c, none⟩ = some (.slice (some ⟨yb c, 0, none⟩) (nSt s c) (nSt s c))
  tk : ∀ c st, c < iM s → st < nSt s c → w.cell? ⟨yb c, 2 * st, none⟩ = some (.int .i64 (markN s c st))
  nx : ∀ c st, c < iM s → st < nSt s c → w.cell? ⟨yb c, 2 * st + 1, none⟩ = some (.slice (some ⟨zb c st, 0, none⟩) (iK s) (iK s))
  ld : ∀ c st v, c < iM s → st < nSt s c → v < 256 → w.cell? ⟨zb c st, clsN s v, none⟩ = some (.int .i64 (leadJ s c st v))
  b0 : bb < top
  b1 : vg < top
  b2 : ∀ c, c < iM s → yb c < top
  b3 : ∀ c st, c < iM s → st < nSt s c → zb c st < top

/-- From where on it lies. -/
structure ILo (s : ByteArray) (bb vg : Nat) (yb : Nat → Nat) (zb : Nat → Nat → Nat) (lo : Nat) : Prop where
  b0 : lo ≤ bb
  b1 : lo ≤ vg
  b2 : ∀ c, c < iM s → lo ≤ yb c
  b3 : ∀ c st, c < iM s → st < nSt s c → lo ≤ zb c st

/-- Only the image's own blocks matter. -/
theorem IM.blocks {w w' : World} {s : ByteArray} {bb vg : Nat} {yb : Nat → Nat} {zb : Nat → Nat → Nat} {top lo : Nat} (h : IM w s bb vg yb zb top) (hl : ILo s bb vg yb zb lo) (hB : ∀ k, lo ≤ k → k < top → w'.heap[k]? = w.heap[k]?) : IM w' s bb vg yb zb top :=
  ⟨fun r hr => (World.cell?_of_block (w := w) (a := ⟨bb, r, none⟩) (hB _ hl.b0 h.b0)).trans (h.be r hr), fun c hc => (World.cell?_of_block (w := w) (a := ⟨vg, c, none⟩) (hB _ hl.b1 h.b1)).trans (h.co c hc),
    fun c st hc hs => (World.cell?_of_block (w := w) (a := ⟨yb c, 2 * st, none⟩) (hB _ (hl.b2 c hc) (h.b2 c hc))).trans (h.tk c st hc hs), fun c st hc hs => (World.cell?_of_block (w := w) (a := ⟨yb c, 2 * st + 1, none⟩) (hB _ (hl.b2 c hc) (h.b2 c hc))).trans (h.nx c st hc hs),
    fun c st v hc hs hv => (World.cell?_of_block (w := w) (a := ⟨zb c st, clsN s v, none⟩) (hB _ (hl.b3 c st hc hs) (h.b3 c st hc hs))).trans (h.ld c st v hc hs hv), h.b0, h.b1, h.b2, h.b3⟩

theorem IM.below {w w' : World} {s : ByteArray} {bb vg : Nat} {yb : Nat → Nat} {zb : Nat → Nat → Nat} {top B : Nat} (h : IM w s bb vg yb zb top) (hB : Below B w w') (hb : top ≤ B) : IM w' s bb vg yb zb top :=
  ⟨fun r hr => (hB.cell (p := ⟨bb, r, none⟩) (Nat.lt_of_lt_of_le h.b0 hb)).trans (h.be r hr), fun c hc => (hB.cell (p := ⟨vg, c, none⟩) (Nat.lt_of_lt_of_le h.b1 hb)).trans (h.co c hc),
    fun c st hc hs => (hB.cell (p := ⟨yb c, 2 * st, none⟩) (Nat.lt_of_lt_of_le (h.b2 c hc) hb)).trans (h.tk c st hc hs), fun c st hc hs => (hB.cell (p := ⟨yb c, 2 * st + 1, none⟩) (Nat.lt_of_lt_of_le (h.b2 c hc) hb)).trans (h.nx c st hc hs),
    fun c st v hc hs hv => (hB.cell (p := ⟨zb c st, clsN s v, none⟩) (Nat.lt_of_lt_of_le (h.b3 c st hc hs) hb)).trans (h.ld c st v hc hs hv), h.b0, h.b1, h.b2, h.b3⟩
theorem IM.drewN {w : World} {s : ByteArray} {bb vg : Nat} {yb : Nat → Nat} {zb : Nat → Nat → Nat} {top : Nat} (h : IM w s bb vg yb zb top) (q : Nat) : IM (w.drewN q) s bb vg yb zb top := ⟨h.be, h.co, h.tk, h.nx, h.ld, h.b0, h.b1, h.b2, h.b3⟩
end Go.Stn
namespace Go.Proofs.Ytgjgjgihceijnaa
open Go.RowKit Go.Stn

/-- What Read laid, to be read. -/
theorem read_mem {w : World} {s : ByteArray} (hi : imgOk s = true) {bb : Nat} {vc : Value} {ys : List CondG} {lo : Nat} (hn : NatsIn w lo bb (lBehind s)) (ho : w.ownsRow (bb + 1) 143 1 vc ys.length (condC ys))
    (hm : ys.map (fun y => y.2.map (·.1)) = lConds s) (hc : ∀ y ∈ ys, CondIn w (lClasses s) y) (hk : ∀ y ∈ ys, ∀ k, ownG y k → bb < k) : ∃ vg cap yb zb, vc = .slice (some ⟨vg, 0, none⟩) (iM s) cap ∧ IM w s bb vg yb zb w.heap.size ∧ ILo s bb vg yb zb lo := by
  have hd := img_read hi
  have hcs := (img_conds hi).1
  have hlen : ys.length = iM s := by have := congrArg List.length (hm.trans hcs); simpa using this
  have hM := (img_head hi).2.2.1
  have hlt := ho.lt
  obtain ⟨g, cap, rfl, hbg, hgl⟩ := ho.form (by omega)
  have hrow := row_range ho
  have hy : ∀ c, c < iM s → ∃ y, ys[c]? = some y ∧ y ∈ ys ∧ y.2.map (·.1) = condV s c := fun c hc' => by
    have hcl : c < ys.length := by omega
    refine ⟨ys[c], List.getElem?_eq_getElem hcl, List.getElem_mem hcl, ?_⟩
    have := congrArg (fun l => l[c]?) (hm.trans hcs)
    simp only [List.getElem?_map, List.getElem?_eq_getElem hcl, List.getElem?_range hc', Option.map_some] at this
    injection this
  have hz : ∀ c st, c < iM s → st < nSt s c → ∀ y, ys[c]? = some y → y ∈ ys → y.2.map (·.1) = condV s c → ∃ z, y.2[st]? = some z ∧ z ∈ y.2 ∧ z.1 = rowV s (iK s) (rwAt s c st) := fun c st hc' hs' y _ _ he => by
    have hl : y.2.length = nSt s c := by have := congrArg List.length he; unfold condV at this; simpa using this
    have hsl : st < y.2.length := by omega
    refine ⟨y.2[st], List.getElem?_eq_getElem hsl, List.getElem_mem hsl, ?_⟩
    have := congrArg (fun l => l[st]?) he
    unfold condV at this
    simp only [List.getElem?_map, List.getElem?_eq_getElem hsl, List.getElem?_range hs', Option.map_some] at this
    injection this
  have hlenY : ∀ c, c < iM s → ∀ y, ys[c]? = some y → y.2.map (·.1) = condV s c → y.2.length = nSt s c := fun c _ y _ he => by
    have := congrArg List.length he; unfold condV at this; simpa using this
  have cellAt : ∀ (b k : Nat) (l : List Value) (v : Value), w.rangeAt b 0 l → l[k]? = some v → w.cell? ⟨b, k, none⟩ = some v := fun b k l v hr hk => by
    have := hr k v hk; rw [Nat.zero_add] at this; exact this
  refine ⟨g, cap, fun c => ((ys[c]?).getD (0, [])).1, fun c st => ((((ys[c]?).getD (0, [])).2[st]?).getD ((0, []), 0)).2, by rw [hlen], ?_, ?_⟩
  refine ⟨fun r hr => ?_, fun c hc' => ?_, fun c st hc' hs' => ?_, fun c st hc' hs' => ?_, fun c st v hc' hs' hv => ?_, hn.2.1, (hlt g rfl).2, fun c hc' => ?_, fun c st hc' hs' => ?_⟩
  · refine cellAt _ _ _ _ hn.2.2 ?_
    rw [hd.be]
    unfold natC
    rw [List.getElem?_map, List.getElem?_map, List.getElem?_range hr]; rfl
  · obtain ⟨y, h1, h2, h3⟩ := hy c hc'
    refine cellAt _ _ _ _ hrow ?_
    rw [condC_get ys c y h1, h1, hlenY c hc' y h1 h3]; rfl
  · obtain ⟨y, h1, h2, h3⟩ := hy c hc'
    obtain ⟨z, h4, h5, h6⟩ := hz c st hc' hs' y h1 h2 h3
    simp only [h1, Option.getD_some]
    refine cellAt _ _ _ _ (hc y h2).rg ?_
    rw [(stC_get _ _ st z h4).1, h6]; rfl
  · obtain ⟨y, h1, h2, h3⟩ := hy c hc'
    obtain ⟨z, h4, h5, h6⟩ := hz c st hc' hs' y h1 h2 h3
    simp only [h1, Option.getD_some, h4]
    refine cellAt _ _ _ _ (hc y h2).rg ?_
    rw [(stC_get _ _ st z h4).2, hd.cl]
  · obtain ⟨y, h1, h2, h3⟩ := hy c hc'
    obtain ⟨z, h4, h5, h6⟩ := hz c st hc' hs' y h1 h2 h3
    simp only [h1, Option.getD_some, h4]
    refine cellAt _ _ _ _ ((hc y h2).rows z h5).2 (intC_get _ _ _ ?_)
    rw [h6]
    unfold rowV
    rw [List.getElem?_map, List.getElem?_range (cls_lt hi v hv)]
    unfold leadJ leadN
    rw [Option.map_some, show rwAt s c st + (clsN s v + 1) = rwAt s c st + 1 + clsN s v by omega]
  · obtain ⟨y, h1, h2, h3⟩ := hy c hc'
    simp only [h1, Option.getD_some]
    exact (hc y h2).lt
  · obtain ⟨y, h1, h2, h3⟩ := hy c hc'
    obtain ⟨z, h4, h5, h6⟩ := hz c st hc' hs' y h1 h2 h3
    simp only [h1, Option.getD_some, h4]
    exact ((hc y h2).rows z h5).1
  · have hbb := hn.1
    refine ⟨hbb, by omega, fun c hc' => ?_, fun c st hc' hs' => ?_⟩
    · obtain ⟨y, h1, h2, h3⟩ := hy c hc'
      simp only [h1, Option.getD_some]
      have := hk y h2 y.1 (.inl rfl)
      omega
    · obtain ⟨y, h1, h2, h3⟩ := hy c hc'
      obtain ⟨z, h4, h5, h6⟩ := hz c st hc' hs' y h1 h2 h3
      simp only [h1, Option.getD_some, h4]
      have := hk y h2 z.2 (.inr ⟨z, h5, rfl⟩)
      omega
end Go.Proofs.Ytgjgjgihceijnaa

/- Lists of numbers and tables in memory: what a later call leaves of them. -/
namespace Go.Stn
open Go.RowKit
/-- Numbers as they lie in memory. -/
def natR (n : Nat) (f : Nat → Nat) : List Value := (List.range n).map fun i => Value.int .i64 (f i : Int)
theorem natR_len (n : Nat) (f : Nat → Nat) : (natR n f).length = n := by simp [natR]
theorem natR_succ (n : Nat) (f : Nat → Nat) : natR (n + 1) f = natR n f ++ [.int .i64 (f n : Int)] := by unfold natR; rw [List.range_succ, List.map_append]; rfl
theorem natR_get {n : Nat} {f : Nat → Nat} {i : Nat} (h : i < n) : (natR n f)[i]? = some (.int .i64 (f i : Int)) := by unfold natR; rw [List.getElem?_map, List.getElem?_range h]; rfl

/-- A list that lies at the head of a block of which P holds. -/
def RowIn (w : World) (P : Nat → Prop) (v : Value) (cs : List Value) : Prop := ∃ g cap, v = .slice (some ⟨g, 0, none⟩) cs.length cap ∧ P g ∧ w.rangeAt g 0 cs
theorem RowIn.keep {w w' : World} {P P' : Nat → Prop} {v : Value} {cs : List Value} (h : RowIn w P v cs) (hk : ∀ k, P k → w'.heap[k]? = w.heap[k]? ∧ P' k) : RowIn w' P' v cs := by
  obtain ⟨g, cap, e, hp, hr⟩ := h
  exact ⟨g, cap, e, (hk g hp).2, rangeAt_block hr (hk g hp).1⟩
/-- The rows of a table. -/
def TRows (w : World) (P : Nat → Prop) (rs : List Value) (K : Nat) (to : Nat → Nat → Nat) : Prop := ∀ i v, rs[i]? = some v → RowIn w P v (natR K (to i))
theorem TRows.keep {w w' : World} {P P' : Nat → Prop} {rs : List Value} {K : Nat} {to : Nat → Nat → Nat} (h : TRows w P rs K to) (hk : ∀ k, P k → w'.heap[k]? = w.heap[k]? ∧ P' k) : TRows w' P' rs K to := fun i v hv => (h i v hv).keep hk
theorem TRows.snoc {w : World} {P : Nat → Prop} {rs : List Value} {K : Nat} {to : Nat → Nat → Nat} (h : TRows w P rs K to) {v : Value} (hv : RowIn w P v (natR K (to rs.length))) : TRows w P (rs ++ [v]) K to := fun i u hu => by
  by_cases hi : i < rs.length
  · rw [List.getElem?_append_left hi] at hu; exact h i u hu
  · have hlen := (List.getElem?_eq_some_iff.1 hu).1
    simp at hlen
    have e : i = rs.length := by omega
    subst e
    rw [List.getElem?_append_right (Nat.le_refl _)] at hu
    simp at hu
    subst hu
    exact hv
/-- A table: its marks, its rows. -/
def TabIn (w : World) (P : Nat → Prop) (v1 v2 : Value) (n K : Nat) (mk : Nat → Nat) (to : Nat → Nat → Nat) : Prop :=
  RowIn w P v1 (natR n mk) ∧ ∃ rs : List Value, rs.length = n ∧ RowIn w P v2 rs ∧ TRows w P rs K to
theorem TabIn.keep {w w' : World} {P P' : Nat → Prop} {v1 v2 : Value} {n K : Nat} {mk : Nat → Nat} {to : Nat → Nat → Nat} (h : TabIn w P v1 v2 n K mk to) (hk : ∀ k, P k → w'.heap[k]? = w.heap[k]? ∧ P' k) : TabIn w' P' v1 v2 n K mk to := by
  obtain ⟨h1, rs, h2, h3, h4⟩ := h
  exact ⟨h1.keep hk, rs, h2, h3.keep hk, h4.keep hk⟩
/-- Tables, one behind the other, as the cells of a list. -/
def TabsIn (w : World) (P : Nat → Prop) (ts : List Value) (m K : Nat) (n : Nat → Nat) (mk : Nat → Nat → Nat) (to : Nat → Nat → Nat → Nat) : Prop :=
  ∀ c, c < m → ∃ v1 v2, ts[2 * c]? = some v1 ∧ ts[2 * c + 1]? = some v2 ∧ TabIn w P v1 v2 (n c) K (mk c) (to c)
theorem TabsIn.keep {w w' : World} {P P' : Nat → Prop} {ts : List Value} {m K : Nat} {n : Nat → Nat} {mk : Nat → Nat → Nat} {to : Nat → Nat → Nat → Nat} (h : TabsIn w P ts m K n mk to) (hk : ∀ k, P k → w'.heap[k]? = w.heap[k]? ∧ P' k) : TabsIn w' P' ts m K n mk to := fun c hc => by
  obtain ⟨v1, v2, h1, h2, h3⟩ := h c hc
  exact ⟨v1, v2, h1, h2, h3.keep hk⟩
theorem TabsIn.snoc {w : World} {P : Nat → Prop} {ts : List Value} {m K : Nat} {n : Nat → Nat} {mk : Nat → Nat → Nat} {to : Nat → Nat → Nat → Nat} (h : TabsIn w P ts m K n mk to) (hl : ts.length = 2 * m) {v1 v2 : Value} (ht : TabIn w P v1 v2 (n m) K (mk m) (to m)) : TabsIn w P (ts ++ [v1, v2]) (m + 1) K n mk to := fun c hc => by
  by_cases e : c < m
  · obtain ⟨u1, u2, h1, h2, h3⟩ := h c e
    exact ⟨u1, u2, by rw [List.getElem?_append_left (by omega)]; exact h1, by rw [List.getElem?_append_left (by omega)]; exact h2, h3⟩
  · have e : c = m := by omega
    subst e
    refine ⟨v1, v2, ?_, ?_, ht⟩
    · rw [List.getElem?_append_right (by omega), hl, Nat.sub_self]; rfl
    · rw [List.getElem?_append_right (by omega), hl, show 2 * c + 1 - 2 * c = 1 by omega]; rfl

/-- What an append leaves alone. -/
theorem app_keep {w w1 : World} {o : Obj} {v : Value} {g : Nat} (hgrow : (w.alloc o).grownBy w1 v.ownBlock) (hat : v.ownBlock = some g ∨ g = w.heap.size + 1) :
    w.heap.size < w1.heap.size ∧ ∀ k, k < w.heap.size → v.ownBlock ≠ some k → w1.heap[k]? = w.heap[k]? ∧ g ≠ k := by
  refine ⟨by have := hgrow.size; simp at this; omega, fun k hk hv => ⟨(hgrow.block k (by simp; omega) (fun e => hv e.symm)).trans (Below.heap_alloc w o k hk), fun e => ?_⟩⟩
  subst e
  rcases hat with h | h
  · exact hv h
  · omega
theorem set_keep (w : World) (b i : Nat) (v : Value) {k : Nat} (h : k ≠ b) : (w.setCell ⟨b, i, none⟩ v).heap[k]? = w.heap[k]? := Below.heap_setCell w ⟨b, i, none⟩ v k (by intro e; exact h e)
end Go.Stn

/- Plain functions: what states' merge computes. States by number: tk the token, nx where each group leads. -/
namespace Go.Stn
/-- The part of a state; nowhere's is nowhere. -/
def prtP (pt : Nat → Int) (x : Int) : Int := if x = -1 then -1 else pt x.toNat
/-- Do two states lead alike, up to group k? -/
def ledB (pt : Nat → Int) (nx : Nat → Nat → Int) (s t k : Nat) : Bool := decide (∀ g, g < k → prtP pt (nx s g) = prtP pt (nx t g))
def alikeB (pt : Nat → Int) (tk : Nat → Nat) (nx : Nat → Nat → Int) (K s t : Nat) : Bool := decide (pt s = pt t) && (decide (tk s = tk t) && ledB pt nx s t K)
/-- The first of these with which s is alike; how many there are, if none. -/
def firstP (q : Nat → Nat → Bool) (firsts : List Nat) (s : Nat) : Nat → Nat
  | 0 => firsts.length
  | d + 1 => if q (firsts.getD (firsts.length - (d + 1)) 0) s = true then firsts.length - (d + 1) else firstP q firsts s d
/-- The states from s on, d of them, parted: each one's part, the first of each. -/
def partL (q : Nat → Nat → Bool) : Nat → Nat → List Nat → List Nat → List Nat × List Nat
  | 0, _, fin, firsts => (fin, firsts)
  | d + 1, s, fin, firsts =>
    if firstP q firsts s firsts.length = firsts.length then
      if 100 < firsts.length + 1 then (fin, firsts ++ [s]) else partL q d (s + 1) (fin ++ [firsts.length]) (firsts ++ [s])
    else partL q d (s + 1) (fin ++ [firstP q firsts s firsts.length]) firsts
def listF (l : List Nat) : Nat → Int := fun i => ((l.getD i 0 : Nat) : Int)
def partP (n : Nat) (q : Nat → Nat → Bool) : List Nat × List Nat := partL q n 0 [] []
/-- The rounds of merge: the last parts and their firsts; none: too many. -/
def mergeL (n : Nat) (tk : Nat → Nat) (nx : Nat → Nat → Int) (K : Nat) : Nat → List Nat → Nat → Option (List Nat × List Nat)
  | 0, _, _ => none
  | f + 1, parts, count =>
    if 100 < (partP n (alikeB (listF parts) tk nx K)).2.length then none
    else if (partP n (alikeB (listF parts) tk nx K)).2.length = count then some (partP n (alikeB (listF parts) tk nx K))
    else mergeL n tk nx K f (partP n (alikeB (listF parts) tk nx K)).1 (partP n (alikeB (listF parts) tk nx K)).2.length
/-- A state of each part, out of its first. -/
def gatherP (tk : Nat → Nat) (nx : Nat → Nat → Int) (K : Nat) (fin firsts : List Nat) : List (Nat × List Int) := firsts.map fun s => (tk s, (List.range K).map fun g => prtP (listF fin) (nx s g))

theorem firstP_le (q : Nat → Nat → Bool) (firsts : List Nat) (s : Nat) : ∀ d, firstP q firsts s d ≤ firsts.length := by
  intro d; induction d with
  | zero => exact Nat.le_refl _
  | succ k ih => rw [firstP]; split
                 · omega
                 · exact ih
theorem partL_len (q : Nat → Nat → Bool) : ∀ d s fin firsts, (partL q d s fin firsts).2.length ≤ firsts.length + d ∧ (partL q d s fin firsts).1.length ≤ fin.length + d := by
  intro d; induction d with
  | zero => intro s fin firsts; simp [partL]
  | succ k ih =>
    intro s fin firsts
    rw [partL]
    split
    · split
      · simp
      · have := ih (s + 1) (fin ++ [firsts.length]) (firsts ++ [s]); simp at this ⊢; omega
    · have := ih (s + 1) (fin ++ [firstP q firsts s firsts.length]) firsts; simp at this ⊢; omega
/-- Where the parting went to its end, each state has a part, and below the firsts. -/
theorem partL_ok (q : Nat → Nat → Bool) : ∀ d s fin firsts, (∀ x ∈ fin, x < firsts.length) → (∀ x ∈ firsts, x < s) → (partL q d s fin firsts).2.length ≤ 100 →
    (partL q d s fin firsts).1.length = fin.length + d ∧ (∀ x ∈ (partL q d s fin firsts).1, x < (partL q d s fin firsts).2.length) ∧ ∀ x ∈ (partL q d s fin firsts).2, x < s + d := by
  intro d; induction d with
  | zero => intro s fin firsts h1 h2 _; exact ⟨rfl, h1, h2⟩
  | succ k ih =>
    intro s fin firsts h1 h2 h3
    rw [partL] at h3 ⊢
    split at h3
    · rename_i hf
      rw [if_pos hf]
      split at h3
      · simp at h3; omega
      · rename_i hl
        rw [if_neg hl]
        have := ih (s + 1) (fin ++ [firsts.length]) (firsts ++ [s]) (fun x hx => by
          rcases List.mem_append.1 hx with h | h
          · have := h1 x h; simp; omega
          · simp at h; simp; omega) (fun x hx => by
          rcases List.mem_append.1 hx with h | h
          · have := h2 x h; omega
          · simp at h; omega) h3
        refine ⟨by rw [this.1]; simp; omega, this.2.1, fun x hx => by have := this.2.2 x hx; omega⟩
    · rename_i hf
      rw [if_neg hf]
      have := ih (s + 1) (fin ++ [firstP q firsts s firsts.length]) firsts (fun x hx => by
          rcases List.mem_append.1 hx with h | h
          · exact h1 x h
          · simp at h
            have := firstP_le q firsts s firsts.length; omega) (fun x hx => by have := h2 x hx; omega) h3
      refine ⟨by rw [this.1]; simp; omega, this.2.1, fun x hx => by have := this.2.2 x hx; omega⟩
end Go.Stn

/- states: partOf, alike: walks. -/
namespace Go.Stn
open Go.RowKit
/-- States in memory, below top: their list lies at g. -/
structure SIn (w : World) (top g n K : Nat) (zb : Nat → Nat) (tk : Nat → Nat) (nx : Nat → Nat → Int) : Prop where
  tkc : ∀ s, s < n → w.cell? ⟨g, s * 2, none⟩ = some (.int .i64 (tk s))
  nxc : ∀ s, s < n → w.cell? ⟨g, s * 2 + 1, none⟩ = some (.slice (some ⟨zb s, 0, none⟩) K K)
  ldc : ∀ s k, s < n → k < K → w.cell? ⟨zb s, k, none⟩ = some (.int .i64 (nx s k))
  bg : g < top
  bz : ∀ s, s < n → zb s < top
theorem SIn.below {w w' : World} {top g n K B : Nat} {zb tk : Nat → Nat} {nx : Nat → Nat → Int} (h : SIn w top g n K zb tk nx) (hB : Below B w w') (hb : top ≤ B) : SIn w' top g n K zb tk nx :=
  ⟨fun s hs => (hB.cell (p := ⟨g, s * 2, none⟩) (Nat.lt_of_lt_of_le h.bg hb)).trans (h.tkc s hs), fun s hs => (hB.cell (p := ⟨g, s * 2 + 1, none⟩) (Nat.lt_of_lt_of_le h.bg hb)).trans (h.nxc s hs),
    fun s k hs hk => (hB.cell (p := ⟨zb s, k, none⟩) (Nat.lt_of_lt_of_le (h.bz s hs) hb)).trans (h.ldc s k hs hk), h.bg, h.bz⟩
theorem SIn.drewN {w : World} {top g n K : Nat} {zb tk : Nat → Nat} {nx : Nat → Nat → Int} (h : SIn w top g n K zb tk nx) (q : Nat) : SIn (w.drewN q) top g n K zb tk nx := ⟨h.tkc, h.nxc, h.ldc, h.bg, h.bz⟩
/-- Numbers in memory. -/
def NIn (w : World) (g n : Nat) (f : Nat → Int) : Prop := ∀ i, i < n → w.cell? ⟨g, i, none⟩ = some (.int .i64 (f i))
theorem NIn.below {w w' : World} {g n B : Nat} {f : Nat → Int} (h : NIn w g n f) (hB : Below B w w') (hb : g < B) : NIn w' g n f := fun i hi => (hB.cell (p := ⟨g, i, none⟩) hb).trans (h i hi)
theorem NIn.of_row {w : World} {base e g cap : Nat} {l : List Nat} (h : w.ownsRow base e 1 (.slice (some ⟨g, 0, none⟩) l.length cap) l.length (natC l)) : NIn w g l.length (listF l) := fun i hi => by
  have h1 := h.cells rfl i (.int .i64 (listF l i)) (by
    unfold natC listF
    rw [List.getElem?_map, List.getElem?_eq_getElem hi, List.getD_eq_getElem?_getD, List.getElem?_eq_getElem hi]; rfl)
  by_cases hj : i = 0
  · subst hj; simpa [Addr.add] using h1
  · simpa [Addr.add, hj] using h1
theorem ledB_no {pt : Nat → Int} {nx : Nat → Nat → Int} {s t K g : Nat} (hg : g < K) (h : prtP pt (nx s g) ≠ prtP pt (nx t g)) : ledB pt nx s t K = false := by
  unfold ledB; rw [decide_eq_false_iff_not]; intro q; exact h (q g hg)
theorem ledB_yes {pt : Nat → Int} {nx : Nat → Nat → Int} {s t K : Nat} (h : ∀ g, g < K → prtP pt (nx s g) = prtP pt (nx t g)) : ledB pt nx s t K = true := by
  unfold ledB; rw [decide_eq_true_eq]; exact h
end Go.Stn
namespace Go.Proofs.Ytgjgjgihceijnaa
open Go.RowKit Go.Stn

theorem spartOf_any (pt : Nat → Int) (g n cap : Nat) (x : Int) (w : World) (hx : x = -1 ∨ (0 ≤ x ∧ x < n)) (h : NIn w g n pt) :
    Calls Try.prog 122 #[.slice (some ⟨g, 0, none⟩) n cap, .int .i64 x] w fun e w' => e = .returned (.int .i64 (prtP pt x)) ∧ w' = w := by
  by_cases hm : x = -1
  · subst hm
    go_enter Try.func122, Try.ntmps122
    go_wp2
    go_ret
    exact ⟨rfl, rfl⟩
  · have hd : (x == -1) = false := beq_eq_false_iff_ne.2 hm
    obtain ⟨k, rfl⟩ : ∃ k : Nat, x = (k : Int) := ⟨x.toNat, by omega⟩
    have hk : k < n := by omega
    have hc := h k hk
    have HE : Hid (prtP pt (k : Int) = pt k) := by unfold Hid prtP; rw [if_neg hm]; simp
    have hkI : (0 : Int) ≤ (k : Int) ∧ (k : Int) < (n : Int) := by omega
    clear hm hx h
    go_enter Try.func122, Try.ntmps122
    go_wp2
    go_ret
    exact ⟨by rw [HE.out]; rfl, rfl⟩

set_option maxRecDepth 100000 in
set_option maxHeartbeats 1000000 in
theorem salike_any (pt : Nat → Int) (g n cap K top pg pcap : Nat) (zb tk : Nat → Nat) (nx : Nat → Nat → Int) (s t : Nat) (w : World) (hs : s < n) (ht : t < n) (hK : K ≤ 300)
    (hr : ∀ i k, i < n → k < K → nx i k = -1 ∨ (0 ≤ nx i k ∧ nx i k < n)) (hS : SIn w top g n K zb tk nx) (hP : NIn w pg n pt) :
    Calls Try.prog 121 #[.slice (some ⟨g, 0, none⟩) n cap, .slice (some ⟨pg, 0, none⟩) n pcap, .int .i64 s, .int .i64 t] w fun e w' => e = .returned (.bool (alikeB pt tk nx K s t)) ∧ ∃ q, w' = w.drewN q := by
  have p1 := hP s hs
  have p2 := hP t ht
  have t1 := hS.tkc s hs
  have t2 := hS.tkc t ht
  have n1 := hS.nxc s hs
  have n2 := hS.nxc t ht
  have hsI : (0 : Int) ≤ (s : Int) ∧ (s : Int) < (n : Int) := by omega
  have htI : (0 : Int) ≤ (t : Int) ∧ (t : Int) < (n : Int) := by omega
  have HS := hidZ hS
  have HP := hidZ hP
  have HR := hidZ hr
  clear hS hP hr
  by_cases e1 : pt s = pt t
  · have hd1 : (pt s != pt t) = false := by rw [e1]; simp
    by_cases e2 : tk s = tk t
    · have hd2 : ((tk s : Int) != (tk t : Int)) = false := by rw [e2]; simp
      have HE : Hid (alikeB pt tk nx K s t = ledB pt nx s t K) := by unfold Hid alikeB; rw [decide_eq_true e1, decide_eq_true e2]; simp
      generalize pt s = a1 at *
      generalize pt t = a2 at *
      generalize tk s = a3 at *
      generalize tk t = a4 at *
      clear e1 e2
      go_enter Try.func121, Try.ntmps121
      go_wp2_with fail
      go_quiet (fail)
      go_wp2_with fail
      go_loopw [41] (fun x wr => ∃ (k q : Nat), x = .int .i64 (k : Int) ∧ k ≤ K ∧ wr = w.drewN q ∧ ∀ j, j < k → prtP pt (nx s j) = prtP pt (nx t j)) (fun x _ => K - (intOf x).toNat)
      case atStart => exact ⟨0, nq, rfl, Nat.zero_le _, rfl, fun j hj => absurd hj (Nat.not_lt_zero _)⟩
      case round =>
        obtain ⟨k, q, rfl, hk, rfl, hall⟩ := hrel
        have HA := hidZ hall
        clear hall
        by_cases hlt : k < K
        · have c1 := HS.out.ldc s k hs hlt
          have c2 := HS.out.ldc t k ht hlt
          have HC1 := hidZ (fun W (hW : NIn W pg n pt) => spartOf_any pt pg n pcap (nx s k) W (HR.out s k hs hlt) hW)
          have HC2 := hidZ (fun W (hW : NIn W pg n pt) => spartOf_any pt pg n pcap (nx t k) W (HR.out t k ht hlt) hW)
          have HN := hidZ (@ledB_no pt nx s t K k hlt)
          have HL : Hid (prtP pt (nx s k) = prtP pt (nx t k) → ∀ j, j < k + 1 → prtP pt (nx s j) = prtP pt (nx t j)) := fun h j hj => by
            by_cases e : j = k
            · rw [e]; exact h
            · exact HA.out j (by omega)
          have hkI : (0 : Int) ≤ (k : Int) ∧ (k : Int) < (K : Int) := by omega
          have hd3 : decide ((k : Int) < (K : Int)) = true := by simp; omega
          generalize nx s k = x1 at *
          generalize nx t k = x2 at *
          go_wp2_with fail
          refine (HC1.out (w.drewN q) HP.out).mono ?_
          rintro e w2 ⟨rfl, rfl⟩
          go_wp2_with fail
          refine (HC2.out (w.drewN q) HP.out).mono ?_
          rintro e w2 ⟨rfl, rfl⟩
          by_cases hne : prtP pt x1 = prtP pt x2
          · have hd4 : (prtP pt x1 != prtP pt x2) = false := by rw [hne]; simp
            have HA2 := hidZ (HL.out hne)
            generalize prtP pt x1 = y1 at *
            generalize prtP pt x2 = y2 at *
            clear hne
            go_wp2
            go_roundw
            case rel => exact ⟨k + 1, q, by go_num, hlt, rfl, HA2.out⟩
            case measure => simp [intOf]; omega
          · have hd4 : (prtP pt x1 != prtP pt x2) = true := by rw [bne_iff_ne]; exact hne
            have HE2 := hidZ (HN.out hne)
            generalize prtP pt x1 = y1 at *
            generalize prtP pt x2 = y2 at *
            clear hne
            go_wp2
            go_ret
            exact ⟨by rw [HE.out, HE2.out]; rfl, _, rfl⟩
        · have e : k = K := by omega
          subst e
          have HE2 : Hid (ledB pt nx s t k = true) := ledB_yes HA.out
          have hd3 : decide ((k : Int) < (k : Int)) = false := by simp
          go_wp2
          go_ret
          exact ⟨by rw [HE.out, HE2.out]; rfl, _, rfl⟩
    · have hd2 : ((tk s : Int) != (tk t : Int)) = true := by rw [bne_iff_ne]; omega
      have HE : Hid (alikeB pt tk nx K s t = false) := by unfold Hid alikeB; rw [decide_eq_false e2]; simp
      generalize pt s = a1 at *
      generalize pt t = a2 at *
      generalize tk s = a3 at *
      generalize tk t = a4 at *
      clear e1 e2
      go_enter Try.func121, Try.ntmps121
      go_wp2_with fail
      go_quiet (fail)
      go_wp2
      go_ret
      exact ⟨by rw [HE.out]; rfl, _, rfl⟩
  · have hd1 : (pt s != pt t) = true := by rw [bne_iff_ne]; exact e1
    have HE : Hid (alikeB pt tk nx K s t = false) := by unfold Hid alikeB; rw [decide_eq_false e1]; simp
    generalize pt s = a1 at *
    generalize pt t = a2 at *
    clear e1
    go_enter Try.func121, Try.ntmps121
    go_wp2_with fail
    go_quiet (fail)
    go_wp2
    go_ret
    exact ⟨by rw [HE.out]; rfl, _, rfl⟩
end Go.Proofs.Ytgjgjgihceijnaa

