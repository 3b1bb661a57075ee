/- layout.Read: a walk. -/
import Derived.Test.YtgjgjgihceijnaaLyWalk
import Derived.Test.YtgjgjgihceijnaaCkCheck
namespace Go.Proofs.Ytgjgjgihceijnaa
open Go.RowKit Go.Stn

/-- What Read comes to: an image in memory, or the error. -/
def LReadOut (w : World) (s : ByteArray) (e : Ending) (w' : World) : Prop :=
  Below w.heap.size w w' ∧ ((¬ (s.size ≤ 120000 ∧ imgOk s = true) ∧ e = .returned (.tuple #[.agg Try.zeroCells75, .int .i64 (chk s)])) ∨ (s.size ≤ 120000 ∧ imgOk s = true ∧
    ∃ (bb : Nat) (vc : Value) (ys : List CondG), e = .returned (.tuple #[.agg (imgC (.slice (some ⟨bb, 0, none⟩) (lRules s) (lRules s)) (lClassOf s) vc).toArray, .int .i64 0]) ∧
      NatsIn w' 0 bb (lBehind s) ∧ w'.ownsRow (bb + 1) 143 1 vc ys.length (condC ys) ∧ ys.map (fun y => y.2.map (·.1)) = lConds s ∧ (∀ y ∈ ys, CondIn w' (lClasses s) y)))

theorem row_stay {w w' : World} {base : Nat} {e : TypeId} {size : Nat} {v : Value} {m : Nat} {xs : List Value} (hr : w.ownsRow base e size v m xs) (hB : Below w.heap.size w w') : w'.ownsRow base e size v m xs := by
  refine ⟨hr.1, ?_⟩
  have hlt := hr.lt
  rcases hr.2 with hn | ⟨g, cap, cur, rfl, hbg, hg, rest⟩
  · exact .inl hn
  · exact .inr ⟨g, cap, cur, rfl, hbg, (hB.block g (hlt g rfl).2).trans hg, rest⟩

set_option maxRecDepth 100000 in
set_option maxHeartbeats 2000000 in
theorem lread_any (s : ByteArray) (w : World) :
    Calls Try.prog 39 #[.string s] w fun e w' => LReadOut w s e w' := by
  by_cases hlong : 120000 < s.size
  · have HT := hidZ (there_newA w Try.zeroCells75 75 w.heap.size 258 Try.imgZero rfl)
    have hd : decide ((120000 : Int) < (s.size : Int)) = true := by simp; omega
    go_enter Try.func39, Try.ntmps39
    go_wp2_with (first | (refine wpList_store_mid rfl 75 (.tmp 2) (.tmp 9) rfl w.heap.size 0 Try.zeroCells75 rfl rfl ?_ ?_ Try.imgZeroOne ?_; (rw [Try.imgZero]; exact HT.out); (rw [Try.imgZero]; exact Try.imgSize)))
    refine ret_cell2 Try.results39 w.heap.size 0 Try.zeroCells75.toList _ (.int .i64 1) rfl rfl ?_ Try.underlying75 rfl (by rw [Array.length_toList, Try.imgZero]; exact Try.imgSize) rfl ?_
    · exact World.rangeAt_setCells_same _ _ _ _ (by rw [Array.length_toList, Try.imgZero]; exact HT.out)
    · refine ⟨below_setCells _ 0 _ w.heap.size ((Below.refl _ _).alloc (Nat.le_refl _) _) (Nat.le_refl _), .inl ⟨fun h => by omega, ?_⟩⟩
      have e : chk s = 1 := by unfold chk; rw [if_pos hlong]
      rw [e]
  · have hd : decide ((120000 : Int) < (s.size : Int)) = false := by simp; omega
    have HL0 : Hid (LRd ((w.alloc (.cells Try.zeroCells75 75)).alloc (.cells #[.string s, .int .i64 0, .bool false] 132)) (w.heap.size + 1) s (0, false)) := by
      have e : w.heap.size + 1 = (w.alloc (.cells Try.zeroCells75 75)).heap.size := by simp
      rw [e]
      refine ⟨?_, ?_, ?_, ?_, ?_⟩
      · rw [World.cell?_alloc_new]; rfl
      · rw [World.cell?_alloc_new]; rfl
      · rw [World.cell?_alloc_new]; rfl
      · intro i; rw [World.frozen?_alloc_new]
      · simp
    have HT := hidZ (World.there_alloc (there_newA w Try.zeroCells75 75 w.heap.size 258 Try.imgZero rfl) (.cells #[.string s, .int .i64 0, .bool false] 132))
    have HB : Hid (Below w.heap.size w ((w.alloc (.cells Try.zeroCells75 75)).alloc (.cells #[.string s, .int .i64 0, .bool false] 132))) := ((Below.refl _ _).alloc (Nat.le_refl _) _).alloc (by simp) _
    have hz : w.heap.size + 2 = ((w.alloc (.cells Try.zeroCells75 75)).alloc (.cells #[.string s, .int .i64 0, .bool false] 132)).heap.size := by simp
    go_enter Try.func39, Try.ntmps39
    go_wp2_with fail
    generalize (w.alloc (.cells Try.zeroCells75 75)).alloc (.cells #[.string s, .int .i64 0, .bool false] 132) = W at *
    refine (limage_any s (w.heap.size + 1) W (by omega) HL0.out).mono ?_
    rintro e w1 ⟨bb, vc, ys, rfl, hn, ho, hm, hc, hg, hl⟩
    have HLEN := hidZ (imgC_len (.slice (some ⟨bb, 0, none⟩) (lRules s) (lRules s)) (lClassOf s) vc (by unfold lClassOf; rw [numsP_len]; rfl))
    have HONE := hidZ (imgC_one (vb := .slice (some ⟨bb, 0, none⟩) (lRules s) (lRules s)) (vc := vc) (cs := lClassOf s) rfl (by obtain ⟨va, vcap, rfl⟩ := rowSlice ho; rfl))
    obtain ⟨IL, EIL⟩ : ∃ l, imgC (.slice (some ⟨bb, 0, none⟩) (lRules s) (lRules s)) (lClassOf s) vc = l := ⟨_, rfl⟩
    rw [EIL] at HLEN HONE ⊢
    replace EIL := hidZ EIL
    have HSZ : Hid (IL.toArray.size = 258) := by unfold Hid; simpa using HLEN.out
    have HTL : Hid (IL.toArray.toList = IL) := by unfold Hid; simp
    have HALL : Hid (IL.toArray.all (·.oneCell') = true) := all_oneCell_toArray HONE.out
    obtain ⟨IA, EIA⟩ : ∃ l, IL.toArray = l := ⟨_, rfl⟩
    rw [EIA] at HSZ HTL HALL ⊢
    replace EIA := hidZ EIA
    have HN := hidZ hn
    have HO := hidZ ho
    have HM := hidZ hm
    have HC := hidZ hc
    have HB1 : Hid (Below w.heap.size w w1) := HB.out.trans ((grown_below hg (by omega)).mono (by omega))
    have HT1 := hidZ (there_block HT.out (hg.block w.heap.size (by omega) (by intro e; injection e; omega)))
    have HRD := hidZ hl
    have hz1 : w.heap.size + 2 ≤ w1.heap.size := by have := hg.size; omega
    have c1 := hl.c1
    have c2 := hl.c2
    have HIF := hidZ (read_iff s)
    have hat := lh9_at s
    have hbb : w.heap.size + 4 ≤ bb := by have := HN.out.1; omega
    clear hn ho hm hc hg hl HL0 HB HT hz
    generalize lh9 s = R at *
    have HN2 := hidZ (there_newA w1 Try.zeroCells75 75 w1.heap.size 258 Try.imgZero rfl)
    have HBS : Hid (Below w1.heap.size w1 ((w1.alloc (.cells Try.zeroCells75 75)).setCells w1.heap.size 0 IA.toList)) := below_setCells _ 0 _ w1.heap.size ((Below.refl _ _).alloc (Nat.le_refl _) _) (Nat.le_refl _)
    have HRI : Hid (((w1.alloc (.cells Try.zeroCells75 75)).setCells w1.heap.size 0 IA.toList).rangeAt w1.heap.size 0 IL) := by
      have h := World.rangeAt_setCells_same (w1.alloc (.cells Try.zeroCells75 75)) w1.heap.size 0 IA.toList (by rw [Array.length_toList, HSZ.out]; exact HN2.out)
      rw [HTL.out] at h ⊢; exact h
    have HB2 : Hid (Below w.heap.size w ((w1.alloc (.cells Try.zeroCells75 75)).setCells w1.heap.size 0 IA.toList)) := HB1.out.trans (HBS.out.mono (by omega))
    have HT2 := hidZ (there_below HT1.out HBS.out (by omega))
    have HR2 := hidZ (HRD.out.below HBS.out (by omega))
    clear c1 c2
    have c1 := HR2.out.c1
    have c2 := HR2.out.c2
    have HNF := hidZ (HN.out.block HBS.out.size (HBS.out.block bb HN.out.2.1))
    have HOF := hidZ (row_stay HO.out HBS.out)
    have HCF : Hid (∀ y ∈ ys, CondIn ((w1.alloc (.cells Try.zeroCells75 75)).setCells w1.heap.size 0 IA.toList) (lClasses s) y ∧ ∀ k, ownG y k → bb < k) := fun y hy => ⟨(HC.out y hy).1.below HBS.out (Nat.le_refl _), (HC.out y hy).2⟩
    obtain ⟨a, b⟩ := R
    simp only at *
    generalize hW2 : (w1.alloc (.cells Try.zeroCells75 75)).setCells w1.heap.size 0 IA.toList = w2 at *
    have HW2 := hidZ hW2
    clear HB1 HT1 HRD HN HO HC HBS hW2
    cases b with
    | true =>
      have HNO : Hid (imgOk s = false) := by have := HIF.out; unfold Hid; simpa using this
      go_wp2_with (first | (refine wpList_store_mid rfl 75 (.tmp 5) (.tmp 12) rfl w1.heap.size 0 IA rfl rfl ?_ ?_ HALL.out ?_; (rw [HSZ.out]; exact HN2.out); (rw [HSZ.out]; exact Try.imgSize); rw [HW2.out]) | (refine wpList_store_mid rfl 75 (.tmp 2) (.tmp 22) rfl w.heap.size 0 Try.zeroCells75 rfl rfl ?_ ?_ Try.imgZeroOne ?_; (rw [Try.imgZero]; exact HT2.out); (rw [Try.imgZero]; exact Try.imgSize)))
      refine ret_cell2 Try.results39 w.heap.size 0 Try.zeroCells75.toList _ (.int .i64 5) rfl rfl ?_ Try.underlying75 rfl (by rw [Array.length_toList, Try.imgZero]; exact Try.imgSize) rfl ?_
      · exact World.rangeAt_setCells_same _ _ _ _ (by rw [Array.length_toList, Try.imgZero]; exact HT2.out)
      · refine ⟨below_setCells _ 0 _ w.heap.size HB2.out (Nat.le_refl _), .inl ⟨fun h => (by have h2 := h.2; rw [HNO.out] at h2; cases h2), ?_⟩⟩
        have e : chk s = 5 := by unfold chk; rw [if_neg hlong, HNO.out]; rfl
        rw [e]
    | false =>
      by_cases hlt : a < s.size
      · have HNO : Hid (imgOk s = false) := by have := HIF.out; unfold Hid; simpa [hlt] using this
        have hda : decide ((a : Int) < (s.size : Int)) = true := by simp; omega
        go_wp2_with (first | (refine wpList_store_mid rfl 75 (.tmp 5) (.tmp 12) rfl w1.heap.size 0 IA rfl rfl ?_ ?_ HALL.out ?_; (rw [HSZ.out]; exact HN2.out); (rw [HSZ.out]; exact Try.imgSize); rw [HW2.out]) | (refine wpList_store_mid rfl 75 (.tmp 2) (.tmp 22) rfl w.heap.size 0 Try.zeroCells75 rfl rfl ?_ ?_ Try.imgZeroOne ?_; (rw [Try.imgZero]; exact HT2.out); (rw [Try.imgZero]; exact Try.imgSize)))
        refine ret_cell2 Try.results39 w.heap.size 0 Try.zeroCells75.toList _ (.int .i64 5) rfl rfl ?_ Try.underlying75 rfl (by rw [Array.length_toList, Try.imgZero]; exact Try.imgSize) rfl ?_
        · exact World.rangeAt_setCells_same _ _ _ _ (by rw [Array.length_toList, Try.imgZero]; exact HT2.out)
        · refine ⟨below_setCells _ 0 _ w.heap.size HB2.out (Nat.le_refl _), .inl ⟨fun h => (by have h2 := h.2; rw [HNO.out] at h2; cases h2), ?_⟩⟩
          have e : chk s = 5 := by unfold chk; rw [if_neg hlong, HNO.out]; rfl
          rw [e]
      · have HYES : Hid (imgOk s = true) := by have := HIF.out; unfold Hid; simpa [hlt] using this
        have hda : decide ((a : Int) < (s.size : Int)) = false := by simp; omega
        go_wp2_with (first | (refine wpList_store_mid rfl 75 (.tmp 5) (.tmp 12) rfl w1.heap.size 0 IA rfl rfl ?_ ?_ HALL.out ?_; (rw [HSZ.out]; exact HN2.out); (rw [HSZ.out]; exact Try.imgSize); rw [HW2.out]) | (refine wpList_load_mid rfl 75 (.tmp 5) rfl w1.heap.size 0 rfl IL _ HRI.out Try.underlying75 rfl ?_ ?_; (rw [HLEN.out]; exact Try.imgSize); rw [EIA.out]) | (refine wpList_store_mid rfl 75 (.tmp 2) (.tmp 23) rfl w.heap.size 0 IA rfl rfl ?_ ?_ HALL.out ?_; (rw [HSZ.out]; exact HT2.out); (rw [HSZ.out]; exact Try.imgSize)))
        refine ret_cell2 Try.results39 w.heap.size 0 IL _ (.int .i64 0) rfl rfl ?_ Try.underlying75 rfl (by rw [HLEN.out]; exact Try.imgSize) rfl ?_
        · have h := World.rangeAt_setCells_same w2 w.heap.size 0 IA.toList (by rw [Array.length_toList, HSZ.out]; exact HT2.out)
          rw [HTL.out] at h ⊢; exact h
        · have hbs : Below w.heap.size w2 (w2.setCells w.heap.size 0 IA.toList) := below_setCells _ 0 _ w.heap.size (Below.refl _ _) (Nat.le_refl _)
          refine ⟨HB2.out.trans hbs, .inr ⟨by omega, HYES.out, bb, vc, ys, by rw [EIL.out], ?_, ownsRow_setCells_below HOF.out (by omega) _ 0, HM.out, fun y hy => ?_⟩⟩
          · obtain ⟨_, n2, n3⟩ := HNF.out.block hbs.size (setCells_block w2 w.heap.size 0 IA.toList bb (by omega))
            exact ⟨Nat.zero_le _, n2, n3⟩
          · obtain ⟨h1, h2⟩ := HCF.out y hy
            exact h1.block hbs.size (fun q _ ho => setCells_block w2 w.heap.size 0 IA.toList q (by have := h2 q ho; omega))
end Go.Proofs.Ytgjgjgihceijnaa
