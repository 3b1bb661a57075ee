/- stencil.Scan: a walk. -/
import Derived.Test.YtgjgjgihceijnaaCuCut
import Derived.Test.YtgjgjgihceijnaaScScan
namespace Go.Proofs.Ytgjgjgihceijnaa
open Go.RowKit Go.Stn

set_option maxRecDepth 100000 in
set_option maxHeartbeats 1000000 in
theorem pscan_any (s inp : ByteArray) (w : World) (_hs : s.size ≤ maxLen) (_hin : inp.size ≤ maxLen) :
    Calls Try.prog 24 #[.string s, .string inp] w fun e w' =>
      ∃ v, e = .returned (.tuple #[v, .int .i64 (scanR s inp).2.1, .int .i64 (scanR s inp).2.2]) ∧ Row3 w' w'.heap.size v (scanR s inp).1 ∧ Below w.heap.size w w' := by
  by_cases hl : 300 < inp.size
  · have hr : scanR s inp = ([], 0, 1) := by unfold scanR; rw [if_pos (.inr hl)]
    rw [hr]
    clear hr
    have hd : decide ((300 : Int) < (inp.size : Int)) = true := by simp; omega
    go_enter Try.func24, Try.ntmps24
    go_wp2
    go_ret3
    exact ⟨_, rfl, ownsRow_row3 (World.ownsRow_nil w w.heap.size 61 3), Below.refl _ _⟩
  · have hd : decide ((300 : Int) < (inp.size : Int)) = false := by simp; omega
    by_cases hok : s.size ≤ 120000 ∧ imgOk s = true
    · have hr : scanR s inp = ((cutP s inp 0).1, (cutP s inp 0).2.1, 0) := by unfold scanR; rw [if_neg (by omega), if_pos hok.2]
      rw [hr]
      clear hr
      go_enter Try.func24, Try.ntmps24
      go_wp2_with fail
      refine (lread_any s _).mono ?_
      rintro e w1 ⟨hb1, ⟨hno, _⟩ | ⟨_, hi, bb, vc, ys, rfl, hn, ho, hm, hc⟩⟩
      · exact absurd hok hno
      obtain ⟨vg, cap, yb, zb, rfl, him⟩ := read_mem hi hn ho hm hc
      have hlen := imgC_len (.slice (some ⟨bb, 0, none⟩) (lRules s) (lRules s)) (lClassOf s) (.slice (some ⟨vg, 0, none⟩) (iM s) cap) (by unfold lClassOf; rw [numsP_len]; rfl)
      have hone := imgC_one (vb := .slice (some ⟨bb, 0, none⟩) (lRules s) (lRules s)) (vc := .slice (some ⟨vg, 0, none⟩) (iM s) cap) (cs := lClassOf s) rfl rfl
      obtain ⟨IL, EIL⟩ : ∃ l, imgC (.slice (some ⟨bb, 0, none⟩) (lRules s) (lRules s)) (lClassOf s) (.slice (some ⟨vg, 0, none⟩) (iM s) cap) = l := ⟨_, rfl⟩
      rw [EIL] at hlen hone ⊢
      have HTL : Hid (IL.toArray.toList = IL) := by unfold Hid; simp
      have HSZ : Hid (IL.toArray.size = 258) := by unfold Hid; simpa using hlen
      have HALL : Hid (IL.toArray.all (·.oneCell') = true) := all_oneCell_toArray hone
      obtain ⟨A, EA⟩ : ∃ a, IL.toArray = a := ⟨_, rfl⟩
      rw [EA] at HTL HSZ HALL ⊢
      have HA : Hid (A.toList = imgC (.slice (some ⟨bb, 0, none⟩) (iR s) (iR s)) (lClassOf s) (.slice (some ⟨vg, 0, none⟩) (iM s) cap)) := by
        unfold Hid; rw [HTL.out, ← EIL, (img_read hi).ru]
      have HIM := hidZ him
      have HI := hidZ hi
      have HB1 := hidZ hb1
      have HN2 := hidZ (there_newA w1 Try.zeroCells75 75 w1.heap.size 258 Try.imgZero rfl)
      have HBS : Hid (Below w1.heap.size w1 ((w1.alloc (.cells Try.zeroCells75 75)).setCells w1.heap.size 0 A.toList)) := below_setCells _ 0 _ w1.heap.size ((Below.refl _ _).alloc (Nat.le_refl _) _) (Nat.le_refl _)
      have HRI : Hid (((w1.alloc (.cells Try.zeroCells75 75)).setCells w1.heap.size 0 A.toList).rangeAt w1.heap.size 0 A.toList) := World.rangeAt_setCells_same _ _ _ _ (by rw [Array.length_toList, HSZ.out]; exact HN2.out)
      clear EIL hlen hone EA HTL him hi hb1 hn ho hm hc hok
      have HIM2 : Hid (IM ((w1.alloc (.cells Try.zeroCells75 75)).setCells w1.heap.size 0 A.toList) s bb vg yb zb ((w1.alloc (.cells Try.zeroCells75 75)).setCells w1.heap.size 0 A.toList).heap.size) := (HIM.out.below HBS.out (Nat.le_refl _)).mono HBS.out.size
      have HB2 : Hid (Below w.heap.size w ((w1.alloc (.cells Try.zeroCells75 75)).setCells w1.heap.size 0 A.toList)) := HB1.out.trans (HBS.out.mono HB1.out.size)
      generalize hW2 : (w1.alloc (.cells Try.zeroCells75 75)).setCells w1.heap.size 0 A.toList = w2 at *
      replace hW2 := hidZ hW2
      clear HIM HB1 HBS
      go_wp2_with (first
        | (refine wpList_store_mid rfl 75 (.tmp 7) (.tmp 18) rfl w1.heap.size 0 A rfl rfl ?_ ?_ HALL.out ?_; (rw [HSZ.out]; exact HN2.out); (rw [HSZ.out]; exact Try.imgSize); rw [hW2.out])
        | (refine wpList_load_mid rfl 75 (.tmp 7) rfl w1.heap.size 0 rfl A.toList _ HRI.out Try.underlying75 rfl ?_ ?_; (rw [Array.length_toList, HSZ.out]; exact Try.imgSize))
        | fail)
      refine (ccut_any s inp 0 bb vg cap yb zb A w2 HI.out (by omega) (img_head HI.out).2.2.1 HA.out HIM2.out).mono ?_
      rintro e w3 ⟨vt, rfl, hrt, hb3⟩
      have HR3 := hidZ hrt
      have HB3 := hidZ (HB2.out.trans (hb3.mono HB2.out.size))
      clear hrt hb3
      go_wp2
      go_ret3
      exact ⟨vt, rfl, ownsRow_row3 HR3.out, HB3.out⟩
    · have hr : scanR s inp = ([], 0, chk s) := by
        unfold scanR chk
        by_cases h1 : 120000 < s.size
        · rw [if_pos (.inl h1), if_pos h1]
        · have h2 : ¬ imgOk s = true := fun h => hok ⟨by omega, h⟩
          rw [if_neg (by omega), if_neg h2, if_neg h1, if_neg h2]
      have hne : ((chk s : Int) != 0) = true := by
        rw [bne_iff_ne]
        unfold chk
        by_cases h1 : 120000 < s.size
        · rw [if_pos h1]; decide
        · have h2 : ¬ imgOk s = true := fun h => hok ⟨by omega, h⟩
          rw [if_neg h1, if_neg h2]; decide
      rw [hr]
      clear hr
      go_enter Try.func24, Try.ntmps24
      go_wp2_with fail
      refine (lread_any s _).mono ?_
      rintro e w1 ⟨hb1, ⟨_, rfl⟩ | ⟨h1, h2, _⟩⟩
      · have HB1 := hidZ hb1
        have HN2 := hidZ (there_newA w1 Try.zeroCells75 75 w1.heap.size 258 Try.imgZero rfl)
        have HBS : Hid (Below w1.heap.size w1 ((w1.alloc (.cells Try.zeroCells75 75)).setCells w1.heap.size 0 Try.zeroCells75.toList)) := below_setCells _ 0 _ w1.heap.size ((Below.refl _ _).alloc (Nat.le_refl _) _) (Nat.le_refl _)
        clear hb1 hok
        obtain ⟨ck, hck⟩ : ∃ ck, chk s = ck := ⟨_, rfl⟩
        rw [hck] at hne ⊢
        replace hck := hidZ hck
        go_wp2_with (first
          | (refine wpList_store_mid rfl 75 (.tmp 7) (.tmp 18) rfl w1.heap.size 0 Try.zeroCells75 rfl rfl ?_ ?_ Try.imgZeroOne ?_; (rw [Try.imgZero]; exact HN2.out); (rw [Try.imgZero]; exact Try.imgSize))
          | fail)
        go_ret3
        exact ⟨_, by rw [hck.out]; rfl, ownsRow_row3 (World.ownsRow_nil _ 0 61 3), HB1.out.trans (HBS.out.mono HB1.out.size)⟩
      · exact absurd ⟨h1, h2⟩ hok
end Go.Proofs.Ytgjgjgihceijnaa
