/- Texts put together: CkParse3, CkCheck, LyRead, CuMem, ScHope, ScLead, ScLongest. -/
import Derived.Test.YtgjgjgihceijnaaGreatG03
import Derived.Test.YtgjgjgihceijnaaGreatG02
import Derived.Test.YtgjgjgihceijnaaGreatG01
namespace Go.Proofs.YtgjgjgihceijnaaGreat
open Go.RowKit Go.Stn

set_option maxRecDepth 100000 in
set_option maxHeartbeats 2000000 in
theorem parse_head (s : ByteArray) (w : World) (hs : s.size ≤ 120000) (hA : headA s = true) (hB : headB s = true) (hC : headC s = true) :
    Calls Tryz.prog 111 #[.string s] w fun e w' =>
      ∃ v, e = .returned (.tuple #[v, .bool (imgOk s)]) ∧ Below w.heap.size w w' ∧ (imgOk s = true → v = .pointer (some ⟨w.heap.size, 0, none⟩) ∧ ∃ va vs, ImgAt w' w.heap.size (w.heap.size + 1) s (iM s) (iM s) va vs) := by
  obtain ⟨h4, hp, h1, h8⟩ := headA_iff.1 hA
  have hp := (pre3 s (by omega)).2 hp
  have hb3 : (s[3]).toNat = iR s := bt_eq s 3 (by omega)
  have hB2 := hB
  unfold headB at hB2
  simp only [Bool.and_eq_true, decide_eq_true_eq] at hB2
  obtain ⟨hb, hz⟩ := hB2
  have hlt := belowB_size hb
  have hm4 := belowB_le hb 0 (by omega)
  have hbe : (s[4 + iR s]).toNat = iM s := bt_eq s (4 + iR s) (by omega)
  have hm4 : iM s ≤ 4 := by unfold iM; simp at hm4; omega
  have hC2 := hC
  unfold headC at hC2
  simp only [Bool.and_eq_true] at hC2
  obtain ⟨hc1, hc2⟩ := hC2
  have hlt2 := belowB_size hc2
  have hbk : (s[4 + iR s + 1]).toNat = bt s (5 + iR s) := by rw [bt_eq s (4 + iR s + 1) (by omega)]; congr 1; omega
  have hkl := bt_lt s (5 + iR s)
  have hz0 : ((iM s : Int) == 0) = false := beq_eq_false_iff_ne.2 (by omega)
  have HK : Hid (iK s = bt s (5 + iR s) + 1) := rfl
  have hd4 : decide ((s.size : Int) < 4) = false := by simp; omega
  have hd1 : decide ((iR s : Int) < 1) = false := by simp; omega
  have hd8 : decide (8 < (iR s : Int)) = false := by simp; omega
  by_cases hD : headD s = true
  · have hd : belowB s (6 + iR s) 256 (bt s (5 + iR s) : Int) = true := by
      have : headD s = belowB s (6 + iR s) 256 (bt s (5 + iR s) : Int) := by unfold headD iK; congr 1; omega
      rw [← this]; exact hD
    have hlt3 := belowB_size hd
    have HH : Hid (headA s = true ∧ headB s = true ∧ headC s = true ∧ headD s = true) := ⟨hA, hB, hC, hD⟩
    clear hA hB hC hD
    generalize hkk : bt s (5 + iR s) = k at *
    have HKK : Hid (bt s (5 + iR s) = k) := hkk
    clear hkk
    go_enter Tryz.func111, Tryz.ntmps111
    go_wp2_with (first | (go_at_call 117; refine (below_any s (4 + iR s) 1 4 _ (by unfold maxLen; omega) (by omega) (by omega)).mono ?_; rintro e w ⟨rfl, rfl⟩))
    go_quiet ((go_at_call 117; exact Calls.quiet_of_same (below_any s 4 (iR s) (1 + iM s) _ (by unfold maxLen; omega) (by omega) (by omega))))
    go_wp2_with fail
    refine (below_z s (5 + iR s) 1 _ _ 255 _ (by omega) (by omega) (by omega) (by omega) rfl).mono ?_
    rintro e w ⟨rfl, rfl⟩
    go_wp2_with fail
    go_quiet ((go_at_call 117; exact Calls.quiet_of_same (below_z s (6 + iR s) 256 _ _ k _ (by omega) (by omega) (by omega) (by omega) rfl)))
    go_wp2_with fail
    rw [hd]
    go_loopw [8, 9] (fun a c wr => ∃ (cn : Nat) (va vs : Value), cn ≤ iM s ∧ c = .int .i64 cn ∧ a = .int .i64 (iAt s cn) ∧ (∀ l, l < cn → stOk s (iR s) (iK s) (iAt s l) = true) ∧ ImgAt wr w.heap.size (w.heap.size + 1) s cn cn va vs ∧ Below w.heap.size w wr)
      (fun _ c _ => 4 - (intOf c).toNat)
    case atStart =>
      refine ⟨0, .slice none 0 0, .slice none 0 0, Nat.zero_le _, rfl, ?_, fun l h => absurd h (Nat.not_lt_zero _), ?_, ?_⟩
      · show _ = Value.int .i64 ((262 + iR s : Nat) : Int); go_num
      · exact ImgAt.start w s k _ _ (by rw [HK.out])
      · exact _root_.Go.below_drewN (((_root_.Go.below_drewN ((Below.refl w.heap.size w).alloc (Nat.le_refl _) _) _).setCell (p := ⟨w.heap.size, 4, none⟩) (Nat.le_refl _) _).setCell (p := ⟨w.heap.size, 3, none⟩) (Nat.le_refl _) _) _
    case round =>
      obtain ⟨cn, va, vs, hcn, rfl, rfl, hall, himg, hbel⟩ := hrel
      have hsm := iAt_small hs h8 hall
      have hic2 := himg.c2
      have HA : Hid (∀ l, l < cn → stOk s (iR s) (iK s) (iAt s l) = true) := hall
      clear hall
      have hBz := hbel.size
      by_cases hlt4 : cn < iM s
      · cases hst : stOk s (iR s) (iK s) (iAt s cn) with
        | false =>
          have hno := not_img_st hlt4 hst
          have hno2 := st_no (s := s) (rules := iR s) (many := iK s) (i := iAt s cn) (by rw [hst]; simp)
          have HN : Hid (imgOk s = false) := hno
          clear hno
          go_wp2_with fail
          refine (states_any s (iR s) (iK s) (iAt s cn) w.heap.size _ hs (by omega) (iK_le s) himg.c0 himg.c1 himg.c4).mono ?_
          rintro e wr2 ⟨rfl, q, rfl⟩
          rw [hno2.1, hno2.2.1, hno2.2.2]
          go_wp2
          go_ret2
          refine ⟨.pointer none, by rw [HN.out]; rfl, _root_.Go.below_drewN hbel _, fun h => ?_⟩
          rw [HN.out] at h; cases h
        | true =>
          have hyes := st_yes hst
          have hstep := iAt_step hst
          go_wp2_with fail
          refine (states_any s (iR s) (iK s) (iAt s cn) w.heap.size _ hs (by omega) (iK_le s) himg.c0 himg.c1 himg.c4).mono ?_
          rintro e wr2 ⟨rfl, q, rfl⟩
          rw [hyes.1, hyes.2, hst]
          have himg2 := himg.drewN q
          have hbel2 := _root_.Go.below_drewN hbel q
          have hBz2 := himg2.hz
          generalize wr.drewN q = wq at *
          clear himg hbel hBz hic2
          have hic5 := himg2.c5
          go_wp2_with (first
            | (at_builtin; refine wpList_app1 wq rfl (.tmp 134) (.tmp 137) 59 rfl (w.heap.size + 1) 3 (.int .i64 0) 1 8 Tryz.underlying59 Tryz.infoInt rfl (by decide) (by decide) va cn (atRow s cn) [.int .i64 ((iAt s cn : Int) + 1)] _ rfl himg2.ra _ rfl rfl rfl (by simp [Value.oneCell']) (by omega) (by omega) ?_; intro g cap w1 hown hgrow hat hlt5; obtain ⟨k5, kf5, k6, kf6⟩ := himg2.kept himg2.ra hgrow; have himg3 := himg2.app5 _ hown hgrow hat; have hz3 := himg3.hz)
            | (at_builtin; refine wpList_app1 (w1.setCell ⟨w.heap.size, 5, none⟩ (.slice (some ⟨g, 0, none⟩) (cn + 1) cap)) rfl (.tmp 145) (.tmp 147) 59 rfl (w.heap.size + 1) 3 (.int .i64 0) 1 8 Tryz.underlying59 Tryz.infoInt rfl (by decide) (by decide) vs cn (stRow s cn) [.int .i64 (bt s (iAt s cn))] _ rfl himg3.rs w1.heap.size (by simp) rfl rfl (by simp [Value.oneCell']) (by omega) (by omega) ?_; intro g2 cap2 w2 hown2 hgrow2 hat2 hlt6; obtain ⟨m5, mf5, m6, mf6⟩ := himg3.kept himg3.rs hgrow2; have himg4 := himg3.app6 _ hown2 hgrow2 hat2))
          go_roundw
          case rel =>
            refine ⟨cn + 1, _, _, hlt4, by go_num, ?_, ?_, himg4, ?_⟩
            · rw [hstep.1]; simp
            · intro l hl
              by_cases e : l = cn
              · rw [e]; exact hst
              · exact HA.out l (by omega)
            · have hb1 := (below_app hbel2 (by omega) himg2.ra (by omega) hgrow).setCell (p := ⟨w.heap.size, 5, none⟩) (Nat.le_refl _) (.slice (some ⟨g, 0, none⟩) (cn + 1) cap)
              exact (below_app hb1 (by omega) himg3.rs (by omega) hgrow2).setCell (p := ⟨w.heap.size, 6, none⟩) (Nat.le_refl _) _
          case measure => simp [intOf]; omega
      · have e : cn = iM s := by omega
        have hfin : imgOk s = decide (iAt s cn = s.size) := by
          rw [Bool.eq_iff_iff, imgOk_iff, decide_eq_true_eq, e]
          rw [e] at HA
          exact ⟨fun h => h.2.2.2.2.2, fun h => ⟨HH.out.1, HH.out.2.1, HH.out.2.2.1, HH.out.2.2.2, HA.out, h⟩⟩
        have HF : Hid (imgOk s = decide (iAt s cn = s.size)) := hfin
        have E : Hid (cn = iM s) := e
        clear hfin e
        go_wp2
        go_ret2
        refine ⟨.pointer (some ⟨w.heap.size, 0, none⟩), ?_, hbel, fun _ => ⟨rfl, va, vs, ?_⟩⟩
        · rw [HF.out]; simp
          rw [Bool.eq_iff_iff, beq_iff_eq, decide_eq_true_eq]; omega
        · rw [← E.out]; exact himg
  · have hd : belowB s (6 + iR s) 256 (bt s (5 + iR s) : Int) = false := by
      have : headD s = belowB s (6 + iR s) 256 (bt s (5 + iR s) : Int) := by unfold headD iK; congr 1; omega
      rw [← this]; simpa using hD
    have HN : Hid (imgOk s = false) := not_img_D (by simpa using hD)
    clear hA hB hC hD
    generalize hkk : bt s (5 + iR s) = k at *
    clear hkk
    go_enter Tryz.func111, Tryz.ntmps111
    go_wp2_with (first | (go_at_call 117; refine (below_any s (4 + iR s) 1 4 _ (by unfold maxLen; omega) (by omega) (by omega)).mono ?_; rintro e w ⟨rfl, rfl⟩))
    go_quiet ((go_at_call 117; exact Calls.quiet_of_same (below_any s 4 (iR s) (1 + iM s) _ (by unfold maxLen; omega) (by omega) (by omega))))
    go_wp2_with fail
    refine (below_z s (5 + iR s) 1 _ _ 255 _ (by omega) (by omega) (by omega) (by omega) rfl).mono ?_
    rintro e w ⟨rfl, rfl⟩
    go_wp2_with fail
    go_quiet ((go_at_call 117; exact Calls.quiet_of_same (below_z s (6 + iR s) 256 _ _ k _ (by omega) (by omega) (by omega) (by omega) rfl)))
    go_wp2
    go_ret2
    refine ⟨.pointer none, by rw [HN.out]; rfl, ?_, fun h => ?_⟩
    · exact _root_.Go.below_drewN (((_root_.Go.below_drewN ((Below.refl w.heap.size w).alloc (Nat.le_refl _) _) _).setCell (p := ⟨w.heap.size, 4, none⟩) (Nat.le_refl _) _).setCell (p := ⟨w.heap.size, 3, none⟩) (Nat.le_refl _) _) _
    · rw [HN.out] at h; cases h

/-- Parse, of whatever text of at most MaxImage bytes. -/
theorem parse_any (s : ByteArray) (w : World) (hs : s.size ≤ 120000) :
    Calls Tryz.prog 111 #[.string s] w fun e w' =>
      ∃ v, e = .returned (.tuple #[v, .bool (imgOk s)]) ∧ Below w.heap.size w w' ∧ (imgOk s = true → v = .pointer (some ⟨w.heap.size, 0, none⟩) ∧ ∃ va vs, ImgAt w' w.heap.size (w.heap.size + 1) s (iM s) (iM s) va vs) := by
  cases hA : headA s with
  | false =>
    refine (parse_noA s w hs hA).mono ?_
    rintro e w' ⟨rfl, rfl⟩
    rw [not_img_A hA]
    exact ⟨_, rfl, Below.refl _ _, fun h => by cases h⟩
  | true =>
    cases hB : headB s with
    | false =>
      refine (parse_noB s w hs hA hB).mono ?_
      rintro e w' ⟨rfl, hb⟩
      rw [not_img_B hB]
      exact ⟨_, rfl, hb, fun h => by cases h⟩
    | true =>
      cases hC : headC s with
      | false =>
        refine (parse_noC s w hs hA hB hC).mono ?_
        rintro e w' ⟨rfl, hb⟩
        rw [not_img_C hC]
        exact ⟨_, rfl, hb, fun h => by cases h⟩
      | true => exact parse_head s w hs hA hB hC
end Go.Proofs.YtgjgjgihceijnaaGreat

namespace Go.Proofs.YtgjgjgihceijnaaGreat
open Go.RowKit Go.Stn

/-- What Check answers. -/
def chk (s : ByteArray) : Int := if 120000 < s.size then 1 else if imgOk s = true then 0 else 5

set_option maxHeartbeats 400000 in
theorem check_any (s : ByteArray) (w : World) (hs : s.size ≤ maxLen) :
    Calls Tryz.prog 87 #[.string s] w fun e w' => e = .returned (.int .i64 (chk s)) ∧ Below w.heap.size w w' := by
  unfold maxLen at hs
  by_cases hl : 120000 < s.size
  · have hc : chk s = 1 := by unfold chk; rw [if_pos hl]
    rw [hc]; clear hc
    go_enter Tryz.func87, Tryz.ntmps87
    go_wp2
    go_ret
    exact ⟨rfl, Below.refl _ _⟩
  · cases hi : imgOk s with
    | true =>
      have hc : chk s = 0 := by unfold chk; rw [if_neg hl, if_pos hi]
      rw [hc]; clear hc
      go_enter Tryz.func87, Tryz.ntmps87
      go_wp2_with (go_at_call 111; refine (parse_any s _ (by omega)).mono ?_; rintro e w1 ⟨v, rfl, hb, _⟩)
      go_ret
      exact ⟨rfl, hb⟩
    | false =>
      have hc : chk s = 5 := by unfold chk; rw [if_neg hl, if_neg (by rw [hi]; decide)]
      rw [hc]; clear hc
      go_enter Tryz.func87, Tryz.ntmps87
      go_wp2_with (go_at_call 111; refine (parse_any s _ (by omega)).mono ?_; rintro e w1 ⟨v, rfl, hb, _⟩)
      go_ret
      exact ⟨rfl, hb⟩
end Go.Proofs.YtgjgjgihceijnaaGreat

namespace Go.Proofs.YtgjgjgihceijnaaGreat
open Go.RowKit Go.Stn

/-- What Read comes to: an image in memory, or the error. -/
def LReadOut (w : World) (s : ByteArray) (e : Ending) (w' : World) : Prop :=
  Below w.heap.size w w' ∧ ((¬ (s.size ≤ 120000 ∧ imgOk s = true) ∧ e = .returned (.tuple #[.agg Tryz.zeroCells72, .int .i64 (chk s)])) ∨ (s.size ≤ 120000 ∧ imgOk s = true ∧
    ∃ (bb : Nat) (vc : Value) (ys : List CondG), e = .returned (.tuple #[.agg (imgC (.slice (some ⟨bb, 0, none⟩) (lRules s) (lRules s)) (lClassOf s) vc).toArray, .int .i64 0]) ∧
      NatsIn w' w.heap.size bb (lBehind s) ∧ w'.ownsRow (bb + 1) 110 1 vc ys.length (condC ys) ∧ ys.map (fun y => y.2.map (·.1)) = lConds s ∧ (∀ y ∈ ys, CondIn w' (lClasses s) y) ∧ (∀ y ∈ ys, ∀ k, ownG y k → bb < k)))

theorem row_stay {w w' : World} {base : Nat} {e : TypeId} {size : Nat} {v : Value} {m : Nat} {xs : List Value} (hr : w.ownsRow base e size v m xs) (hB : Below w.heap.size w w') : w'.ownsRow base e size v m xs := by
  refine ⟨hr.1, ?_⟩
  have hlt := hr.lt
  rcases hr.2 with hn | ⟨g, cap, cur, rfl, hbg, hg, rest⟩
  · exact .inl hn
  · exact .inr ⟨g, cap, cur, rfl, hbg, (hB.block g (hlt g rfl).2).trans hg, rest⟩

set_option maxRecDepth 100000 in
set_option maxHeartbeats 2000000 in
theorem lread_any (s : ByteArray) (w : World) :
    Calls Tryz.prog 24 #[.string s] w fun e w' => LReadOut w s e w' := by
  by_cases hlong : 120000 < s.size
  · have HT := hidZ (there_newA w Tryz.zeroCells72 72 w.heap.size 258 Tryz.imgZero rfl)
    have hd : decide ((120000 : Int) < (s.size : Int)) = true := by simp; omega
    go_enter Tryz.func24, Tryz.ntmps24
    go_wp2_with (first | (refine wpList_store_mid rfl 72 (.tmp 2) (.tmp 9) rfl w.heap.size 0 Tryz.zeroCells72 rfl rfl ?_ ?_ Tryz.imgZeroOne ?_; (rw [Tryz.imgZero]; exact HT.out); (rw [Tryz.imgZero]; exact Tryz.imgSize)))
    refine ret_cell2 Tryz.results24 w.heap.size 0 Tryz.zeroCells72.toList _ (.int .i64 1) rfl rfl ?_ Tryz.underlying72 rfl (by rw [Array.length_toList, Tryz.imgZero]; exact Tryz.imgSize) rfl ?_
    · exact World.rangeAt_setCells_same _ _ _ _ (by rw [Array.length_toList, Tryz.imgZero]; exact HT.out)
    · refine ⟨below_setCells _ 0 _ w.heap.size ((Below.refl _ _).alloc (Nat.le_refl _) _) (Nat.le_refl _), .inl ⟨fun h => by omega, ?_⟩⟩
      have e : chk s = 1 := by unfold chk; rw [if_pos hlong]
      rw [e]
  · have hd : decide ((120000 : Int) < (s.size : Int)) = false := by simp; omega
    have HL0 : Hid (LRd ((w.alloc (.cells Tryz.zeroCells72 72)).alloc (.cells #[.string s, .int .i64 0, .bool false] 138)) (w.heap.size + 1) s (0, false)) := by
      have e : w.heap.size + 1 = (w.alloc (.cells Tryz.zeroCells72 72)).heap.size := by simp
      rw [e]
      refine ⟨?_, ?_, ?_, ?_, ?_⟩
      · rw [World.cell?_alloc_new]; rfl
      · rw [World.cell?_alloc_new]; rfl
      · rw [World.cell?_alloc_new]; rfl
      · intro i; rw [World.frozen?_alloc_new]
      · simp
    have HT := hidZ (World.there_alloc (there_newA w Tryz.zeroCells72 72 w.heap.size 258 Tryz.imgZero rfl) (.cells #[.string s, .int .i64 0, .bool false] 138))
    have HB : Hid (Below w.heap.size w ((w.alloc (.cells Tryz.zeroCells72 72)).alloc (.cells #[.string s, .int .i64 0, .bool false] 138))) := ((Below.refl _ _).alloc (Nat.le_refl _) _).alloc (by simp) _
    have hz : w.heap.size + 2 = ((w.alloc (.cells Tryz.zeroCells72 72)).alloc (.cells #[.string s, .int .i64 0, .bool false] 138)).heap.size := by simp
    go_enter Tryz.func24, Tryz.ntmps24
    go_wp2_with fail
    generalize (w.alloc (.cells Tryz.zeroCells72 72)).alloc (.cells #[.string s, .int .i64 0, .bool false] 138) = W at *
    refine (limage_any s (w.heap.size + 1) W (by omega) HL0.out).mono ?_
    rintro e w1 ⟨bb, vc, ys, rfl, hn, ho, hm, hc, hg, hl⟩
    have HLEN := hidZ (imgC_len (.slice (some ⟨bb, 0, none⟩) (lRules s) (lRules s)) (lClassOf s) vc (by unfold lClassOf; rw [numsP_len]; rfl))
    have HONE := hidZ (imgC_one (vb := .slice (some ⟨bb, 0, none⟩) (lRules s) (lRules s)) (vc := vc) (cs := lClassOf s) rfl (by obtain ⟨va, vcap, rfl⟩ := rowSlice ho; rfl))
    obtain ⟨IL, EIL⟩ : ∃ l, imgC (.slice (some ⟨bb, 0, none⟩) (lRules s) (lRules s)) (lClassOf s) vc = l := ⟨_, rfl⟩
    rw [EIL] at HLEN HONE ⊢
    replace EIL := hidZ EIL
    have HSZ : Hid (IL.toArray.size = 258) := by unfold Hid; simpa using HLEN.out
    have HTL : Hid (IL.toArray.toList = IL) := by unfold Hid; simp
    have HALL : Hid (IL.toArray.all (·.oneCell') = true) := all_oneCell_toArray HONE.out
    obtain ⟨IA, EIA⟩ : ∃ l, IL.toArray = l := ⟨_, rfl⟩
    rw [EIA] at HSZ HTL HALL ⊢
    replace EIA := hidZ EIA
    have HN := hidZ hn
    have HO := hidZ ho
    have HM := hidZ hm
    have HC := hidZ hc
    have HB1 : Hid (Below w.heap.size w w1) := HB.out.trans ((grown_below hg (by omega)).mono (by omega))
    have HT1 := hidZ (there_block HT.out (hg.block w.heap.size (by omega) (by intro e; injection e; omega)))
    have HRD := hidZ hl
    have hz1 : w.heap.size + 2 ≤ w1.heap.size := by have := hg.size; omega
    have c1 := hl.c1
    have c2 := hl.c2
    have HIF := hidZ (read_iff s)
    have hat := lh9_at s
    have hbb : w.heap.size + 4 ≤ bb := by have := HN.out.1; omega
    clear hn ho hm hc hg hl HL0 HB HT hz
    generalize lh9 s = R at *
    have HN2 := hidZ (there_newA w1 Tryz.zeroCells72 72 w1.heap.size 258 Tryz.imgZero rfl)
    have HBS : Hid (Below w1.heap.size w1 ((w1.alloc (.cells Tryz.zeroCells72 72)).setCells w1.heap.size 0 IA.toList)) := below_setCells _ 0 _ w1.heap.size ((Below.refl _ _).alloc (Nat.le_refl _) _) (Nat.le_refl _)
    have HRI : Hid (((w1.alloc (.cells Tryz.zeroCells72 72)).setCells w1.heap.size 0 IA.toList).rangeAt w1.heap.size 0 IL) := by
      have h := World.rangeAt_setCells_same (w1.alloc (.cells Tryz.zeroCells72 72)) w1.heap.size 0 IA.toList (by rw [Array.length_toList, HSZ.out]; exact HN2.out)
      rw [HTL.out] at h ⊢; exact h
    have HB2 : Hid (Below w.heap.size w ((w1.alloc (.cells Tryz.zeroCells72 72)).setCells w1.heap.size 0 IA.toList)) := HB1.out.trans (HBS.out.mono (by omega))
    have HT2 := hidZ (there_below HT1.out HBS.out (by omega))
    have HR2 := hidZ (HRD.out.below HBS.out (by omega))
    clear c1 c2
    have c1 := HR2.out.c1
    have c2 := HR2.out.c2
    have HNF := hidZ (HN.out.block HBS.out.size (HBS.out.block bb HN.out.2.1))
    have HOF := hidZ (row_stay HO.out HBS.out)
    have HCF : Hid (∀ y ∈ ys, CondIn ((w1.alloc (.cells Tryz.zeroCells72 72)).setCells w1.heap.size 0 IA.toList) (lClasses s) y ∧ ∀ k, ownG y k → bb < k) := fun y hy => ⟨(HC.out y hy).1.below HBS.out (Nat.le_refl _), (HC.out y hy).2⟩
    obtain ⟨a, b⟩ := R
    simp only at *
    generalize hW2 : (w1.alloc (.cells Tryz.zeroCells72 72)).setCells w1.heap.size 0 IA.toList = w2 at *
    have HW2 := hidZ hW2
    clear HB1 HT1 HRD HN HO HC HBS hW2
    cases b with
    | true =>
      have HNO : Hid (imgOk s = false) := by have := HIF.out; unfold Hid; simpa using this
      go_wp2_with (first | (refine wpList_store_mid rfl 72 (.tmp 5) (.tmp 12) rfl w1.heap.size 0 IA rfl rfl ?_ ?_ HALL.out ?_; (rw [HSZ.out]; exact HN2.out); (rw [HSZ.out]; exact Tryz.imgSize); rw [HW2.out]) | (refine wpList_store_mid rfl 72 (.tmp 2) (.tmp 22) rfl w.heap.size 0 Tryz.zeroCells72 rfl rfl ?_ ?_ Tryz.imgZeroOne ?_; (rw [Tryz.imgZero]; exact HT2.out); (rw [Tryz.imgZero]; exact Tryz.imgSize)))
      refine ret_cell2 Tryz.results24 w.heap.size 0 Tryz.zeroCells72.toList _ (.int .i64 5) rfl rfl ?_ Tryz.underlying72 rfl (by rw [Array.length_toList, Tryz.imgZero]; exact Tryz.imgSize) rfl ?_
      · exact World.rangeAt_setCells_same _ _ _ _ (by rw [Array.length_toList, Tryz.imgZero]; exact HT2.out)
      · refine ⟨below_setCells _ 0 _ w.heap.size HB2.out (Nat.le_refl _), .inl ⟨fun h => (by have h2 := h.2; rw [HNO.out] at h2; cases h2), ?_⟩⟩
        have e : chk s = 5 := by unfold chk; rw [if_neg hlong, HNO.out]; rfl
        rw [e]
    | false =>
      by_cases hlt : a < s.size
      · have HNO : Hid (imgOk s = false) := by have := HIF.out; unfold Hid; simpa [hlt] using this
        have hda : decide ((a : Int) < (s.size : Int)) = true := by simp; omega
        go_wp2_with (first | (refine wpList_store_mid rfl 72 (.tmp 5) (.tmp 12) rfl w1.heap.size 0 IA rfl rfl ?_ ?_ HALL.out ?_; (rw [HSZ.out]; exact HN2.out); (rw [HSZ.out]; exact Tryz.imgSize); rw [HW2.out]) | (refine wpList_store_mid rfl 72 (.tmp 2) (.tmp 22) rfl w.heap.size 0 Tryz.zeroCells72 rfl rfl ?_ ?_ Tryz.imgZeroOne ?_; (rw [Tryz.imgZero]; exact HT2.out); (rw [Tryz.imgZero]; exact Tryz.imgSize)))
        refine ret_cell2 Tryz.results24 w.heap.size 0 Tryz.zeroCells72.toList _ (.int .i64 5) rfl rfl ?_ Tryz.underlying72 rfl (by rw [Array.length_toList, Tryz.imgZero]; exact Tryz.imgSize) rfl ?_
        · exact World.rangeAt_setCells_same _ _ _ _ (by rw [Array.length_toList, Tryz.imgZero]; exact HT2.out)
        · refine ⟨below_setCells _ 0 _ w.heap.size HB2.out (Nat.le_refl _), .inl ⟨fun h => (by have h2 := h.2; rw [HNO.out] at h2; cases h2), ?_⟩⟩
          have e : chk s = 5 := by unfold chk; rw [if_neg hlong, HNO.out]; rfl
          rw [e]
      · have HYES : Hid (imgOk s = true) := by have := HIF.out; unfold Hid; simpa [hlt] using this
        have hda : decide ((a : Int) < (s.size : Int)) = false := by simp; omega
        go_wp2_with (first | (refine wpList_store_mid rfl 72 (.tmp 5) (.tmp 12) rfl w1.heap.size 0 IA rfl rfl ?_ ?_ HALL.out ?_; (rw [HSZ.out]; exact HN2.out); (rw [HSZ.out]; exact Tryz.imgSize); rw [HW2.out]) | (refine wpList_load_mid rfl 72 (.tmp 5) rfl w1.heap.size 0 rfl IL _ HRI.out Tryz.underlying72 rfl ?_ ?_; (rw [HLEN.out]; exact Tryz.imgSize); rw [EIA.out]) | (refine wpList_store_mid rfl 72 (.tmp 2) (.tmp 23) rfl w.heap.size 0 IA rfl rfl ?_ ?_ HALL.out ?_; (rw [HSZ.out]; exact HT2.out); (rw [HSZ.out]; exact Tryz.imgSize)))
        refine ret_cell2 Tryz.results24 w.heap.size 0 IL _ (.int .i64 0) rfl rfl ?_ Tryz.underlying72 rfl (by rw [HLEN.out]; exact Tryz.imgSize) rfl ?_
        · have h := World.rangeAt_setCells_same w2 w.heap.size 0 IA.toList (by rw [Array.length_toList, HSZ.out]; exact HT2.out)
          rw [HTL.out] at h ⊢; exact h
        · have hbs : Below w.heap.size w2 (w2.setCells w.heap.size 0 IA.toList) := below_setCells _ 0 _ w.heap.size (Below.refl _ _) (Nat.le_refl _)
          refine ⟨HB2.out.trans hbs, .inr ⟨by omega, HYES.out, bb, vc, ys, by rw [EIL.out], ?_, ownsRow_setCells_below HOF.out (by omega) _ 0, HM.out, fun y hy => ?_, fun y hy => (HCF.out y hy).2⟩⟩
          · obtain ⟨_, n2, n3⟩ := HNF.out.block hbs.size (setCells_block w2 w.heap.size 0 IA.toList bb (by omega))
            exact ⟨by omega, n2, n3⟩
          · obtain ⟨h1, h2⟩ := HCF.out y hy
            exact h1.block hbs.size (fun q _ ho => setCells_block w2 w.heap.size 0 IA.toList q (by have := h2 q ho; omega))
end Go.Proofs.YtgjgjgihceijnaaGreat

namespace Go.Stn
open Go.RowKit
theorem stC_get (cl : Nat) (zs : List ((Nat × List Int) × Nat)) : ∀ (k : Nat) (z : (Nat × List Int) × Nat), zs[k]? = some z → (stC cl zs)[2 * k]? = some (.int .i64 (z.1.1 : Int)) ∧ (stC cl zs)[2 * k + 1]? = some (.slice (some ⟨z.2, 0, none⟩) cl cl) := by
  induction zs with
  | nil => intro k z h; simp at h
  | cons y r ih =>
    intro k z h
    have e : stC cl (y :: r) = Value.int .i64 (y.1.1 : Int) :: Value.slice (some ⟨y.2, 0, none⟩) cl cl :: stC cl r := by simp [stC]
    rw [e]
    cases k with
    | zero => simp at h; subst h; exact ⟨rfl, rfl⟩
    | succ j =>
      have := ih j z (by simpa using h)
      rw [show 2 * (j + 1) = 2 * j + 1 + 1 by omega]
      exact ⟨by simpa using this.1, by simpa using this.2⟩
theorem condC_get (ys : List CondG) (k : Nat) (y : CondG) (h : ys[k]? = some y) : (condC ys)[k]? = some (.slice (some ⟨y.1, 0, none⟩) y.2.length y.2.length) := by
  unfold condC; rw [List.getElem?_map, h]; rfl
theorem intC_get (l : List Int) (k : Nat) (x : Int) (h : l[k]? = some x) : (intC l)[k]? = some (.int .i64 x) := by
  unfold intC; rw [List.getElem?_map, h]; rfl

/-- Where a byte leads, as a number: -1 for nowhere. -/
def leadJ (s : ByteArray) (c st v : Nat) : Int := leadI (leadN s c st v)

/-- An image in memory, below top. -/
structure IM (w : World) (s : ByteArray) (bb vg : Nat) (yb : Nat → Nat) (zb : Nat → Nat → Nat) (top : Nat) : Prop where
  be : ∀ r, r < iR s → w.cell? ⟨bb, r, none⟩ = some (.int .i64 (thenB s r))
  co : ∀ c, c < iM s → w.cell? ⟨vg, c, none⟩ = some (.slice (some ⟨yb c, 0, none⟩) (nSt s c) (nSt s c))
  tk : ∀ c st, c < iM s → st < nSt s c → w.cell? ⟨yb c, 2 * st, none⟩ = some (.int .i64 (markN s c st))
  nx : ∀ c st, c < iM s → st < nSt s c → w.cell? ⟨yb c, 2 * st + 1, none⟩ = some (.slice (some ⟨zb c st, 0, none⟩) (iK s) (iK s))
  ld : ∀ c st v, c < iM s → st < nSt s c → v < 256 → w.cell? ⟨zb c st, clsN s v, none⟩ = some (.int .i64 (leadJ s c st v))
  b0 : bb < top
  b1 : vg < top
  b2 : ∀ c, c < iM s → yb c < top
  b3 : ∀ c st, c < iM s → st < nSt s c → zb c st < top

/-- From where on it lies. -/
structure ILo (s : ByteArray) (bb vg : Nat) (yb : Nat → Nat) (zb : Nat → Nat → Nat) (lo : Nat) : Prop where
  b0 : lo ≤ bb
  b1 : lo ≤ vg
  b2 : ∀ c, c < iM s → lo ≤ yb c
  b3 : ∀ c st, c < iM s → st < nSt s c → lo ≤ zb c st

/-- Only the image's own blocks matter. -/
theorem IM.blocks {w w' : World} {s : ByteArray} {bb vg : Nat} {yb : Nat → Nat} {zb : Nat → Nat → Nat} {top lo : Nat} (h : IM w s bb vg yb zb top) (hl : ILo s bb vg yb zb lo) (hB : ∀ k, lo ≤ k → k < top → w'.heap[k]? = w.heap[k]?) : IM w' s bb vg yb zb top :=
  ⟨fun r hr => (World.cell?_of_block (w := w) (a := ⟨bb, r, none⟩) (hB _ hl.b0 h.b0)).trans (h.be r hr), fun c hc => (World.cell?_of_block (w := w) (a := ⟨vg, c, none⟩) (hB _ hl.b1 h.b1)).trans (h.co c hc),
    fun c st hc hs => (World.cell?_of_block (w := w) (a := ⟨yb c, 2 * st, none⟩) (hB _ (hl.b2 c hc) (h.b2 c hc))).trans (h.tk c st hc hs), fun c st hc hs => (World.cell?_of_block (w := w) (a := ⟨yb c, 2 * st + 1, none⟩) (hB _ (hl.b2 c hc) (h.b2 c hc))).trans (h.nx c st hc hs),
    fun c st v hc hs hv => (World.cell?_of_block (w := w) (a := ⟨zb c st, clsN s v, none⟩) (hB _ (hl.b3 c st hc hs) (h.b3 c st hc hs))).trans (h.ld c st v hc hs hv), h.b0, h.b1, h.b2, h.b3⟩

theorem IM.below {w w' : World} {s : ByteArray} {bb vg : Nat} {yb : Nat → Nat} {zb : Nat → Nat → Nat} {top B : Nat} (h : IM w s bb vg yb zb top) (hB : Below B w w') (hb : top ≤ B) : IM w' s bb vg yb zb top :=
  ⟨fun r hr => (hB.cell (p := ⟨bb, r, none⟩) (Nat.lt_of_lt_of_le h.b0 hb)).trans (h.be r hr), fun c hc => (hB.cell (p := ⟨vg, c, none⟩) (Nat.lt_of_lt_of_le h.b1 hb)).trans (h.co c hc),
    fun c st hc hs => (hB.cell (p := ⟨yb c, 2 * st, none⟩) (Nat.lt_of_lt_of_le (h.b2 c hc) hb)).trans (h.tk c st hc hs), fun c st hc hs => (hB.cell (p := ⟨yb c, 2 * st + 1, none⟩) (Nat.lt_of_lt_of_le (h.b2 c hc) hb)).trans (h.nx c st hc hs),
    fun c st v hc hs hv => (hB.cell (p := ⟨zb c st, clsN s v, none⟩) (Nat.lt_of_lt_of_le (h.b3 c st hc hs) hb)).trans (h.ld c st v hc hs hv), h.b0, h.b1, h.b2, h.b3⟩
theorem IM.drewN {w : World} {s : ByteArray} {bb vg : Nat} {yb : Nat → Nat} {zb : Nat → Nat → Nat} {top : Nat} (h : IM w s bb vg yb zb top) (q : Nat) : IM (w.drewN q) s bb vg yb zb top := ⟨h.be, h.co, h.tk, h.nx, h.ld, h.b0, h.b1, h.b2, h.b3⟩
end Go.Stn
namespace Go.Proofs.YtgjgjgihceijnaaGreat
open Go.RowKit Go.Stn

/-- What Read laid, to be read. -/
theorem read_mem {w : World} {s : ByteArray} (hi : imgOk s = true) {bb : Nat} {vc : Value} {ys : List CondG} {lo : Nat} (hn : NatsIn w lo bb (lBehind s)) (ho : w.ownsRow (bb + 1) 110 1 vc ys.length (condC ys))
    (hm : ys.map (fun y => y.2.map (·.1)) = lConds s) (hc : ∀ y ∈ ys, CondIn w (lClasses s) y) (hk : ∀ y ∈ ys, ∀ k, ownG y k → bb < k) : ∃ vg cap yb zb, vc = .slice (some ⟨vg, 0, none⟩) (iM s) cap ∧ IM w s bb vg yb zb w.heap.size ∧ ILo s bb vg yb zb lo := by
  have hd := img_read hi
  have hcs := (img_conds hi).1
  have hlen : ys.length = iM s := by have := congrArg List.length (hm.trans hcs); simpa using this
  have hM := (img_head hi).2.2.1
  have hlt := ho.lt
  obtain ⟨g, cap, rfl, hbg, hgl⟩ := ho.form (by omega)
  have hrow := row_range ho
  have hy : ∀ c, c < iM s → ∃ y, ys[c]? = some y ∧ y ∈ ys ∧ y.2.map (·.1) = condV s c := fun c hc' => by
    have hcl : c < ys.length := by omega
    refine ⟨ys[c], List.getElem?_eq_getElem hcl, List.getElem_mem hcl, ?_⟩
    have := congrArg (fun l => l[c]?) (hm.trans hcs)
    simp only [List.getElem?_map, List.getElem?_eq_getElem hcl, List.getElem?_range hc', Option.map_some] at this
    injection this
  have hz : ∀ c st, c < iM s → st < nSt s c → ∀ y, ys[c]? = some y → y ∈ ys → y.2.map (·.1) = condV s c → ∃ z, y.2[st]? = some z ∧ z ∈ y.2 ∧ z.1 = rowV s (iK s) (rwAt s c st) := fun c st hc' hs' y _ _ he => by
    have hl : y.2.length = nSt s c := by have := congrArg List.length he; unfold condV at this; simpa using this
    have hsl : st < y.2.length := by omega
    refine ⟨y.2[st], List.getElem?_eq_getElem hsl, List.getElem_mem hsl, ?_⟩
    have := congrArg (fun l => l[st]?) he
    unfold condV at this
    simp only [List.getElem?_map, List.getElem?_eq_getElem hsl, List.getElem?_range hs', Option.map_some] at this
    injection this
  have hlenY : ∀ c, c < iM s → ∀ y, ys[c]? = some y → y.2.map (·.1) = condV s c → y.2.length = nSt s c := fun c _ y _ he => by
    have := congrArg List.length he; unfold condV at this; simpa using this
  have cellAt : ∀ (b k : Nat) (l : List Value) (v : Value), w.rangeAt b 0 l → l[k]? = some v → w.cell? ⟨b, k, none⟩ = some v := fun b k l v hr hk => by
    have := hr k v hk; rw [Nat.zero_add] at this; exact this
  refine ⟨g, cap, fun c => ((ys[c]?).getD (0, [])).1, fun c st => ((((ys[c]?).getD (0, [])).2[st]?).getD ((0, []), 0)).2, by rw [hlen], ?_, ?_⟩
  refine ⟨fun r hr => ?_, fun c hc' => ?_, fun c st hc' hs' => ?_, fun c st hc' hs' => ?_, fun c st v hc' hs' hv => ?_, hn.2.1, (hlt g rfl).2, fun c hc' => ?_, fun c st hc' hs' => ?_⟩
  · refine cellAt _ _ _ _ hn.2.2 ?_
    rw [hd.be]
    unfold natC
    rw [List.getElem?_map, List.getElem?_map, List.getElem?_range hr]; rfl
  · obtain ⟨y, h1, h2, h3⟩ := hy c hc'
    refine cellAt _ _ _ _ hrow ?_
    rw [condC_get ys c y h1, h1, hlenY c hc' y h1 h3]; rfl
  · obtain ⟨y, h1, h2, h3⟩ := hy c hc'
    obtain ⟨z, h4, h5, h6⟩ := hz c st hc' hs' y h1 h2 h3
    simp only [h1, Option.getD_some]
    refine cellAt _ _ _ _ (hc y h2).rg ?_
    rw [(stC_get _ _ st z h4).1, h6]; rfl
  · obtain ⟨y, h1, h2, h3⟩ := hy c hc'
    obtain ⟨z, h4, h5, h6⟩ := hz c st hc' hs' y h1 h2 h3
    simp only [h1, Option.getD_some, h4]
    refine cellAt _ _ _ _ (hc y h2).rg ?_
    rw [(stC_get _ _ st z h4).2, hd.cl]
  · obtain ⟨y, h1, h2, h3⟩ := hy c hc'
    obtain ⟨z, h4, h5, h6⟩ := hz c st hc' hs' y h1 h2 h3
    simp only [h1, Option.getD_some, h4]
    refine cellAt _ _ _ _ ((hc y h2).rows z h5).2 (intC_get _ _ _ ?_)
    rw [h6]
    unfold rowV
    rw [List.getElem?_map, List.getElem?_range (cls_lt hi v hv)]
    unfold leadJ leadN
    rw [Option.map_some, show rwAt s c st + (clsN s v + 1) = rwAt s c st + 1 + clsN s v by omega]
  · obtain ⟨y, h1, h2, h3⟩ := hy c hc'
    simp only [h1, Option.getD_some]
    exact (hc y h2).lt
  · obtain ⟨y, h1, h2, h3⟩ := hy c hc'
    obtain ⟨z, h4, h5, h6⟩ := hz c st hc' hs' y h1 h2 h3
    simp only [h1, Option.getD_some, h4]
    exact ((hc y h2).rows z h5).1
  · have hbb := hn.1
    refine ⟨hbb, by omega, fun c hc' => ?_, fun c st hc' hs' => ?_⟩
    · obtain ⟨y, h1, h2, h3⟩ := hy c hc'
      simp only [h1, Option.getD_some]
      have := hk y h2 y.1 (.inl rfl)
      omega
    · obtain ⟨y, h1, h2, h3⟩ := hy c hc'
      obtain ⟨z, h4, h5, h6⟩ := hz c st hc' hs' y h1 h2 h3
      simp only [h1, Option.getD_some, h4]
      have := hk y h2 z.2 (.inr ⟨z, h5, rfl⟩)
      omega
end Go.Proofs.YtgjgjgihceijnaaGreat

namespace Go.Stn
/-- The state behind d bytes from a stand on. -/
def stepFrom (s inp : ByteArray) (c : Nat) : Nat → Nat → Nat → Option Nat
  | st, _, 0 => some st
  | st, i, d + 1 => if leadN s c st (bt inp i) = 255 then none else stepFrom s inp c (leadN s c st (bt inp i)) (i + 1) d

theorem stepFrom_snoc (s inp : ByteArray) (c : Nat) : ∀ d st i, stepFrom s inp c st i (d + 1) =
    match stepFrom s inp c st i d with
    | none => none
    | some t => if leadN s c t (bt inp (i + d)) = 255 then none else some (leadN s c t (bt inp (i + d))) := by
  intro d
  induction d with
  | zero => intro st i; simp [stepFrom]
  | succ e ih =>
    intro st i
    rw [stepFrom]
    split
    · rename_i h; rw [stepFrom, if_pos h]
    · rename_i h
      rw [ih, stepFrom, if_neg h]
      have : i + 1 + e = i + (e + 1) := by omega
      rw [this]

theorem stepTo_from (s inp : ByteArray) (c p : Nat) : ∀ d, stepTo s inp c p d = stepFrom s inp c 0 p d := by
  intro d
  induction d with
  | zero => rfl
  | succ e ih => rw [stepTo, ih, stepFrom_snoc]; all_goals (cases stepFrom s inp c 0 p e <;> rfl)

/-- From this stand on no token comes. -/
def dead (s inp : ByteArray) (c st i : Nat) : Prop := ∀ d t, 1 ≤ d → i + d ≤ inp.size → stepFrom s inp c st i d = some t → markN s c t = 0

/-- All of these are dead. -/
def allDead (s inp : ByteArray) (H : List (Int × Int × Int)) : Prop := ∀ c st i, std c st i ∈ H → dead s inp c st i

theorem dead_end {s inp : ByteArray} {c st i : Nat} (h : ¬ i < inp.size) : dead s inp c st i := by
  intro d t hd hi; omega
theorem dead_nowhere {s inp : ByteArray} {c st i : Nat} (h : leadN s c st (bt inp i) = 255) : dead s inp c st i := by
  intro d t hd hi hs
  obtain ⟨e, rfl⟩ : ∃ e, d = e + 1 := ⟨d - 1, by omega⟩
  rw [stepFrom, if_pos h] at hs; cases hs
theorem dead_step {s inp : ByteArray} {c st i : Nat} (h : leadN s c st (bt inp i) ≠ 255) (hm : markN s c (leadN s c st (bt inp i)) = 0) (hd : dead s inp c (leadN s c st (bt inp i)) (i + 1)) : dead s inp c st i := by
  intro d t h1 hi hs
  obtain ⟨e, rfl⟩ : ∃ e, d = e + 1 := ⟨d - 1, by omega⟩
  rw [stepFrom, if_neg h] at hs
  cases e with
  | zero => rw [stepFrom] at hs; injection hs with hs; rw [← hs]; exact hm
  | succ f => exact hd (f + 1) t (by omega) (by omega) hs

/-- Looking on: the token that is found last; best: that of before. -/
def lookT (s inp : ByteArray) (c : Nat) (H : List (Int × Int × Int)) : Nat → Nat → Nat → Option (Nat × Nat) → Option (Nat × Nat)
  | 0, _, _, best => best
  | d + 1, st, i, best =>
    if memB H (std c st i) = true then best
    else if leadN s c st (bt inp i) = 255 then best
    else lookT s inp c H d (leadN s c st (bt inp i)) (i + 1) (if 0 < markN s c (leadN s c st (bt inp i)) then some (markN s c (leadN s c st (bt inp i)) - 1, i + 1) else best)

/-- Where nothing comes, nothing is found. -/
theorem lookT_dead {s inp : ByteArray} {c : Nat} : ∀ d st i best, i + d ≤ inp.size → dead s inp c st i → lookT s inp c [] d st i best = best := by
  intro d
  induction d with
  | zero => intro st i best _ _; rfl
  | succ e ih =>
    intro st i best hi hd
    rw [lookT, if_neg (by simp [memB])]
    split
    · rfl
    · rename_i h
      have hm : markN s c (leadN s c st (bt inp i)) = 0 := hd 1 _ (by omega) (by omega) (by rw [stepFrom, if_neg h, stepFrom])
      rw [if_neg (by omega)]
      refine ih _ _ _ (by omega) ?_
      intro d t h1 h2 h3
      exact hd (d + 1) t (by omega) (by omega) (by rw [stepFrom, if_neg h]; exact h3)

/-- What is hopeless may be passed by. -/
theorem lookT_hope {s inp : ByteArray} {c : Nat} {H : List (Int × Int × Int)} (hH : allDead s inp H) : ∀ d st i best, i + d ≤ inp.size → lookT s inp c H d st i best = lookT s inp c [] d st i best := by
  intro d
  induction d with
  | zero => intro st i best _; rfl
  | succ e ih =>
    intro st i best hi
    by_cases hm : memB H (std c st i) = true
    · rw [lookT, if_pos hm]
      have hin : std c st i ∈ H := by unfold memB at hm; exact List.contains_iff_mem.1 hm
      exact (lookT_dead (e + 1) st i best hi (hH c st i hin)).symm
    · rw [lookT, if_neg hm]
      conv => rhs; rw [lookT, if_neg (by simp [memB])]
      split
      · rfl
      · exact ih _ _ _ (by omega)

/-- The longest token from a stand on. -/
def longG (s inp : ByteArray) (c st i : Nat) : Nat → Option (Nat × Nat)
  | 0 => none
  | d + 1 => match stepFrom s inp c st i (d + 1) with
    | none => longG s inp c st i d
    | some t => if 0 < markN s c t then some (markN s c t - 1, i + (d + 1)) else longG s inp c st i d

theorem longG_nowhere {s inp : ByteArray} {c st i : Nat} (h : leadN s c st (bt inp i) = 255) : ∀ d, longG s inp c st i d = none := by
  intro d
  induction d with
  | zero => rfl
  | succ e ih =>
    have hs : stepFrom s inp c st i (e + 1) = none := by rw [stepFrom, if_pos h]
    rw [longG, hs]; exact ih

theorem longG_cons {s inp : ByteArray} {c st i : Nat} (h : leadN s c st (bt inp i) ≠ 255) : ∀ d, longG s inp c st i (d + 1) =
    (longG s inp c (leadN s c st (bt inp i)) (i + 1) d).or (if 0 < markN s c (leadN s c st (bt inp i)) then some (markN s c (leadN s c st (bt inp i)) - 1, i + 1) else none) := by
  intro d
  induction d with
  | zero =>
    have hs : stepFrom s inp c st i (0 + 1) = some (leadN s c st (bt inp i)) := by
      conv => lhs; rw [stepFrom, if_neg h]
      rfl
    conv => lhs; rw [longG, hs]
    simp [longG]
  | succ e ih =>
    have hs : stepFrom s inp c st i (e + 1 + 1) = stepFrom s inp c (leadN s c st (bt inp i)) (i + 1) (e + 1) := by
      conv => lhs; rw [stepFrom, if_neg h]
    rw [longG, hs]
    conv => rhs; rw [longG]
    cases stepFrom s inp c (leadN s c st (bt inp i)) (i + 1) (e + 1) with
    | none => exact ih
    | some t =>
      simp only
      by_cases hm : 0 < markN s c t
      · rw [if_pos hm, if_pos hm]; simp; omega
      · rw [if_neg hm, if_neg hm]; exact ih

theorem lookT_long {s inp : ByteArray} {c : Nat} : ∀ d st i best, lookT s inp c [] d st i best = (longG s inp c st i d).or best := by
  intro d
  induction d with
  | zero => intro st i best; simp [lookT, longG]
  | succ e ih =>
    intro st i best
    rw [lookT, if_neg (by simp [memB])]
    by_cases h : leadN s c st (bt inp i) = 255
    · rw [if_pos h, longG_nowhere h]; simp
    · rw [if_neg h, ih, longG_cons h]
      by_cases hm : 0 < markN s c (leadN s c st (bt inp i))
      · rw [if_pos hm, if_pos hm]; cases longG s inp c (leadN s c st (bt inp i)) (i + 1) e <;> simp
      · rw [if_neg hm, if_neg hm]; cases longG s inp c (leadN s c st (bt inp i)) (i + 1) e <;> simp

theorem longD_G (s inp : ByteArray) (c p : Nat) : ∀ d, longD s inp c p d = match longG s inp c 0 p d with
    | none => (-1, p)
    | some x => ((x.1 : Int), x.2) := by
  intro d
  induction d with
  | zero => rfl
  | succ e ih =>
    rw [longD, longG]
    unfold tokAt
    rw [stepTo_from]
    cases h : stepFrom s inp c 0 p (e + 1) with
    | none => simp only; exact ih
    | some t =>
      simp only
      by_cases hm : 0 < markN s c t
      · rw [if_pos hm, if_pos hm]
      · rw [if_neg hm, if_neg hm]; exact ih

/-- LOOKING FINDS THE LONGEST, whatever hopeless is known. -/
theorem look_finds {s inp : ByteArray} {c p : Nat} {H : List (Int × Int × Int)} (hH : allDead s inp H) (hp : p ≤ inp.size) :
    lng s inp c p = match lookT s inp c H (inp.size - p) 0 p none with
      | none => (-1, p)
      | some x => ((x.1 : Int), x.2) := by
  unfold lng
  rw [lookT_hope hH _ _ _ _ (by omega), lookT_long, longD_G]
  cases longG s inp c 0 p (inp.size - p) <;> simp

theorem std_inj {c st i c' st' i' : Nat} (h : std c st i = std c' st' i') : c = c' ∧ st = st' ∧ i = i' := by
  unfold std at h
  injection h with h1 h2
  injection h2 with h2 h3
  omega

/-- What stood since the last token is dead. -/
theorem lookP_dead {s inp : ByteArray} {c : Nat} {H : List (Int × Int × Int)} (hH : allDead s inp H) : ∀ d st i S n, i + d = inp.size →
    (∀ c' st' i', std c' st' i' ∈ S → dead s inp c st i → dead s inp c' st' i') → allDead s inp (lookP s inp c H d st i S n).1 := by
  intro d
  induction d with
  | zero =>
    intro st i S n hi hS c' st' i' hin
    exact hS c' st' i' hin (dead_end (by omega))
  | succ e ih =>
    intro st i S n hi hS
    by_cases hk : memB H (std c st i) = true
    · rw [lookP_known hk]
      intro c' st' i' hin
      exact hS c' st' i' hin (hH c st i (by unfold memB at hk; exact List.contains_iff_mem.1 hk))
    · have hk : memB H (std c st i) = false := by simpa using hk
      by_cases hl : leadN s c st (bt inp i) = 255
      · rw [lookP_nowhere hk hl]
        intro c' st' i' hin
        rcases List.mem_append.1 hin with h | h
        · exact hS c' st' i' h (dead_nowhere hl)
        · rw [List.mem_singleton] at h
          obtain ⟨rfl, rfl, rfl⟩ := std_inj h
          exact dead_nowhere hl
      · by_cases hm : 0 < markN s c (leadN s c st (bt inp i))
        · rw [lookP_token hk hl hm]
          exact ih _ _ _ _ (by omega) (fun c' st' i' h => by cases h)
        · rw [lookP_step hk hl (by omega)]
          refine ih _ _ _ _ (by omega) (fun c' st' i' h hd => ?_)
          have hd2 := dead_step hl (by omega) hd
          rcases List.mem_append.1 h with h | h
          · exact hS c' st' i' h hd2
          · rw [List.mem_singleton] at h
            obtain ⟨rfl, rfl, rfl⟩ := std_inj h
            exact hd2

theorem look_dead {s inp : ByteArray} {c p : Nat} {H : List (Int × Int × Int)} (hH : allDead s inp H) (hp : p ≤ inp.size) : allDead s inp (H ++ (lookFrom s inp c H p).1) := by
  intro c' st' i' hin
  rcases List.mem_append.1 hin with h | h
  · exact hH c' st' i' h
  · exact lookP_dead hH _ 0 p [] 0 (by omega) (fun _ _ _ h => by cases h) c' st' i' h

end Go.Stn

namespace Go.Proofs.YtgjgjgihceijnaaGreat
open Go.RowKit Go.Stn

/-- An image that is only read. -/
structure ImgRd (w : World) (B b g cap : Nat) (s : ByteArray) : Prop where
  c0 : w.cell? ⟨b, 0, none⟩ = some (.string s)
  c3 : w.cell? ⟨b, 3, none⟩ = some (.int .i64 ((6 + iR s : Nat) : Int))
  c4 : w.cell? ⟨b, 4, none⟩ = some (.int .i64 (iK s))
  c5 : w.cell? ⟨b, 5, none⟩ = some (.slice (some ⟨g, 0, none⟩) (iM s) cap)
  at_ : ∀ i, i < iM s → w.cell? ⟨g, i, none⟩ = some (.int .i64 ((iAt s i + 1 : Nat) : Int))
  hb : b < B
  hg : g < B

theorem ImgRd.below {w w' : World} {B B' b g cap : Nat} {s : ByteArray} (h : ImgRd w B b g cap s) (hB : Below B' w w') (hle : B ≤ B') : ImgRd w' B b g cap s := by
  have hb := h.hb
  have hg := h.hg
  exact ⟨(hB.cell (p := ⟨b, 0, none⟩) (by show b < B'; omega)).trans h.c0, (hB.cell (p := ⟨b, 3, none⟩) (by show b < B'; omega)).trans h.c3, (hB.cell (p := ⟨b, 4, none⟩) (by show b < B'; omega)).trans h.c4,
    (hB.cell (p := ⟨b, 5, none⟩) (by show b < B'; omega)).trans h.c5, fun i hi => (hB.cell (p := ⟨g, i, none⟩) (by show g < B'; omega)).trans (h.at_ i hi), hb, hg⟩

theorem ImgRd.drewN {w : World} {B b g cap : Nat} {s : ByteArray} (h : ImgRd w B b g cap s) (q : Nat) : ImgRd (w.drewN q) B b g cap s :=
  ⟨h.c0, h.c3, h.c4, h.c5, h.at_, h.hb, h.hg⟩

/-- Where a byte leads, as lead answers. -/
def leadZ (s : ByteArray) (c st v : Nat) : Int := if leadN s c st v = 255 then -1 else leadN s c st v

set_option maxRecDepth 100000 in
set_option maxHeartbeats 1000000 in
theorem mark_any (s : ByteArray) (B b g cap c st : Nat) (w : World) (hi : imgOk s = true) (hs : s.size ≤ 120000) (hc : c < iM s) (hst : st < nSt s c) (hw : ImgRd w B b g cap s) :
    Calls Tryz.prog 126 #[.pointer (some ⟨b, 0, none⟩), .int .i64 c, .int .i64 st] w fun e w' => e = .returned (.int .i64 (markN s c st)) ∧ ∃ q, w' = w.drewN q := by
  obtain ⟨k0, k3, k4, k5, kat, _, _⟩ := hw
  have kc := kat c hc
  clear kat
  have hrow := row_in hi hc hst
  have hrI := rwAt_int s c st
  have hAt : iAt s c ≤ 120000 := by unfold rwAt at hrow; omega
  have hK := iK_le s
  have hn := nSt_le hi hc
  have hmul := mul_small (a := st) (b := 1 + iK s) (by omega) (by omega)
  have hmI : (0 : Int) ≤ (st : Int) * (1 + (iK s : Int)) ∧ (st : Int) * (1 + (iK s : Int)) ≤ 65535 := by
    have e : ((st * (1 + iK s) : Nat) : Int) = (st : Int) * (1 + (iK s : Int)) := by simp
    omega
  have hm4 := (img_head hi).2.2.2.1
  have hcI : (0 : Int) ≤ (c : Int) ∧ (c : Int) < (iM s : Int) := by omega
  obtain ⟨r, hr⟩ : ∃ r, rwAt s c st = r := ⟨_, rfl⟩
  have E : Hid (markN s c st = bt s r) := by unfold Hid markN; rw [hr]
  rw [hr] at hrow hrI
  clear hmul hn hi hst hr
  have hbe := bt_eq s r (by omega)
  have hbl := bt_lt s r
  have hw1 : IntKind.i64.wrap (1 + (iK s : Int)) = 1 + (iK s : Int) := IntWalk.i64_in _ (by omega)
  have hw2 : IntKind.i64.wrap ((st : Int) * (1 + (iK s : Int))) = (st : Int) * (1 + (iK s : Int)) := IntWalk.i64_in _ (by omega)
  have hw3 : IntKind.i64.wrap ((iAt s c : Int) + 1 + (st : Int) * (1 + (iK s : Int))) = (r : Int) := by
    rw [← hrI]; simp only [Int.natCast_add, Int.natCast_one]; exact IntWalk.i64_in _ (by omega)
  clear hrI hmI
  go_enter Tryz.func126, Tryz.ntmps126
  go_wp2
  go_quiet (fail)
  go_wp2
  go_ret
  exact ⟨by rw [E.out]; rfl, _, rfl⟩

set_option maxRecDepth 100000 in
set_option maxHeartbeats 1000000 in
theorem lead_any (s : ByteArray) (B b g cap c st v : Nat) (w : World) (hi : imgOk s = true) (hs : s.size ≤ 120000) (hc : c < iM s) (hst : st < nSt s c) (hv : v < 256) (hw : ImgRd w B b g cap s) :
    Calls Tryz.prog 125 #[.pointer (some ⟨b, 0, none⟩), .int .i64 c, .int .i64 st, .int .u8 v] w fun e w' => e = .returned (.int .i64 (leadZ s c st v)) ∧ ∃ q, w' = w.drewN q := by
  obtain ⟨k0, k3, k4, k5, kat, _, _⟩ := hw
  have kc := kat c hc
  clear kat
  have hlead := lead_in hi hc hst hv
  have hrow := row_in hi hc hst
  have hcls := cls_lt hi v hv
  have hrI := rwAt_int s c st
  have hAt : iAt s c ≤ 120000 := by unfold rwAt at hrow; omega
  have hK := iK_le s
  have hn := nSt_le hi hc
  have hmul := mul_small (a := st) (b := 1 + iK s) (by omega) (by omega)
  have hmI : (0 : Int) ≤ (st : Int) * (1 + (iK s : Int)) ∧ (st : Int) * (1 + (iK s : Int)) ≤ 65535 := by
    have e : ((st * (1 + iK s) : Nat) : Int) = (st : Int) * (1 + (iK s : Int)) := by simp
    omega
  have hm4 := (img_head hi).2.2.2.1
  have hR := (img_head hi).1
  have h256 := (img_head hi).2.2.2.2
  have hcI : (0 : Int) ≤ (c : Int) ∧ (c : Int) < (iM s : Int) := by omega
  obtain ⟨r, hr⟩ : ∃ r, rwAt s c st = r := ⟨_, rfl⟩
  obtain ⟨k, hk⟩ : ∃ k, clsN s v = k := ⟨_, rfl⟩
  obtain ⟨t, ht⟩ : ∃ t, r + 1 + k = t := ⟨_, rfl⟩
  obtain ⟨a, ha⟩ : ∃ a, 6 + iR s + v = a := ⟨_, rfl⟩
  have E : Hid (leadZ s c st v = if bt s t = 255 then -1 else (bt s t : Int)) := by unfold Hid leadZ leadN; rw [hr, hk, ht]
  rw [hr] at hrow hrI hlead
  rw [hk] at hlead hcls
  rw [ht] at hlead
  have hk2 : bt s a = k := by rw [← ha]; exact hk
  have hal : a < s.size := by omega
  have hw0 : IntKind.i64.wrap (6 + (iR s : Int) + (v : Int)) = (a : Int) := by rw [← ha]; simp only [Int.natCast_add]; exact IntWalk.i64_in _ (by omega)
  have hw5 : IntKind.i64.wrap ((r : Int) + 1 + (k : Int)) = (t : Int) := by rw [← ht]; simp only [Int.natCast_add]; exact IntWalk.i64_in _ (by omega)
  have hr2 : r ≤ 120000 ∧ k < 256 := by omega
  clear hmul hn hi hst hr hk ht ha
  have hbc := bt_eq s a hal
  rw [hk2] at hbc
  clear hk2
  have hbe := bt_eq s t hlead
  have hbl := bt_lt s t
  have hwv : IntKind.i64.wrap (v : Int) = (v : Int) := IntWalk.i64_in _ (by omega)
  have hwk : IntKind.i64.wrap (k : Int) = (k : Int) := IntWalk.i64_in _ (by omega)
  have hwb : IntKind.i64.wrap (bt s t : Int) = (bt s t : Int) := IntWalk.i64_in _ (by omega)
  have hw1 : IntKind.i64.wrap (1 + (iK s : Int)) = 1 + (iK s : Int) := IntWalk.i64_in _ (by omega)
  have hw2 : IntKind.i64.wrap ((st : Int) * (1 + (iK s : Int))) = (st : Int) * (1 + (iK s : Int)) := IntWalk.i64_in _ (by omega)
  have hw3 : IntKind.i64.wrap ((iAt s c : Int) + 1 + (st : Int) * (1 + (iK s : Int))) = (r : Int) := by
    rw [← hrI]; simp only [Int.natCast_add, Int.natCast_one]; exact IntWalk.i64_in _ (by omega)
  have hw4 : IntKind.i64.wrap ((r : Int) + 1) = (r : Int) + 1 := IntWalk.i64_in _ (by omega)
  clear hrI hmI
  by_cases h255 : bt s t = 255
  · go_enter Tryz.func125, Tryz.ntmps125
    go_wp2
    go_quiet (fail)
    go_wp2
    go_quiet (fail)
    go_wp2
    go_ret
    exact ⟨by rw [E.out, if_pos h255]; rfl, _, rfl⟩
  · have hd : ((bt s t : Int) == 255) = false := beq_eq_false_iff_ne.2 (by omega)
    go_enter Tryz.func125, Tryz.ntmps125
    go_wp2
    go_quiet (fail)
    go_wp2
    go_quiet (fail)
    go_wp2
    go_ret
    exact ⟨by rw [E.out, if_neg h255]; rfl, _, rfl⟩
end Go.Proofs.YtgjgjgihceijnaaGreat

namespace Go.Proofs.YtgjgjgihceijnaaGreat
open Go.RowKit Go.Stn

set_option maxRecDepth 100000 in
set_option maxHeartbeats 1000000 in
theorem longest_any (s inp : ByteArray) (B b g cap c p : Nat) (w : World) (hi : imgOk s = true) (hs : s.size ≤ 120000) (hin : inp.size ≤ 300) (hp : p ≤ inp.size) (hc : c < iM s) (hw : ImgRd w B b g cap s) :
    Calls Tryz.prog 120 #[.pointer (some ⟨b, 0, none⟩), .string inp, .int .i64 p, .int .i64 c] w fun e w' =>
      e = .returned (.tuple #[.int .i64 (lng s inp c p).1, .int .i64 (lng s inp c p).2]) ∧ ∃ q, w' = w.drewN q := by
  have HL : Hid (lng s inp c p = longD s inp c p (inp.size - p)) := rfl
  go_enter Tryz.func120, Tryz.ntmps120
  go_wp2_with fail
  go_loopw [10] (fun x w' => ∃ d q : Nat, p + d ≤ inp.size ∧ x = .int .i64 ((p : Int) + (d : Int)) ∧ w' = w.drewN q ∧ lng s inp c p = longD s inp c p d) (fun x _ => (intOf x).toNat)
  case atStart => exact ⟨inp.size - p, 0, by omega, by congr 1; omega, rfl, HL.out⟩
  case round =>
    obtain ⟨d, q, hd, rfl, rfl, hlg⟩ := hrel
    have HG : Hid (lng s inp c p = longD s inp c p d) := hlg
    clear hlg
    by_cases hlt : 0 < d
    · obtain ⟨e, he⟩ : ∃ e, d = e + 1 := ⟨d - 1, by omega⟩
      have HE : Hid (d = e + 1) := he
      have hed : e < d := by omega
      clear he
      have hdec : decide ((p : Int) < (p : Int) + (d : Int)) = true := by simp; omega
      go_wp2_with fail
      go_loopw [11, 12] (fun x y w' => ∃ j q : Nat, j ≤ d ∧ y = .int .i64 ((p : Int) + (j : Int)) ∧ w' = w.drewN q ∧ ((∃ st : Nat, stepTo s inp c p j = some st ∧ x = .int .i64 (st : Int)) ∨ (stepTo s inp c p d = none ∧ x = .int .i64 (-1)))) (fun _ y _ => inp.size - (intOf y).toNat)
      case atStart => exact ⟨0, q, by omega, by simp, rfl, .inl ⟨0, rfl, rfl⟩⟩
      case round =>
        obtain ⟨j, q2, hj, rfl, rfl, hcase⟩ := hrel
        rcases hcase with ⟨st, hst, rfl⟩ | ⟨hno, rfl⟩
        · have HS : Hid (stepTo s inp c p j = some st) := hst
          clear hst
          by_cases hlt2 : j < d
          · have hbe := bt_eq inp (p + j) (by omega)
            have hbl := bt_lt inp (p + j)
            go_wp2_with fail
            refine (lead_any s B b g cap c st (bt inp (p + j)) _ hi hs hc (stepTo_lt hi hc j st HS.out) hbl (hw.drewN _)).mono ?_
            rintro e' w2 ⟨rfl, q3, rfl⟩
            go_wp2_with fail
            go_roundw
            case rel =>
              refine ⟨j + 1, q2 + q3, hlt2, by go_num, by simp, ?_⟩
              have hst1 := stepTo_succ HS.out
              by_cases h255 : leadN s c st (bt inp (p + j)) = 255
              · rw [if_pos h255] at hst1
                exact .inr ⟨stepTo_none hst1 _ hlt2, by unfold leadZ; rw [if_pos h255]⟩
              · rw [if_neg h255] at hst1
                exact .inl ⟨_, hst1, by unfold leadZ; rw [if_neg h255]⟩
            case measure => simp [intOf]; omega
          · have ej : j = d := by omega
            subst ej
            by_cases hm : 0 < markN s c st
            · have hml := mark_le hi hc (stepTo_lt hi hc _ st HS.out)
              have hR := (img_head hi).1
              have hfin := longD_some (d := e) (by rw [← HE.out]; exact tokAt_yes HS.out hm)
              have HF : Hid (longD s inp c p j = (((markN s c st - 1 : Nat) : Int), p + j)) := by rw [← HE.out] at hfin; exact hfin
              clear hfin
              go_wp2_with fail
              refine (mark_any s B b g cap c st _ hi hs hc (stepTo_lt hi hc _ st HS.out) (hw.drewN _)).mono ?_
              rintro e' w2 ⟨rfl, q3, rfl⟩
              go_wp2
              go_ret2
              refine ⟨?_, q2 + q3, by simp⟩
              rw [HG.out, HF.out]
              simp
              omega
            · have hm0 : markN s c st = 0 := by omega
              have hfin := longD_none (d := e) (by rw [← HE.out]; exact tokAt_no HS.out hm0)
              have HF : Hid (longD s inp c p j = longD s inp c p e) := by rw [← HE.out] at hfin; exact hfin
              clear hfin
              go_wp2_with fail
              refine (mark_any s B b g cap c st _ hi hs hc (stepTo_lt hi hc _ st HS.out) (hw.drewN _)).mono ?_
              rintro e' w2 ⟨rfl, q3, rfl⟩
              rw [hm0]
              go_wp2
              go_roundw
              case rel => exact ⟨e, q2 + q3, by omega, by have := HE.out; go_num, by simp, by rw [HG.out, HF.out]⟩
              case measure => simp [intOf]; omega
        · have hfin := longD_none (d := e) (by rw [← HE.out]; exact tokAt_none hno)
          have HF : Hid (longD s inp c p d = longD s inp c p e) := by rw [← HE.out] at hfin; exact hfin
          clear hfin hno
          go_wp2_with fail
          all_goals
            go_roundw
            case rel => exact ⟨e, q2, by omega, by have := HE.out; go_num, rfl, by rw [HG.out, HF.out]⟩
            case measure => simp [intOf]; omega
    · have e0 : d = 0 := by omega
      subst e0
      go_wp2
      go_ret2
      refine ⟨?_, q, rfl⟩
      rw [HG.out]
      rfl
end Go.Proofs.YtgjgjgihceijnaaGreat

