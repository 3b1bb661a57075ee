/- stencilref.Parse: the head is fine. -/
import Derived.Test.YtgjgjgihceijnaaCkImg
namespace Go.Proofs.Ytgjgjgihceijnaa
open Go.RowKit Go.Stn

set_option maxRecDepth 100000 in
set_option maxHeartbeats 2000000 in
theorem parse_head (s : ByteArray) (w : World) (hs : s.size ≤ 120000) (hA : headA s = true) (hB : headB s = true) (hC : headC s = true) :
    Calls Try.prog 47 #[.string s] w fun e w' =>
      ∃ v, e = .returned (.tuple #[v, .bool (imgOk s)]) ∧ Below w.heap.size w w' ∧ (imgOk s = true → v = .pointer (some ⟨w.heap.size, 0, none⟩) ∧ ∃ va vs, ImgAt w' w.heap.size (w.heap.size + 1) s (iM s) (iM s) va vs) := by
  obtain ⟨h4, hp, h1, h8⟩ := headA_iff.1 hA
  have hp := (pre3 s (by omega)).2 hp
  have hb3 : (s[3]).toNat = iR s := bt_eq s 3 (by omega)
  have hB2 := hB
  unfold headB at hB2
  simp only [Bool.and_eq_true, decide_eq_true_eq] at hB2
  obtain ⟨hb, hz⟩ := hB2
  have hlt := belowB_size hb
  have hm4 := belowB_le hb 0 (by omega)
  have hbe : (s[4 + iR s]).toNat = iM s := bt_eq s (4 + iR s) (by omega)
  have hm4 : iM s ≤ 4 := by unfold iM; simp at hm4; omega
  have hC2 := hC
  unfold headC at hC2
  simp only [Bool.and_eq_true] at hC2
  obtain ⟨hc1, hc2⟩ := hC2
  have hlt2 := belowB_size hc2
  have hbk : (s[4 + iR s + 1]).toNat = bt s (5 + iR s) := by rw [bt_eq s (4 + iR s + 1) (by omega)]; congr 1; omega
  have hkl := bt_lt s (5 + iR s)
  have hz0 : ((iM s : Int) == 0) = false := beq_eq_false_iff_ne.2 (by omega)
  have HK : Hid (iK s = bt s (5 + iR s) + 1) := rfl
  have hd4 : decide ((s.size : Int) < 4) = false := by simp; omega
  have hd1 : decide ((iR s : Int) < 1) = false := by simp; omega
  have hd8 : decide (8 < (iR s : Int)) = false := by simp; omega
  by_cases hD : headD s = true
  · have hd : belowB s (6 + iR s) 256 (bt s (5 + iR s) : Int) = true := by
      have : headD s = belowB s (6 + iR s) 256 (bt s (5 + iR s) : Int) := by unfold headD iK; congr 1; omega
      rw [← this]; exact hD
    have hlt3 := belowB_size hd
    have HH : Hid (headA s = true ∧ headB s = true ∧ headC s = true ∧ headD s = true) := ⟨hA, hB, hC, hD⟩
    clear hA hB hC hD
    generalize hkk : bt s (5 + iR s) = k at *
    have HKK : Hid (bt s (5 + iR s) = k) := hkk
    clear hkk
    go_enter Try.func47, Try.ntmps47
    go_wp2_with (first | (go_at_call 71; refine (below_any s (4 + iR s) 1 4 _ (by unfold maxLen; omega) (by omega) (by omega)).mono ?_; rintro e w ⟨rfl, rfl⟩))
    go_quiet ((go_at_call 71; exact Calls.quiet_of_same (below_any s 4 (iR s) (1 + iM s) _ (by unfold maxLen; omega) (by omega) (by omega))))
    go_wp2_with fail
    refine (below_z s (5 + iR s) 1 _ _ 255 _ (by omega) (by omega) (by omega) (by omega) rfl).mono ?_
    rintro e w ⟨rfl, rfl⟩
    go_wp2_with fail
    go_quiet ((go_at_call 71; exact Calls.quiet_of_same (below_z s (6 + iR s) 256 _ _ k _ (by omega) (by omega) (by omega) (by omega) rfl)))
    go_wp2_with fail
    rw [hd]
    go_loopw [8, 9] (fun a c wr => ∃ (cn : Nat) (va vs : Value), cn ≤ iM s ∧ c = .int .i64 cn ∧ a = .int .i64 (iAt s cn) ∧ (∀ l, l < cn → stOk s (iR s) (iK s) (iAt s l) = true) ∧ ImgAt wr w.heap.size (w.heap.size + 1) s cn cn va vs ∧ Below w.heap.size w wr)
      (fun _ c _ => 4 - (intOf c).toNat)
    case atStart =>
      refine ⟨0, .slice none 0 0, .slice none 0 0, Nat.zero_le _, rfl, ?_, fun l h => absurd h (Nat.not_lt_zero _), ?_, ?_⟩
      · show _ = Value.int .i64 ((262 + iR s : Nat) : Int); go_num
      · exact ImgAt.start w s k _ _ (by rw [HK.out])
      · exact below_drewN (((below_drewN ((Below.refl w.heap.size w).alloc (Nat.le_refl _) _) _).setCell (p := ⟨w.heap.size, 4, none⟩) (Nat.le_refl _) _).setCell (p := ⟨w.heap.size, 3, none⟩) (Nat.le_refl _) _) _
    case round =>
      obtain ⟨cn, va, vs, hcn, rfl, rfl, hall, himg, hbel⟩ := hrel
      have hsm := iAt_small hs h8 hall
      have hic2 := himg.c2
      have HA : Hid (∀ l, l < cn → stOk s (iR s) (iK s) (iAt s l) = true) := hall
      clear hall
      have hBz := hbel.size
      by_cases hlt4 : cn < iM s
      · cases hst : stOk s (iR s) (iK s) (iAt s cn) with
        | false =>
          have hno := not_img_st hlt4 hst
          have hno2 := st_no (s := s) (rules := iR s) (many := iK s) (i := iAt s cn) (by rw [hst]; simp)
          have HN : Hid (imgOk s = false) := hno
          clear hno
          go_wp2_with fail
          refine (states_any s (iR s) (iK s) (iAt s cn) w.heap.size _ hs (by omega) (iK_le s) himg.c0 himg.c1 himg.c4).mono ?_
          rintro e wr2 ⟨rfl, q, rfl⟩
          rw [hno2.1, hno2.2.1, hno2.2.2]
          go_wp2
          go_ret2
          refine ⟨.pointer none, by rw [HN.out]; rfl, below_drewN hbel _, fun h => ?_⟩
          rw [HN.out] at h; cases h
        | true =>
          have hyes := st_yes hst
          have hstep := iAt_step hst
          go_wp2_with fail
          refine (states_any s (iR s) (iK s) (iAt s cn) w.heap.size _ hs (by omega) (iK_le s) himg.c0 himg.c1 himg.c4).mono ?_
          rintro e wr2 ⟨rfl, q, rfl⟩
          rw [hyes.1, hyes.2, hst]
          have himg2 := himg.drewN q
          have hbel2 := below_drewN hbel q
          have hBz2 := himg2.hz
          generalize wr.drewN q = wq at *
          clear himg hbel hBz hic2
          have hic5 := himg2.c5
          go_wp2_with (first
            | (at_builtin; refine wpList_app1 wq rfl (.tmp 134) (.tmp 137) 30 rfl (w.heap.size + 1) 3 (.int .i64 0) 1 8 Try.underlying30 Try.infoInt rfl (by decide) (by decide) va cn (atRow s cn) [.int .i64 ((iAt s cn : Int) + 1)] _ rfl himg2.ra _ rfl rfl rfl (by simp [Value.oneCell']) (by omega) (by omega) ?_; intro g cap w1 hown hgrow hat hlt5; obtain ⟨k5, kf5, k6, kf6⟩ := himg2.kept himg2.ra hgrow; have himg3 := himg2.app5 _ hown hgrow hat; have hz3 := himg3.hz)
            | (at_builtin; refine wpList_app1 (w1.setCell ⟨w.heap.size, 5, none⟩ (.slice (some ⟨g, 0, none⟩) (cn + 1) cap)) rfl (.tmp 145) (.tmp 147) 30 rfl (w.heap.size + 1) 3 (.int .i64 0) 1 8 Try.underlying30 Try.infoInt rfl (by decide) (by decide) vs cn (stRow s cn) [.int .i64 (bt s (iAt s cn))] _ rfl himg3.rs w1.heap.size (by simp) rfl rfl (by simp [Value.oneCell']) (by omega) (by omega) ?_; intro g2 cap2 w2 hown2 hgrow2 hat2 hlt6; obtain ⟨m5, mf5, m6, mf6⟩ := himg3.kept himg3.rs hgrow2; have himg4 := himg3.app6 _ hown2 hgrow2 hat2))
          go_roundw
          case rel =>
            refine ⟨cn + 1, _, _, hlt4, by go_num, ?_, ?_, himg4, ?_⟩
            · rw [hstep.1]; simp
            · intro l hl
              by_cases e : l = cn
              · rw [e]; exact hst
              · exact HA.out l (by omega)
            · have hb1 := (below_app hbel2 (by omega) himg2.ra (by omega) hgrow).setCell (p := ⟨w.heap.size, 5, none⟩) (Nat.le_refl _) (.slice (some ⟨g, 0, none⟩) (cn + 1) cap)
              exact (below_app hb1 (by omega) himg3.rs (by omega) hgrow2).setCell (p := ⟨w.heap.size, 6, none⟩) (Nat.le_refl _) _
          case measure => simp [intOf]; omega
      · have e : cn = iM s := by omega
        have hfin : imgOk s = decide (iAt s cn = s.size) := by
          rw [Bool.eq_iff_iff, imgOk_iff, decide_eq_true_eq, e]
          rw [e] at HA
          exact ⟨fun h => h.2.2.2.2.2, fun h => ⟨HH.out.1, HH.out.2.1, HH.out.2.2.1, HH.out.2.2.2, HA.out, h⟩⟩
        have HF : Hid (imgOk s = decide (iAt s cn = s.size)) := hfin
        have E : Hid (cn = iM s) := e
        clear hfin e
        go_wp2
        go_ret2
        refine ⟨.pointer (some ⟨w.heap.size, 0, none⟩), ?_, hbel, fun _ => ⟨rfl, va, vs, ?_⟩⟩
        · rw [HF.out]; simp
          rw [Bool.eq_iff_iff, beq_iff_eq, decide_eq_true_eq]; omega
        · rw [← E.out]; exact himg
  · have hd : belowB s (6 + iR s) 256 (bt s (5 + iR s) : Int) = false := by
      have : headD s = belowB s (6 + iR s) 256 (bt s (5 + iR s) : Int) := by unfold headD iK; congr 1; omega
      rw [← this]; simpa using hD
    have HN : Hid (imgOk s = false) := not_img_D (by simpa using hD)
    clear hA hB hC hD
    generalize hkk : bt s (5 + iR s) = k at *
    clear hkk
    go_enter Try.func47, Try.ntmps47
    go_wp2_with (first | (go_at_call 71; refine (below_any s (4 + iR s) 1 4 _ (by unfold maxLen; omega) (by omega) (by omega)).mono ?_; rintro e w ⟨rfl, rfl⟩))
    go_quiet ((go_at_call 71; exact Calls.quiet_of_same (below_any s 4 (iR s) (1 + iM s) _ (by unfold maxLen; omega) (by omega) (by omega))))
    go_wp2_with fail
    refine (below_z s (5 + iR s) 1 _ _ 255 _ (by omega) (by omega) (by omega) (by omega) rfl).mono ?_
    rintro e w ⟨rfl, rfl⟩
    go_wp2_with fail
    go_quiet ((go_at_call 71; exact Calls.quiet_of_same (below_z s (6 + iR s) 256 _ _ k _ (by omega) (by omega) (by omega) (by omega) rfl)))
    go_wp2
    go_ret2
    refine ⟨.pointer none, by rw [HN.out]; rfl, ?_, fun h => ?_⟩
    · exact below_drewN (((below_drewN ((Below.refl w.heap.size w).alloc (Nat.le_refl _) _) _).setCell (p := ⟨w.heap.size, 4, none⟩) (Nat.le_refl _) _).setCell (p := ⟨w.heap.size, 3, none⟩) (Nat.le_refl _) _) _
    · rw [HN.out] at h; cases h

/-- Parse, of whatever text of at most MaxImage bytes. -/
theorem parse_any (s : ByteArray) (w : World) (hs : s.size ≤ 120000) :
    Calls Try.prog 47 #[.string s] w fun e w' =>
      ∃ v, e = .returned (.tuple #[v, .bool (imgOk s)]) ∧ Below w.heap.size w w' ∧ (imgOk s = true → v = .pointer (some ⟨w.heap.size, 0, none⟩) ∧ ∃ va vs, ImgAt w' w.heap.size (w.heap.size + 1) s (iM s) (iM s) va vs) := by
  cases hA : headA s with
  | false =>
    refine (parse_noA s w hs hA).mono ?_
    rintro e w' ⟨rfl, rfl⟩
    rw [not_img_A hA]
    exact ⟨_, rfl, Below.refl _ _, fun h => by cases h⟩
  | true =>
    cases hB : headB s with
    | false =>
      refine (parse_noB s w hs hA hB).mono ?_
      rintro e w' ⟨rfl, hb⟩
      rw [not_img_B hB]
      exact ⟨_, rfl, hb, fun h => by cases h⟩
    | true =>
      cases hC : headC s with
      | false =>
        refine (parse_noC s w hs hA hB hC).mono ?_
        rintro e w' ⟨rfl, hb⟩
        rw [not_img_C hC]
        exact ⟨_, rfl, hb, fun h => by cases h⟩
      | true => exact parse_head s w hs hA hB hC
end Go.Proofs.Ytgjgjgihceijnaa
