/- (*stencilref.Cut).run: a walk. -/
import Derived.Test.YtgjgjgihceijnaaScLook
import Derived.Test.YtgjgjgihceijnaaScPure4
namespace Go.Proofs.Ytgjgjgihceijnaa
open Go.RowKit Go.Stn

theorem Try.infoToken : (Try.prog.info? 61).map (fun i => (i.zero, i.size, i.bytes)) = some (some (.agg #[.int .i64 0, .int .i64 0, .int .i64 0]), 3, 24) := by kernel_rfl

set_option maxRecDepth 100000 in
set_option maxHeartbeats 1000000 in
theorem run_any (s inp : ByteArray) (B b g cap c cb base : Nat) (vh vt : Value) (w : World) (hi : imgOk s = true) (hs : s.size ≤ 120000) (hin : inp.size ≤ 300) (hc : c < iM s)
    (hw : ImgRd w B b g cap s) (hB : B ≤ cb) (hcut : CutAt w cb base w.heap.size b inp c [] 0 [] vh vt) :
    Calls Try.prog 48 #[.pointer (some ⟨cb, 0, none⟩)] w fun e w' =>
      e = .returned (.tuple #[]) ∧ Below cb w w' ∧ (cutP s inp c).2.2 < iM s ∧ ∃ H vh' vt', CutAt w' cb base w'.heap.size b inp (cutP s inp c).2.2 H (cutP s inp c).2.1 (cutP s inp c).1 vh' vt' := by
  have HL : Hid (cutP s inp c = runP s inp (inp.size + 1) 0 c [] 0 []) := rfl
  have hcb := hcut.hb
  have hbt := hcut.hbt
  go_enter Try.func48, Try.ntmps48
  go_wp2_with fail
  go_loopw [2] (fun x wr => ∃ (p c1 n : Nat) (H T : List (Int × Int × Int)) (vh vt : Value), x = .int .i64 p ∧ p ≤ inp.size ∧ c1 < iM s ∧ H.length ≤ 300 * p ∧ n ≤ 300 * p ∧ T.length ≤ p ∧
      cutP s inp c = runP s inp (inp.size - p + 1) p c1 H n T ∧ CutAt wr cb base wr.heap.size b inp c1 H n T vh vt ∧ Below cb w wr)
    (fun x _ => inp.size - (intOf x).toNat)
  case atStart => exact ⟨0, c, 0, [], [], vh, vt, rfl, Nat.zero_le _, hc, by simp, by omega, by simp, HL.out, hcut, Below.refl _ _⟩
  case round =>
    obtain ⟨p, c1, n, H, T, vh1, vt1, rfl, hp, hc1, hH, hn, hT, hrun, hcut1, hbel⟩ := hrel
    have HR : Hid (cutP s inp c = runP s inp (inp.size - p + 1) p c1 H n T) := hrun
    have HC : Hid (CutAt wr cb base wr.heap.size b inp c1 H n T vh1 vt1) := hcut1
    have HBL : Hid (Below cb w wr) := hbel
    have k1 := hcut1.c1
    clear hrun hcut1 hbel
    by_cases hlt : p < inp.size
    · go_wp2_with fail
      refine (look_any s inp B b g cap c1 p cb base n H T vh1 vt1 _ hi hs hin hp hc1 (by omega) (by omega) (hw.below HBL.out hB) hB HC.out).mono ?_
      rintro e w2 ⟨rfl, hb2, vh2, hcut2⟩
      have HC2 : Hid (CutAt w2 cb base w2.heap.size b inp c1 (H ++ (lookFrom s inp c1 H p).1) (n + (lookFrom s inp c1 H p).2) T vh2 vt1) := hcut2
      have HB2 : Hid (Below cb w w2) := HBL.out.trans hb2
      clear hcut2 hb2 HC HBL k1
      have hlen := lookFrom_len (s := s) (inp := inp) (c := c1) (p := p) (H := H)
      have HW2 : Hid (ImgRd w2 B b g cap s) := hw.below HB2.out hB
      have q0 := HC2.out.c0
      have q1 := HC2.out.c1
      have q2 := HC2.out.c2
      have HLG : Hid (∀ q, Calls Try.prog 74 #[.pointer (some ⟨b, 0, none⟩), .string inp, .int .i64 p, .int .i64 c1] (w2.drewN q) fun e w' => e = .returned (.tuple #[.int .i64 (lng s inp c1 p).1, .int .i64 (lng s inp c1 p).2]) ∧ ∃ m, w' = (w2.drewN q).drewN m) := fun q =>
        longest_any s inp B b g cap c1 p (w2.drewN q) hi hs hin hp hc1 (HW2.out.drewN q)
      rcases lng_cases hi hc1 hp with hno | ⟨r, q, hyes, hr, hpq, hq⟩
      · have HX : Hid (cutP s inp c = (T ++ [(-1, (p : Int), (p : Int))], n + (lookFrom s inp c1 H p).2, c1)) := by
          unfold Hid; rw [HR.out]; exact runP_none hlt hno
        rw [hno] at HLG
        clear hno HR
        go_wp2_with fail
        go_quiet ((go_at_call 74; exact Calls.quiet_of (HLG.out _)))
        have HC3 : Hid (CutAt (w2.drewN nq) cb base (w2.drewN nq).heap.size b inp c1 (H ++ (lookFrom s inp c1 H p).1) (n + (lookFrom s inp c1 H p).2) T vh2 vt1) := (HC2.out.drewN nq).raise
        have HB3 : Hid (Below cb w (w2.drewN nq)) := below_drewN HB2.out nq
        have HW3 : Hid (ImgRd (w2.drewN nq) B b g cap s) := HW2.out.drewN nq
        generalize w2.drewN nq = w3 at *
        clear HC2 HB2 HW2 q0 q1 q2 HLG
        have hbt3 := HC3.out.hbt
        have r5 := HC3.out.c5
        go_wp2_with (first | (at_builtin; refine wpList_app1 w3 rfl (.tmp 39) (.tmp 43) 38 rfl base 61 (.agg #[.int .i64 0, .int .i64 0, .int .i64 0]) 3 24 Try.underlying38 Try.infoToken rfl (by decide) (by decide) vt1 T.length (cells3 T) [.int .i64 (-1), .int .i64 (p : Int), .int .i64 (p : Int)] _ rfl HC3.out.rt _ rfl rfl rfl (by simp [Value.oneCell']) (by omega) (by omega) ?_; intro g4 cap4 w4 hown4 hgrow4 hat4 hlt4; have HC4 := HC3.out.tell (x := (-1, (p : Int), (p : Int))) hown4 hgrow4 hat4 hlt4; have HC4 := hid_mk HC4; obtain ⟨kc4, kf4⟩ := (HC3.out.below ((Below.refl _ _).alloc HC3.out.hz _)).kept (fun k hk => (HC3.out.rt.lt k hk).1) hgrow4; have m5 := kc4 5 _ ((HC3.out.below ((Below.refl _ _).alloc HC3.out.hz _)).c5); have mf5 := kf4 5; have m2 := kc4 2 _ ((HC3.out.below ((Below.refl _ _).alloc HC3.out.hz _)).c2); have mf2 := kf4 2; have HB4 := hid_mk ((below_app HB3.out (by omega) HC3.out.rt (by omega) hgrow4).setCell (p := ⟨cb, 5, none⟩) (Nat.le_refl _) (.slice (some ⟨g4, 0, none⟩) (T.length + 1) cap4)); clear kc4 kf4 hown4 hgrow4 hat4 r5))
        refine bodyPost_ret (results_none rfl _ _ _) rfl ?_
        rw [HX.out]
        exact ⟨rfl, HB4.out, hc1, _, _, _, HC4.out.raise⟩
      · have HX : Hid (cutP s inp c = runP s inp (inp.size - q + 1) q (if 1 < thenB s r then thenB s r - 2 else c1) (H ++ (lookFrom s inp c1 H p).1) (n + (lookFrom s inp c1 H p).2) (if thenB s r = 1 then T else T ++ [((r : Int), (p : Int), (q : Int))])) := by
          unfold Hid
          rw [HR.out, runP_some hlt hyes]
          exact runP_fuel hi _ _ (by have := then_le hi hr; split <;> omega) (by omega) (by omega)
        rw [hyes] at HLG
        have hthen := then_le hi hr
        have hR8 := (img_head hi).1
        have h256 := (img_head hi).2.2.2.2
        have hm4 := (img_head hi).2.2.2.1
        have hbe : (s[4 + r]).toNat = thenB s r := bt_eq s (4 + r) (by omega)
        have hrne : ((r : Int) == -1) = false := beq_eq_false_iff_ne.2 (by omega)
        clear hyes HR
        generalize thenB s r = t at *
        by_cases ht1 : t = 1
        · subst ht1
          go_wp2_with fail
          go_quiet ((go_at_call 74; exact Calls.quiet_of (HLG.out _)))
          have HC3 : Hid (CutAt (w2.drewN nq) cb base (w2.drewN nq).heap.size b inp c1 (H ++ (lookFrom s inp c1 H p).1) (n + (lookFrom s inp c1 H p).2) T vh2 vt1) := (HC2.out.drewN nq).raise
          have HB3 : Hid (Below cb w (w2.drewN nq)) := below_drewN HB2.out nq
          have HW3 : Hid (ImgRd (w2.drewN nq) B b g cap s) := HW2.out.drewN nq
          generalize w2.drewN nq = w3 at *
          clear HC2 HB2 HW2 q0 q1 q2 HLG
          have hbt3 := HC3.out.hbt
          have r5 := HC3.out.c5
          have x0 := HC3.out.c0
          have i0 := HW3.out.c0
          go_wp2
          go_roundw
          case rel =>
            refine ⟨q, c1, _, _, T, vh2, vt1, rfl, hq, hc1, ?_, ?_, by omega, HX.out, HC3.out, HB3.out⟩
            · rw [List.length_append]; omega
            · omega
          case measure => simp [intOf]; omega
        · have hbne : ((t : Int) != 1) = true := by rw [bne_iff_ne]; omega
          have hX1 : (if t = 1 then T else T ++ [((r : Int), (p : Int), (q : Int))]) = T ++ [((r : Int), (p : Int), (q : Int))] := if_neg ht1
          rw [hX1] at HX
          clear hX1
          by_cases ht2 : 1 < t
          · obtain ⟨u, hu⟩ : ∃ u, t = u + 2 := ⟨t - 2, by omega⟩
            have hX2 : (if 1 < t then t - 2 else c1) = u := by rw [if_pos ht2]; omega
            rw [hX2] at HX
            clear hX2
            have hu2 : ((t : Int) - 2) = (u : Int) := by omega
            have hut : u < iM s := by omega
            clear hu
            go_wp2_with fail
            go_quiet ((go_at_call 74; exact Calls.quiet_of (HLG.out _)))
            have HC3 : Hid (CutAt (w2.drewN nq) cb base (w2.drewN nq).heap.size b inp c1 (H ++ (lookFrom s inp c1 H p).1) (n + (lookFrom s inp c1 H p).2) T vh2 vt1) := (HC2.out.drewN nq).raise
            have HB3 : Hid (Below cb w (w2.drewN nq)) := below_drewN HB2.out nq
            have HW3 : Hid (ImgRd (w2.drewN nq) B b g cap s) := HW2.out.drewN nq
            generalize w2.drewN nq = w3 at *
            clear HC2 HB2 HW2 q0 q1 q2 HLG
            have hbt3 := HC3.out.hbt
            have r5 := HC3.out.c5
            have x0 := HC3.out.c0
            have i0 := HW3.out.c0
            go_wp2_with (first | (at_builtin; refine wpList_app1 w3 rfl (.tmp 63) (.tmp 68) 38 rfl base 61 (.agg #[.int .i64 0, .int .i64 0, .int .i64 0]) 3 24 Try.underlying38 Try.infoToken rfl (by decide) (by decide) vt1 T.length (cells3 T) [.int .i64 (r : Int), .int .i64 (p : Int), .int .i64 (q : Int)] _ rfl HC3.out.rt _ rfl rfl rfl (by simp [Value.oneCell']) (by omega) (by omega) ?_; intro g4 cap4 w4 hown4 hgrow4 hat4 hlt4; have HC4 := HC3.out.tell (x := ((r : Int), (p : Int), (q : Int))) hown4 hgrow4 hat4 hlt4; have HC4 := hid_mk HC4; obtain ⟨kc4, kf4⟩ := (HC3.out.below ((Below.refl _ _).alloc HC3.out.hz _)).kept (fun k hk => (HC3.out.rt.lt k hk).1) hgrow4; have m5 := kc4 5 _ ((HC3.out.below ((Below.refl _ _).alloc HC3.out.hz _)).c5); have mf5 := kf4 5; have m2 := kc4 2 _ ((HC3.out.below ((Below.refl _ _).alloc HC3.out.hz _)).c2); have mf2 := kf4 2; have HB4 := hid_mk ((below_app HB3.out (by omega) HC3.out.rt (by omega) hgrow4).setCell (p := ⟨cb, 5, none⟩) (Nat.le_refl _) (.slice (some ⟨g4, 0, none⟩) (T.length + 1) cap4)); clear kc4 kf4 hown4 hgrow4 hat4 r5))
            go_roundw
            case rel =>
              refine ⟨q, u, _, _, T ++ [((r : Int), (p : Int), (q : Int))], vh2, _, rfl, hq, hut, ?_, ?_, ?_, HX.out, (HC4.out.cond u).raise, HB4.out.setCell (p := ⟨cb, 2, none⟩) (Nat.le_refl _) _⟩
              · rw [List.length_append]; omega
              · omega
              · simp; omega
            case measure => simp [intOf]; omega
          · have hX2 : (if 1 < t then t - 2 else c1) = c1 := if_neg ht2
            rw [hX2] at HX
            clear hX2
            go_wp2_with fail
            go_quiet ((go_at_call 74; exact Calls.quiet_of (HLG.out _)))
            have HC3 : Hid (CutAt (w2.drewN nq) cb base (w2.drewN nq).heap.size b inp c1 (H ++ (lookFrom s inp c1 H p).1) (n + (lookFrom s inp c1 H p).2) T vh2 vt1) := (HC2.out.drewN nq).raise
            have HB3 : Hid (Below cb w (w2.drewN nq)) := below_drewN HB2.out nq
            have HW3 : Hid (ImgRd (w2.drewN nq) B b g cap s) := HW2.out.drewN nq
            generalize w2.drewN nq = w3 at *
            clear HC2 HB2 HW2 q0 q1 q2 HLG
            have hbt3 := HC3.out.hbt
            have r5 := HC3.out.c5
            have x0 := HC3.out.c0
            have i0 := HW3.out.c0
            go_wp2_with (first | (at_builtin; refine wpList_app1 w3 rfl (.tmp 63) (.tmp 68) 38 rfl base 61 (.agg #[.int .i64 0, .int .i64 0, .int .i64 0]) 3 24 Try.underlying38 Try.infoToken rfl (by decide) (by decide) vt1 T.length (cells3 T) [.int .i64 (r : Int), .int .i64 (p : Int), .int .i64 (q : Int)] _ rfl HC3.out.rt _ rfl rfl rfl (by simp [Value.oneCell']) (by omega) (by omega) ?_; intro g4 cap4 w4 hown4 hgrow4 hat4 hlt4; have HC4 := HC3.out.tell (x := ((r : Int), (p : Int), (q : Int))) hown4 hgrow4 hat4 hlt4; have HC4 := hid_mk HC4; obtain ⟨kc4, kf4⟩ := (HC3.out.below ((Below.refl _ _).alloc HC3.out.hz _)).kept (fun k hk => (HC3.out.rt.lt k hk).1) hgrow4; have m5 := kc4 5 _ ((HC3.out.below ((Below.refl _ _).alloc HC3.out.hz _)).c5); have mf5 := kf4 5; have m2 := kc4 2 _ ((HC3.out.below ((Below.refl _ _).alloc HC3.out.hz _)).c2); have mf2 := kf4 2; have HB4 := hid_mk ((below_app HB3.out (by omega) HC3.out.rt (by omega) hgrow4).setCell (p := ⟨cb, 5, none⟩) (Nat.le_refl _) (.slice (some ⟨g4, 0, none⟩) (T.length + 1) cap4)); clear kc4 kf4 hown4 hgrow4 hat4 r5))
            go_roundw
            case rel =>
              refine ⟨q, c1, _, _, T ++ [((r : Int), (p : Int), (q : Int))], vh2, _, rfl, hq, hc1, ?_, ?_, ?_, HX.out, HC4.out.raise, HB4.out⟩
              · rw [List.length_append]; omega
              · omega
              · simp; omega
            case measure => simp [intOf]; omega
    · have HX : Hid (cutP s inp c = (T, n, c1)) := by
        unfold Hid; rw [HR.out]; exact runP_end hlt
      go_wp2
      go_end0
      rw [HX.out]
      exact ⟨rfl, HBL.out, hc1, _, _, _, HC.out⟩
end Go.Proofs.Ytgjgjgihceijnaa
