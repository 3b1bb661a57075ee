/- Texts put together: ScLook, ScRun, ScScan, CtNext, KpMem, CzMem. -/
import Derived.Test.YtgjgjgihceijnaaGreatG05
import Derived.Test.YtgjgjgihceijnaaGreatG02
import Derived.Deep.RegionHeld3
import Derived.Deep.RegionWith
import Derived.Test.YtgjgjgihceijnaaGreatG06
import Derived.Test.YtgjgjgihceijnaaGreatG04
namespace Go.Proofs.YtgjgjgihceijnaaGreat
open Go.RowKit Go.Stn

theorem Tryz.infoStand : (Tryz.prog.info? 234).map (fun i => (i.zero, i.size, i.bytes)) = some (some (.agg #[.int .i64 0, .int .i64 0, .int .i64 0]), 3, 24) := by kernel_rfl

set_option maxRecDepth 100000 in
set_option maxHeartbeats 1000000 in
theorem look_any (s inp : ByteArray) (B b g cap c p cb base n : Nat) (H T : List (Int × Int × Int)) (vh vt : Value) (w : World) (hi : imgOk s = true) (hs : s.size ≤ 120000) (hin : inp.size ≤ 300) (hp : p ≤ inp.size) (hc : c < iM s)
    (hH : H.length ≤ 100000) (hn : n ≤ 100000)
    (hw : ImgRd w B b g cap s) (hB : B ≤ cb) (hcut : CutAt w cb base w.heap.size b inp c H n T vh vt) :
    Calls Tryz.prog 119 #[.pointer (some ⟨cb, 0, none⟩), .int .i64 p] w fun e w' =>
      e = .returned (.tuple #[]) ∧ Below cb w w' ∧ ∃ vh', CutAt w' cb base w'.heap.size b inp c (H ++ (lookFrom s inp c H p).1) (n + (lookFrom s inp c H p).2) T vh' vt := by
  have HL : Hid (lookFrom s inp c H p = lookP s inp c H (inp.size - p) 0 p [] 0) := rfl
  have hcb := hcut.hb
  have hbt := hcut.hbt
  go_enter Tryz.func119, Tryz.ntmps119
  go_wp2_with fail
  go_loopw [4, 5, 6] (fun x y z wr => ∃ (st i k : Nat) (S : List (Int × Int × Int)) (sv : Value), sv = y ∧ x = .int .i64 st ∧ z = .int .i64 i ∧ st < nSt s c ∧ p ≤ i ∧ i ≤ inp.size ∧ k ≤ i - p ∧ S.length ≤ i - p ∧
      lookFrom s inp c H p = lookP s inp c H (inp.size - i) st i S k ∧ (S = [] → sv = .slice none 0 0) ∧ wr.ownsRow w.heap.size 234 3 sv S.length (cells3 S) ∧
      CutAt wr cb base w.heap.size b inp c H (n + k) T vh vt ∧ Below cb w wr)
    (fun _ _ z _ => inp.size - (intOf z).toNat)
  case atStart => exact ⟨0, p, 0, [], _, rfl, rfl, rfl, (nSt_le hi hc).2, Nat.le_refl _, hp, by omega, by simp, HL.out, fun _ => rfl, World.ownsRow_nil _ _ _ _, hcut, Below.refl _ _⟩
  case round =>
    obtain ⟨st, i, k, S, sv, rfl, rfl, rfl, hst, hpi, hil, hk, hS, hlook, hnil, hown, hcutr, hbel⟩ := hrel
    have HK : Hid (lookFrom s inp c H p = lookP s inp c H (inp.size - i) st i S k) := hlook
    have HN : Hid (S = [] → sv = .slice none 0 0) := hnil
    clear hlook hnil
    have k1 := hcutr.c1
    have k2 := hcutr.c2
    have k3 := hcutr.c3
    have hzr := hcutr.hz
    by_cases hlt : i < inp.size
    · have HCW : Hid (CutAt (wr.alloc (.cells #[.int .i64 (c : Int), .int .i64 (st : Int), .int .i64 (i : Int)] 234)) cb base w.heap.size b inp c H (n + k) T vh vt) := hcutr.below ((Below.refl _ _).alloc hzr _)
      have HOW : Hid ((wr.alloc (.cells #[.int .i64 (c : Int), .int .i64 (st : Int), .int .i64 (i : Int)] 234)).ownsRow w.heap.size 234 3 sv S.length (cells3 S)) := hown.alloc _
      have HBW : Hid (Below cb w (wr.alloc (.cells #[.int .i64 (c : Int), .int .i64 (st : Int), .int .i64 (i : Int)] 234))) := hbel.alloc (by omega) _
      have g0 : (wr.alloc (.cells #[.int .i64 (c : Int), .int .i64 (st : Int), .int .i64 (i : Int)] 234)).cell? ⟨wr.heap.size, 0, none⟩ = some (.int .i64 (c : Int)) := by rw [World.cell?_alloc_new]; rfl
      have g1 : (wr.alloc (.cells #[.int .i64 (c : Int), .int .i64 (st : Int), .int .i64 (i : Int)] 234)).cell? ⟨wr.heap.size, 1, none⟩ = some (.int .i64 (st : Int)) := by rw [World.cell?_alloc_new]; rfl
      have g2 : (wr.alloc (.cells #[.int .i64 (c : Int), .int .i64 (st : Int), .int .i64 (i : Int)] 234)).cell? ⟨wr.heap.size, 2, none⟩ = some (.int .i64 (i : Int)) := by rw [World.cell?_alloc_new]; rfl
      have gz : (wr.alloc (.cells #[.int .i64 (c : Int), .int .i64 (st : Int), .int .i64 (i : Int)] 234)).heap.size = wr.heap.size + 1 := by simp
      go_wp2_with fail
      generalize wr.alloc (.cells #[.int .i64 (c : Int), .int .i64 (st : Int), .int .i64 (i : Int)] 234) = W at *
      clear k1 k2 k3 hcutr hown hbel
      have k3 := HCW.out.c3
      have HR : Hid (Row3 W W.heap.size vh H) := ownsRow_row3 HCW.out.rh
      have hcbz : cb < W.heap.size := by omega
      have hwz : wr.heap.size < W.heap.size := by omega
      cases hkn : memB H ((c : Int), (st : Int), (i : Int)) with
      | true =>
        go_region_held3 (fun w' => w'.cell? ⟨cb, 3, none⟩ = some vh ∧ w'.cell? ⟨wr.heap.size, 0, none⟩ = some (.int .i64 (c : Int)) ∧ w'.cell? ⟨wr.heap.size, 1, none⟩ = some (.int .i64 (st : Int)) ∧ w'.cell? ⟨wr.heap.size, 2, none⟩ = some (.int .i64 (i : Int))) (go_keep)
          (first | (go_at_call 124; refine (has_any H vh _ _ _ _ (by omega) ?_).mono ?_; exact ⟨HR.out.sh⟩; rintro e w2 ⟨rfl, hb2⟩; replace hb2 := below_of_drew hb2; have j3 := (hb2.cell (p := ⟨cb, 3, none⟩) hcbz).trans k3; have j0 := (hb2.cell (p := ⟨wr.heap.size, 0, none⟩) hwz).trans g0; have j1 := (hb2.cell (p := ⟨wr.heap.size, 1, none⟩) hwz).trans g1; have j2 := (hb2.cell (p := ⟨wr.heap.size, 2, none⟩) hwz).trans g2))
        have HX : Hid (lookFrom s inp c H p = (S, k)) := by
          have e : inp.size - i = (inp.size - i - 1) + 1 := by omega
          unfold Hid; rw [HK.out, e]; exact lookP_known hkn
        have HCT : Hid (CutAt w2 cb base w.heap.size b inp c H (n + k) T vh vt) := HCW.out.below (hb2.mono (by show w.heap.size ≤ W.heap.size; omega))
        have HOT : Hid (w2.ownsRow w.heap.size 234 3 sv S.length (cells3 S)) := ownsRow_below HOW.out hb2 (Nat.le_refl _)
        have HBT : Hid (Below cb w w2) := HBW.out.trans (hb2.mono (by show cb ≤ W.heap.size; omega))
        have HN2 : Hid (S = [] → sv = .slice none 0 0) := HN
        clear HCW HOW HBW g0 g1 g2 k3 j0 j1 j2 j3 HR hb2 HK
        have HZ2 := hcb
        rcases (show S = [] ∨ 0 < S.length from by cases S with
          | nil => exact .inl rfl
          | cons a r => exact .inr (by simp)) with hs0 | hs0
        · have hsv := HN2.out hs0
          subst hsv
          rcases ownsRow_shape HCT.out.rh with rfl | ⟨gv, cv, rfl⟩
          all_goals
            have t3 := HCT.out.c3
            have t3f := HCT.out.fz 3
            go_wp2_with (first | (at_builtin; refine wpList_app0 w2 rfl (.tmp 80) (.tmp 81) 222 rfl base 234 (.agg #[.int .i64 0, .int .i64 0, .int .i64 0]) 3 24 Tryz.underlying222 Tryz.infoStand _ H.length (cells3 H) rfl HCT.out.rh rfl ?_))
            go_end0
            have hfin := HCT.out.again3.raise
            refine ⟨rfl, HBT.out.setCell (p := ⟨cb, 3, none⟩) (Nat.le_refl _) _, ?_⟩
            rw [HX.out, hs0, List.append_nil]
            exact ⟨_, hfin⟩
        · have t3 := HCT.out.c3
          have hzt := HCT.out.hz
          go_wp2_with (first | (at_builtin; refine wpList_appRow w2 rfl (.tmp 80) (.tmp 81) 222 rfl base w.heap.size 234 (.agg #[.int .i64 0, .int .i64 0, .int .i64 0]) 3 24 Tryz.underlying222 Tryz.infoStand rfl (by decide) (by decide) vh H.length (cells3 H) sv S.length (cells3 S) rfl HCT.out.rh rfl HOT.out (cells3_one _) hs0 (by omega) (by omega) ?_; intro g3 cap3 w3 hown3 hgrow3 hat3 hlt3; obtain ⟨kc3, kf3⟩ := HCT.out.kept (fun k hk => (HCT.out.rh.lt k hk).1) hgrow3; have m3 := kc3 3 _ t3; have mf3 := kf3 3; clear kc3 kf3))
          go_end0
          refine ⟨rfl, (HBT.out.grown hgrow3 (by omega) (fun k hk => by have := (HCT.out.rh.lt k hk).1; omega)).setCell (p := ⟨cb, 3, none⟩) (Nat.le_refl _) _, ?_⟩
          rw [HX.out]
          have hfin := HCT.out.hope rfl hown3 hgrow3 hat3 hlt3
          exact ⟨_, hfin.raise⟩
      | false =>
        go_region_held3 (fun w' => w'.cell? ⟨cb, 3, none⟩ = some vh ∧ w'.cell? ⟨wr.heap.size, 0, none⟩ = some (.int .i64 (c : Int)) ∧ w'.cell? ⟨wr.heap.size, 1, none⟩ = some (.int .i64 (st : Int)) ∧ w'.cell? ⟨wr.heap.size, 2, none⟩ = some (.int .i64 (i : Int))) (go_keep)
          (first | (go_at_call 124; refine (has_any H vh _ _ _ _ (by omega) ?_).mono ?_; exact ⟨HR.out.sh⟩; rintro e w2 ⟨rfl, hb2⟩; replace hb2 := below_of_drew hb2; have j3 := (hb2.cell (p := ⟨cb, 3, none⟩) hcbz).trans k3; have j0 := (hb2.cell (p := ⟨wr.heap.size, 0, none⟩) hwz).trans g0; have j1 := (hb2.cell (p := ⟨wr.heap.size, 1, none⟩) hwz).trans g1; have j2 := (hb2.cell (p := ⟨wr.heap.size, 2, none⟩) hwz).trans g2))
        have HC2 : Hid (CutAt w2 cb base w.heap.size b inp c H (n + k) T vh vt) := HCW.out.below (hb2.mono (by show w.heap.size ≤ W.heap.size; omega))
        have HO2 : Hid (w2.ownsRow w.heap.size 234 3 sv S.length (cells3 S)) := ownsRow_below HOW.out hb2 (Nat.le_refl _)
        have HB2 : Hid (Below cb w w2) := HBW.out.trans (hb2.mono (by show cb ≤ W.heap.size; omega))
        have hz2 := HC2.out.hz
        clear HCW HOW HBW g0 g1 g2 k3 j3 HR hb2
        obtain ⟨N, hN⟩ : ∃ N, n + k = N := ⟨_, rfl⟩
        rw [hN] at HC2
        have HNN : Hid (n + k = N) := hN
        have hNb : N ≤ 101000 := by omega
        clear hN
        have q4 := HC2.out.c4
        go_wp2_with (first | (at_builtin; refine wpList_app1 w2 rfl (.tmp 34) (.tmp 36) 222 rfl w.heap.size 234 (.agg #[.int .i64 0, .int .i64 0, .int .i64 0]) 3 24 Tryz.underlying222 Tryz.infoStand rfl (by decide) (by decide) sv S.length (cells3 S) [.int .i64 (c : Int), .int .i64 (st : Int), .int .i64 (i : Int)] _ rfl HO2.out _ rfl rfl rfl (by simp [Value.oneCell']) (by omega) (by omega) ?_; intro g4 cap4 w4 hown4 hgrow4 hat4 hlt4; have hb4 := below_app (Below.refl w.heap.size w2) hz2 HO2.out (Nat.le_refl _) hgrow4; have HC4 : Hid (CutAt w4 cb base w.heap.size b inp c H N T vh vt) := HC2.out.below hb4; have r4 := HC4.out.c4; have f4 := HC4.out.fz 4; clear j0 j1 j2 q4))
        have HC5 : Hid (CutAt (w4.setCell ⟨cb, 4, none⟩ (.int .i64 ((N : Int) + 1))) cb base w.heap.size b inp c H (N + 1) T vh vt) := HC4.out.step1
        have HO5 : Hid ((w4.setCell ⟨cb, 4, none⟩ (.int .i64 ((N : Int) + 1))).ownsRow w.heap.size 234 3 (.slice (some ⟨g4, 0, none⟩) (S.length + 1) cap4) (S.length + 1) (cells3 (S ++ [std c st i]))) := by
          rw [cells3_snoc]; exact ownsRow_setCell_below hown4 (by show cb < w.heap.size; omega) _
        have HB5 : Hid (Below cb w (w4.setCell ⟨cb, 4, none⟩ (.int .i64 ((N : Int) + 1)))) := (HB2.out.trans (hb4.mono (by omega))).setCell (p := ⟨cb, 4, none⟩) (Nat.le_refl _) _
        generalize w4.setCell ⟨cb, 4, none⟩ (.int .i64 ((N : Int) + 1)) = w5 at *
        clear HC4 HC2 HO2 HB2 hown4 hgrow4 hat4 hlt4 hb4 r4 f4 hz2
        have hw5 := hw.below HB5.out hB
        have q0 := HC5.out.c0
        have q1 := HC5.out.c1
        have q2 := HC5.out.c2
        have hbe := bt_eq inp i hlt
        have hbl := bt_lt inp i
        have hiI : (0 : Int) ≤ (i : Int) ∧ (i : Int) < (inp.size : Int) := by omega
        have HSE : Hid (inp.size - i = (inp.size - i - 1) + 1) := by unfold Hid; omega
        by_cases h255 : leadN s c st (bt inp i) = 255
        · have hlz : leadZ s c st (bt inp i) = -1 := by unfold leadZ; rw [if_pos h255]
          have HX : Hid (lookFrom s inp c H p = (S ++ [std c st i], k + 1)) := by
            unfold Hid; rw [HK.out, HSE.out]; exact lookP_nowhere hkn h255
          have HLD : Hid (∀ q, Calls Tryz.prog 125 #[.pointer (some ⟨b, 0, none⟩), .int .i64 c, .int .i64 st, .int .u8 (bt inp i)] (w5.drewN q) fun e w' => e = .returned (.int .i64 (leadZ s c st (bt inp i))) ∧ ∃ m, w' = (w5.drewN q).drewN m) := fun q => lead_any s B b g cap c st (bt inp i) (w5.drewN q) hi hs hc hst hbl (hw5.drewN q)
          go_quiet ((go_at_call 125; exact Calls.quiet_of (HLD.out _)))
          have HCT : Hid (CutAt (w5.drewN nq) cb base w.heap.size b inp c H (n + (k + 1)) T vh vt) := by
            have e : n + (k + 1) = N + 1 := by have := HNN.out; omega
            rw [e]; exact HC5.out.drewN nq
          have HOT : Hid ((w5.drewN nq).ownsRow w.heap.size 234 3 (.slice (some ⟨g4, 0, none⟩) (S.length + 1) cap4) (S ++ [std c st i]).length (cells3 (S ++ [std c st i]))) := by
            rw [List.length_append]; exact HO5.out
          have HBT : Hid (Below cb w (w5.drewN nq)) := _root_.Go.below_drewN HB5.out nq
          have hs0 : 0 < (S ++ [std c st i]).length := by simp
          have hS5 : (S ++ [std c st i]).length ≤ 301 := by simp; omega
          generalize S ++ [std c st i] = S5 at *
          generalize w5.drewN nq = w6 at *
          clear HC5 HO5 HB5 hw5 q0 q1 q2 HLD HK
          have t3 := HCT.out.c3
          have hzt := HCT.out.hz
          go_wp2_with (first | (at_builtin; refine wpList_appRow w6 rfl (.tmp 80) (.tmp 81) 222 rfl base w.heap.size 234 (.agg #[.int .i64 0, .int .i64 0, .int .i64 0]) 3 24 Tryz.underlying222 Tryz.infoStand rfl (by decide) (by decide) vh H.length (cells3 H) _ S5.length (cells3 S5) rfl HCT.out.rh rfl HOT.out (cells3_one _) hs0 (by omega) (by omega) ?_; intro g3 cap3 w3 hown3 hgrow3 hat3 hlt3; obtain ⟨kc3, kf3⟩ := HCT.out.kept (fun k hk => (HCT.out.rh.lt k hk).1) hgrow3; have m3 := kc3 3 _ t3; have mf3 := kf3 3; clear kc3 kf3))
          go_end0
          refine ⟨rfl, (HBT.out.grown hgrow3 (by omega) (fun k hk => by have := (HCT.out.rh.lt k hk).1; omega)).setCell (p := ⟨cb, 3, none⟩) (Nat.le_refl _) _, ?_⟩
          rw [HX.out]
          have hfin := HCT.out.hope rfl hown3 hgrow3 hat3 hlt3
          exact ⟨_, hfin.raise⟩
        · have hlz : leadZ s c st (bt inp i) = (leadN s c st (bt inp i) : Int) := by unfold leadZ; rw [if_neg h255]
          have HLD : Hid (∀ q, Calls Tryz.prog 125 #[.pointer (some ⟨b, 0, none⟩), .int .i64 c, .int .i64 st, .int .u8 (bt inp i)] (w5.drewN q) fun e w' => e = .returned (.int .i64 (leadN s c st (bt inp i) : Int)) ∧ ∃ m, w' = (w5.drewN q).drewN m) := fun q => by
            rw [← hlz]; exact lead_any s B b g cap c st (bt inp i) (w5.drewN q) hi hs hc hst hbl (hw5.drewN q)
          clear hlz
          have ht := lead_lt hi hc hst hbl
          have HT1 : Hid (0 < markN s c (leadN s c st (bt inp i)) → lookFrom s inp c H p = lookP s inp c H (inp.size - (i + 1)) (leadN s c st (bt inp i)) (i + 1) [] (k + 1)) := by
            intro hm; rw [HK.out, HSE.out]; exact lookP_token hkn h255 hm
          have HT2 : Hid (markN s c (leadN s c st (bt inp i)) = 0 → lookFrom s inp c H p = lookP s inp c H (inp.size - (i + 1)) (leadN s c st (bt inp i)) (i + 1) (S ++ [std c st i]) (k + 1)) := by
            intro hm; rw [HK.out, HSE.out]; exact lookP_step hkn h255 hm
          generalize leadN s c st (bt inp i) = t at *
          have ht : t < nSt s c := by omega
          by_cases hm : 0 < markN s c t
          · go_quiet ((go_at_call 125; exact Calls.quiet_of (HLD.out _)))
            have HC6 : Hid (CutAt (w5.drewN nq) cb base w.heap.size b inp c H (N + 1) T vh vt) := HC5.out.drewN nq
            have HO6 : Hid ((w5.drewN nq).ownsRow w.heap.size 234 3 (.slice (some ⟨g4, 0, none⟩) (S.length + 1) cap4) (S.length + 1) (cells3 (S ++ [std c st i]))) := HO5.out
            have HB6 : Hid (Below cb w (w5.drewN nq)) := _root_.Go.below_drewN HB5.out nq
            have HW6 : Hid (ImgRd (w5.drewN nq) B b g cap s) := hw5.drewN nq
            generalize w5.drewN nq = w6 at *
            clear HC5 HO5 HB5 hw5 q0 q1 q2 HLD HK
            have q0 := HC6.out.c0
            have q2 := HC6.out.c2
            have HMD : Hid (∀ q, Calls Tryz.prog 126 #[.pointer (some ⟨b, 0, none⟩), .int .i64 c, .int .i64 t] (w6.drewN q) fun e w' => e = .returned (.int .i64 (markN s c t : Int)) ∧ ∃ m, w' = (w6.drewN q).drewN m) := fun q =>
              mark_any s B b g cap c t (w6.drewN q) hi hs hc ht (HW6.out.drewN q)
            go_wp2_with fail
            go_quiet ((go_at_call 126; exact Calls.quiet_of (HMD.out _)))
            go_wp2
            go_roundw
            case rel =>
              refine ⟨t, i + 1, k + 1, [], .slice none 0 0, rfl, rfl, by go_num, ht, by omega, hlt, by omega, by simp, HT1.out hm, fun _ => rfl, World.ownsRow_nil _ _ _ _, ?_, ?_⟩
              · have e : n + (k + 1) = N + 1 := by have := HNN.out; omega
                rw [e]; exact HC6.out.drewN _
              · exact _root_.Go.below_drewN HB6.out _
            case measure => simp [intOf]; omega
          · have hm0 : markN s c t = 0 := by omega
            go_quiet ((go_at_call 125; exact Calls.quiet_of (HLD.out _)))
            have HC6 : Hid (CutAt (w5.drewN nq) cb base w.heap.size b inp c H (N + 1) T vh vt) := HC5.out.drewN nq
            have HO6 : Hid ((w5.drewN nq).ownsRow w.heap.size 234 3 (.slice (some ⟨g4, 0, none⟩) (S.length + 1) cap4) (S.length + 1) (cells3 (S ++ [std c st i]))) := HO5.out
            have HB6 : Hid (Below cb w (w5.drewN nq)) := _root_.Go.below_drewN HB5.out nq
            have HW6 : Hid (ImgRd (w5.drewN nq) B b g cap s) := hw5.drewN nq
            generalize w5.drewN nq = w6 at *
            clear HC5 HO5 HB5 hw5 q0 q1 q2 HLD HK
            have q0 := HC6.out.c0
            have q2 := HC6.out.c2
            have HMD : Hid (∀ q, Calls Tryz.prog 126 #[.pointer (some ⟨b, 0, none⟩), .int .i64 c, .int .i64 t] (w6.drewN q) fun e w' => e = .returned (.int .i64 (markN s c t : Int)) ∧ ∃ m, w' = (w6.drewN q).drewN m) := fun q =>
              mark_any s B b g cap c t (w6.drewN q) hi hs hc ht (HW6.out.drewN q)
            go_wp2_with fail
            go_quiet ((go_at_call 126; exact Calls.quiet_of (HMD.out _)))
            go_wp2
            go_roundw
            case rel =>
              refine ⟨t, i + 1, k + 1, S ++ [std c st i], _, rfl, rfl, by go_num, ht, by omega, hlt, by omega, by simp; omega, HT2.out hm0, fun h => by simp at h, ?_, ?_, ?_⟩
              · rw [List.length_append]; exact HO6.out
              · have e : n + (k + 1) = N + 1 := by have := HNN.out; omega
                rw [e]; exact HC6.out.drewN _
              · exact _root_.Go.below_drewN HB6.out _
            case measure => simp [intOf]; omega
    · have HX : Hid (lookFrom s inp c H p = (S, k)) := by
        have e : inp.size - i = 0 := by omega
        unfold Hid; rw [HK.out, e]; rfl
      have HCT : Hid (CutAt wr cb base w.heap.size b inp c H (n + k) T vh vt) := hcutr
      have HOT : Hid (wr.ownsRow w.heap.size 234 3 sv S.length (cells3 S)) := hown
      have HBT : Hid (Below cb w wr) := hbel
      have HN2 : Hid (S = [] → sv = .slice none 0 0) := HN
      clear hcutr hown hbel HK k2 k3
      have HZ2 := hcb
      rcases (show S = [] ∨ 0 < S.length from by cases S with
        | nil => exact .inl rfl
        | cons a r => exact .inr (by simp)) with hs0 | hs0
      · have hsv := HN2.out hs0
        subst hsv
        rcases ownsRow_shape HCT.out.rh with rfl | ⟨gv, cv, rfl⟩
        all_goals
          have t3 := HCT.out.c3
          have t3f := HCT.out.fz 3
          go_wp2_with (first | (at_builtin; refine wpList_app0 wr rfl (.tmp 80) (.tmp 81) 222 rfl base 234 (.agg #[.int .i64 0, .int .i64 0, .int .i64 0]) 3 24 Tryz.underlying222 Tryz.infoStand _ H.length (cells3 H) rfl HCT.out.rh rfl ?_))
          go_end0
          have hfin := HCT.out.again3.raise
          refine ⟨rfl, HBT.out.setCell (p := ⟨cb, 3, none⟩) (Nat.le_refl _) _, ?_⟩
          rw [HX.out, hs0, List.append_nil]
          exact ⟨_, hfin⟩
      · have t3 := HCT.out.c3
        have hzt := HCT.out.hz
        go_wp2_with (first | (at_builtin; refine wpList_appRow wr rfl (.tmp 80) (.tmp 81) 222 rfl base w.heap.size 234 (.agg #[.int .i64 0, .int .i64 0, .int .i64 0]) 3 24 Tryz.underlying222 Tryz.infoStand rfl (by decide) (by decide) vh H.length (cells3 H) sv S.length (cells3 S) rfl HCT.out.rh rfl HOT.out (cells3_one _) hs0 (by omega) (by omega) ?_; intro g3 cap3 w3 hown3 hgrow3 hat3 hlt3; obtain ⟨kc3, kf3⟩ := HCT.out.kept (fun k hk => (HCT.out.rh.lt k hk).1) hgrow3; have m3 := kc3 3 _ t3; have mf3 := kf3 3; clear kc3 kf3))
        go_end0
        refine ⟨rfl, (HBT.out.grown hgrow3 (by omega) (fun k hk => by have := (HCT.out.rh.lt k hk).1; omega)).setCell (p := ⟨cb, 3, none⟩) (Nat.le_refl _) _, ?_⟩
        rw [HX.out]
        have hfin := HCT.out.hope rfl hown3 hgrow3 hat3 hlt3
        exact ⟨_, hfin.raise⟩
end Go.Proofs.YtgjgjgihceijnaaGreat

namespace Go.Proofs.YtgjgjgihceijnaaGreat
open Go.RowKit Go.Stn

set_option maxRecDepth 100000 in
set_option maxHeartbeats 1000000 in
theorem run_any (s inp : ByteArray) (B b g cap c cb base : Nat) (vh vt : Value) (w : World) (hi : imgOk s = true) (hs : s.size ≤ 120000) (hin : inp.size ≤ 300) (hc : c < iM s)
    (hw : ImgRd w B b g cap s) (hB : B ≤ cb) (hcut : CutAt w cb base w.heap.size b inp c [] 0 [] vh vt) :
    Calls Tryz.prog 112 #[.pointer (some ⟨cb, 0, none⟩)] w fun e w' =>
      e = .returned (.tuple #[]) ∧ Below cb w w' ∧ (cutP s inp c).2.2 < iM s ∧ ∃ H vh' vt', CutAt w' cb base w'.heap.size b inp (cutP s inp c).2.2 H (cutP s inp c).2.1 (cutP s inp c).1 vh' vt' := by
  have HL : Hid (cutP s inp c = runP s inp (inp.size + 1) 0 c [] 0 []) := rfl
  have hcb := hcut.hb
  have hbt := hcut.hbt
  go_enter Tryz.func112, Tryz.ntmps112
  go_wp2_with fail
  go_loopw [2] (fun x wr => ∃ (p c1 n : Nat) (H T : List (Int × Int × Int)) (vh vt : Value), x = .int .i64 p ∧ p ≤ inp.size ∧ c1 < iM s ∧ H.length ≤ 300 * p ∧ n ≤ 300 * p ∧ T.length ≤ p ∧
      cutP s inp c = runP s inp (inp.size - p + 1) p c1 H n T ∧ CutAt wr cb base wr.heap.size b inp c1 H n T vh vt ∧ Below cb w wr)
    (fun x _ => inp.size - (intOf x).toNat)
  case atStart => exact ⟨0, c, 0, [], [], vh, vt, rfl, Nat.zero_le _, hc, by simp, by omega, by simp, HL.out, hcut, Below.refl _ _⟩
  case round =>
    obtain ⟨p, c1, n, H, T, vh1, vt1, rfl, hp, hc1, hH, hn, hT, hrun, hcut1, hbel⟩ := hrel
    have HR : Hid (cutP s inp c = runP s inp (inp.size - p + 1) p c1 H n T) := hrun
    have HC : Hid (CutAt wr cb base wr.heap.size b inp c1 H n T vh1 vt1) := hcut1
    have HBL : Hid (Below cb w wr) := hbel
    have k1 := hcut1.c1
    clear hrun hcut1 hbel
    by_cases hlt : p < inp.size
    · go_wp2_with fail
      refine (look_any s inp B b g cap c1 p cb base n H T vh1 vt1 _ hi hs hin hp hc1 (by omega) (by omega) (hw.below HBL.out hB) hB HC.out).mono ?_
      rintro e w2 ⟨rfl, hb2, vh2, hcut2⟩
      have HC2 : Hid (CutAt w2 cb base w2.heap.size b inp c1 (H ++ (lookFrom s inp c1 H p).1) (n + (lookFrom s inp c1 H p).2) T vh2 vt1) := hcut2
      have HB2 : Hid (Below cb w w2) := HBL.out.trans hb2
      clear hcut2 hb2 HC HBL k1
      have hlen := lookFrom_len (s := s) (inp := inp) (c := c1) (p := p) (H := H)
      have HW2 : Hid (ImgRd w2 B b g cap s) := hw.below HB2.out hB
      have q0 := HC2.out.c0
      have q1 := HC2.out.c1
      have q2 := HC2.out.c2
      have HLG : Hid (∀ q, Calls Tryz.prog 120 #[.pointer (some ⟨b, 0, none⟩), .string inp, .int .i64 p, .int .i64 c1] (w2.drewN q) fun e w' => e = .returned (.tuple #[.int .i64 (lng s inp c1 p).1, .int .i64 (lng s inp c1 p).2]) ∧ ∃ m, w' = (w2.drewN q).drewN m) := fun q =>
        longest_any s inp B b g cap c1 p (w2.drewN q) hi hs hin hp hc1 (HW2.out.drewN q)
      rcases lng_cases hi hc1 hp with hno | ⟨r, q, hyes, hr, hpq, hq⟩
      · have HX : Hid (cutP s inp c = (T ++ [(-1, (p : Int), (p : Int))], n + (lookFrom s inp c1 H p).2, c1)) := by
          unfold Hid; rw [HR.out]; exact runP_none hlt hno
        rw [hno] at HLG
        clear hno HR
        go_wp2_with fail
        go_quiet ((go_at_call 120; exact Calls.quiet_of (HLG.out _)))
        have HC3 : Hid (CutAt (w2.drewN nq) cb base (w2.drewN nq).heap.size b inp c1 (H ++ (lookFrom s inp c1 H p).1) (n + (lookFrom s inp c1 H p).2) T vh2 vt1) := (HC2.out.drewN nq).raise
        have HB3 : Hid (Below cb w (w2.drewN nq)) := _root_.Go.below_drewN HB2.out nq
        have HW3 : Hid (ImgRd (w2.drewN nq) B b g cap s) := HW2.out.drewN nq
        generalize w2.drewN nq = w3 at *
        clear HC2 HB2 HW2 q0 q1 q2 HLG
        have hbt3 := HC3.out.hbt
        have r5 := HC3.out.c5
        go_wp2_with (first | (at_builtin; refine wpList_app1 w3 rfl (.tmp 39) (.tmp 43) 29 rfl base 79 (.agg #[.int .i64 0, .int .i64 0, .int .i64 0]) 3 24 Tryz.underlying29 Tryz.infoToken rfl (by decide) (by decide) vt1 T.length (cells3 T) [.int .i64 (-1), .int .i64 (p : Int), .int .i64 (p : Int)] _ rfl HC3.out.rt _ rfl rfl rfl (by simp [Value.oneCell']) (by omega) (by omega) ?_; intro g4 cap4 w4 hown4 hgrow4 hat4 hlt4; have HC4 := HC3.out.tell (x := (-1, (p : Int), (p : Int))) hown4 hgrow4 hat4 hlt4; have HC4 := hid_mk HC4; obtain ⟨kc4, kf4⟩ := (HC3.out.below ((Below.refl _ _).alloc HC3.out.hz _)).kept (fun k hk => (HC3.out.rt.lt k hk).1) hgrow4; have m5 := kc4 5 _ ((HC3.out.below ((Below.refl _ _).alloc HC3.out.hz _)).c5); have mf5 := kf4 5; have m2 := kc4 2 _ ((HC3.out.below ((Below.refl _ _).alloc HC3.out.hz _)).c2); have mf2 := kf4 2; have HB4 := hid_mk ((below_app HB3.out (by omega) HC3.out.rt (by omega) hgrow4).setCell (p := ⟨cb, 5, none⟩) (Nat.le_refl _) (.slice (some ⟨g4, 0, none⟩) (T.length + 1) cap4)); clear kc4 kf4 hown4 hgrow4 hat4 r5))
        refine bodyPost_ret (results_none rfl _ _ _) rfl ?_
        rw [HX.out]
        exact ⟨rfl, HB4.out, hc1, _, _, _, HC4.out.raise⟩
      · have HX : Hid (cutP s inp c = runP s inp (inp.size - q + 1) q (if 1 < thenB s r then thenB s r - 2 else c1) (H ++ (lookFrom s inp c1 H p).1) (n + (lookFrom s inp c1 H p).2) (if thenB s r = 1 then T else T ++ [((r : Int), (p : Int), (q : Int))])) := by
          unfold Hid
          rw [HR.out, runP_some hlt hyes]
          exact runP_fuel hi _ _ (by have := then_le hi hr; split <;> omega) (by omega) (by omega)
        rw [hyes] at HLG
        have hthen := then_le hi hr
        have hR8 := (img_head hi).1
        have h256 := (img_head hi).2.2.2.2
        have hm4 := (img_head hi).2.2.2.1
        have hbe : (s[4 + r]).toNat = thenB s r := bt_eq s (4 + r) (by omega)
        have hrne : ((r : Int) == -1) = false := beq_eq_false_iff_ne.2 (by omega)
        clear hyes HR
        generalize thenB s r = t at *
        by_cases ht1 : t = 1
        · subst ht1
          go_wp2_with fail
          go_quiet ((go_at_call 120; exact Calls.quiet_of (HLG.out _)))
          have HC3 : Hid (CutAt (w2.drewN nq) cb base (w2.drewN nq).heap.size b inp c1 (H ++ (lookFrom s inp c1 H p).1) (n + (lookFrom s inp c1 H p).2) T vh2 vt1) := (HC2.out.drewN nq).raise
          have HB3 : Hid (Below cb w (w2.drewN nq)) := _root_.Go.below_drewN HB2.out nq
          have HW3 : Hid (ImgRd (w2.drewN nq) B b g cap s) := HW2.out.drewN nq
          generalize w2.drewN nq = w3 at *
          clear HC2 HB2 HW2 q0 q1 q2 HLG
          have hbt3 := HC3.out.hbt
          have r5 := HC3.out.c5
          have x0 := HC3.out.c0
          have i0 := HW3.out.c0
          go_wp2
          go_roundw
          case rel =>
            refine ⟨q, c1, _, _, T, vh2, vt1, rfl, hq, hc1, ?_, ?_, by omega, HX.out, HC3.out, HB3.out⟩
            · rw [List.length_append]; omega
            · omega
          case measure => simp [intOf]; omega
        · have hbne : ((t : Int) != 1) = true := by rw [bne_iff_ne]; omega
          have hX1 : (if t = 1 then T else T ++ [((r : Int), (p : Int), (q : Int))]) = T ++ [((r : Int), (p : Int), (q : Int))] := if_neg ht1
          rw [hX1] at HX
          clear hX1
          by_cases ht2 : 1 < t
          · obtain ⟨u, hu⟩ : ∃ u, t = u + 2 := ⟨t - 2, by omega⟩
            have hX2 : (if 1 < t then t - 2 else c1) = u := by rw [if_pos ht2]; omega
            rw [hX2] at HX
            clear hX2
            have hu2 : ((t : Int) - 2) = (u : Int) := by omega
            have hut : u < iM s := by omega
            clear hu
            go_wp2_with fail
            go_quiet ((go_at_call 120; exact Calls.quiet_of (HLG.out _)))
            have HC3 : Hid (CutAt (w2.drewN nq) cb base (w2.drewN nq).heap.size b inp c1 (H ++ (lookFrom s inp c1 H p).1) (n + (lookFrom s inp c1 H p).2) T vh2 vt1) := (HC2.out.drewN nq).raise
            have HB3 : Hid (Below cb w (w2.drewN nq)) := _root_.Go.below_drewN HB2.out nq
            have HW3 : Hid (ImgRd (w2.drewN nq) B b g cap s) := HW2.out.drewN nq
            generalize w2.drewN nq = w3 at *
            clear HC2 HB2 HW2 q0 q1 q2 HLG
            have hbt3 := HC3.out.hbt
            have r5 := HC3.out.c5
            have x0 := HC3.out.c0
            have i0 := HW3.out.c0
            go_wp2_with (first | (at_builtin; refine wpList_app1 w3 rfl (.tmp 63) (.tmp 68) 29 rfl base 79 (.agg #[.int .i64 0, .int .i64 0, .int .i64 0]) 3 24 Tryz.underlying29 Tryz.infoToken rfl (by decide) (by decide) vt1 T.length (cells3 T) [.int .i64 (r : Int), .int .i64 (p : Int), .int .i64 (q : Int)] _ rfl HC3.out.rt _ rfl rfl rfl (by simp [Value.oneCell']) (by omega) (by omega) ?_; intro g4 cap4 w4 hown4 hgrow4 hat4 hlt4; have HC4 := HC3.out.tell (x := ((r : Int), (p : Int), (q : Int))) hown4 hgrow4 hat4 hlt4; have HC4 := hid_mk HC4; obtain ⟨kc4, kf4⟩ := (HC3.out.below ((Below.refl _ _).alloc HC3.out.hz _)).kept (fun k hk => (HC3.out.rt.lt k hk).1) hgrow4; have m5 := kc4 5 _ ((HC3.out.below ((Below.refl _ _).alloc HC3.out.hz _)).c5); have mf5 := kf4 5; have m2 := kc4 2 _ ((HC3.out.below ((Below.refl _ _).alloc HC3.out.hz _)).c2); have mf2 := kf4 2; have HB4 := hid_mk ((below_app HB3.out (by omega) HC3.out.rt (by omega) hgrow4).setCell (p := ⟨cb, 5, none⟩) (Nat.le_refl _) (.slice (some ⟨g4, 0, none⟩) (T.length + 1) cap4)); clear kc4 kf4 hown4 hgrow4 hat4 r5))
            go_roundw
            case rel =>
              refine ⟨q, u, _, _, T ++ [((r : Int), (p : Int), (q : Int))], vh2, _, rfl, hq, hut, ?_, ?_, ?_, HX.out, (HC4.out.cond u).raise, HB4.out.setCell (p := ⟨cb, 2, none⟩) (Nat.le_refl _) _⟩
              · rw [List.length_append]; omega
              · omega
              · simp; omega
            case measure => simp [intOf]; omega
          · have hX2 : (if 1 < t then t - 2 else c1) = c1 := if_neg ht2
            rw [hX2] at HX
            clear hX2
            go_wp2_with fail
            go_quiet ((go_at_call 120; exact Calls.quiet_of (HLG.out _)))
            have HC3 : Hid (CutAt (w2.drewN nq) cb base (w2.drewN nq).heap.size b inp c1 (H ++ (lookFrom s inp c1 H p).1) (n + (lookFrom s inp c1 H p).2) T vh2 vt1) := (HC2.out.drewN nq).raise
            have HB3 : Hid (Below cb w (w2.drewN nq)) := _root_.Go.below_drewN HB2.out nq
            have HW3 : Hid (ImgRd (w2.drewN nq) B b g cap s) := HW2.out.drewN nq
            generalize w2.drewN nq = w3 at *
            clear HC2 HB2 HW2 q0 q1 q2 HLG
            have hbt3 := HC3.out.hbt
            have r5 := HC3.out.c5
            have x0 := HC3.out.c0
            have i0 := HW3.out.c0
            go_wp2_with (first | (at_builtin; refine wpList_app1 w3 rfl (.tmp 63) (.tmp 68) 29 rfl base 79 (.agg #[.int .i64 0, .int .i64 0, .int .i64 0]) 3 24 Tryz.underlying29 Tryz.infoToken rfl (by decide) (by decide) vt1 T.length (cells3 T) [.int .i64 (r : Int), .int .i64 (p : Int), .int .i64 (q : Int)] _ rfl HC3.out.rt _ rfl rfl rfl (by simp [Value.oneCell']) (by omega) (by omega) ?_; intro g4 cap4 w4 hown4 hgrow4 hat4 hlt4; have HC4 := HC3.out.tell (x := ((r : Int), (p : Int), (q : Int))) hown4 hgrow4 hat4 hlt4; have HC4 := hid_mk HC4; obtain ⟨kc4, kf4⟩ := (HC3.out.below ((Below.refl _ _).alloc HC3.out.hz _)).kept (fun k hk => (HC3.out.rt.lt k hk).1) hgrow4; have m5 := kc4 5 _ ((HC3.out.below ((Below.refl _ _).alloc HC3.out.hz _)).c5); have mf5 := kf4 5; have m2 := kc4 2 _ ((HC3.out.below ((Below.refl _ _).alloc HC3.out.hz _)).c2); have mf2 := kf4 2; have HB4 := hid_mk ((below_app HB3.out (by omega) HC3.out.rt (by omega) hgrow4).setCell (p := ⟨cb, 5, none⟩) (Nat.le_refl _) (.slice (some ⟨g4, 0, none⟩) (T.length + 1) cap4)); clear kc4 kf4 hown4 hgrow4 hat4 r5))
            go_roundw
            case rel =>
              refine ⟨q, c1, _, _, T ++ [((r : Int), (p : Int), (q : Int))], vh2, _, rfl, hq, hc1, ?_, ?_, ?_, HX.out, HC4.out.raise, HB4.out⟩
              · rw [List.length_append]; omega
              · omega
              · simp; omega
            case measure => simp [intOf]; omega
    · have HX : Hid (cutP s inp c = (T, n, c1)) := by
        unfold Hid; rw [HR.out]; exact runP_end hlt
      go_wp2
      go_end0
      rw [HX.out]
      exact ⟨rfl, HBL.out, hc1, _, _, _, HC.out⟩
end Go.Proofs.YtgjgjgihceijnaaGreat

namespace Go.Stn
/-- The same lists? -/
def sameB (a b : List (Int × Int × Int)) : Bool := decide (a = b)
end Go.Stn
namespace Go.Proofs.YtgjgjgihceijnaaGreat
open Go.RowKit Go.Stn

theorem ownsRow_base {w : World} {base base' : Nat} {e : TypeId} {size : Nat} {v : Value} {n : Nat} {xs : List Value} (h : w.ownsRow base e size v n xs) (hb : base' ≤ base) : w.ownsRow base' e size v n xs := by
  refine ⟨h.1, ?_⟩
  rcases h.2 with hn | ⟨g, cap, cur, hv, hbg, rest⟩
  · exact .inl hn
  · exact .inr ⟨g, cap, cur, hv, by omega, rest⟩

/-- A cut as it is made. -/
theorem CutAt.start (w : World) (ib : Nat) (inp : ByteArray) (c : Nat) :
    CutAt (w.alloc (.cells #[.pointer (some ⟨ib, 0, none⟩), .string inp, .int .i64 c, .slice none 0 0, .int .i64 0, .slice none 0 0] 224)) w.heap.size (w.heap.size + 1) (w.alloc (.cells #[.pointer (some ⟨ib, 0, none⟩), .string inp, .int .i64 c, .slice none 0 0, .int .i64 0, .slice none 0 0] 224)).heap.size ib inp c [] 0 [] (.slice none 0 0) (.slice none 0 0) := by
  have hc : ∀ i v, #[Value.pointer (some ⟨ib, 0, none⟩), .string inp, .int .i64 c, .slice none 0 0, .int .i64 0, .slice none 0 0][i]? = some v →
      (w.alloc (.cells #[.pointer (some ⟨ib, 0, none⟩), .string inp, .int .i64 c, .slice none 0 0, .int .i64 0, .slice none 0 0] 224)).cell? ⟨w.heap.size, i, none⟩ = some v := fun i v h => by
    rw [World.cell?_alloc_new]; exact h
  refine ⟨hc 0 _ rfl, hc 1 _ rfl, hc 2 _ rfl, hc 3 _ rfl, hc 4 _ rfl, hc 5 _ rfl, fun i => by rw [World.frozen?_alloc_new], World.ownsRow_nil _ _ _ _, World.ownsRow_nil _ _ _ _, by omega, Nat.le_refl _, by simp, fun k hk => by simp [Value.ownBlock] at hk, fun k hk => by simp [Value.ownBlock] at hk, .inl rfl⟩

end Go.Proofs.YtgjgjgihceijnaaGreat

namespace Go.Stn
open Go.RowKit
theorem runP_cond {s inp : ByteArray} (hi : imgOk s = true) : ∀ (f p c : Nat) (H : List (Int × Int × Int)) (n : Nat) (T : List (Int × Int × Int)), c < iM s → (runP s inp f p c H n T).2.2 < iM s := by
  intro f
  induction f with
  | zero => intro p c H n T h; rw [runP]; exact h
  | succ e ih =>
    intro p c H n T hc
    by_cases hlt : p < inp.size
    · rcases lng_cases hi hc (Nat.le_of_lt hlt) with hno | ⟨r, q, hyes, hr, hpq, hq⟩
      · rw [runP_none hlt hno]; exact hc
      · rw [runP_some hlt hyes]
        have := then_le hi hr
        exact ih q _ _ _ _ (by split <;> omega)
    · rw [runP_end hlt]; exact hc
theorem cutP_cond {s inp : ByteArray} (hi : imgOk s = true) {c : Nat} (hc : c < iM s) : (cutP s inp c).2.2 < iM s := runP_cond hi _ _ _ _ _ _ hc
end Go.Stn
namespace Go.Proofs.YtgjgjgihceijnaaGreat
open Go.RowKit Go.Stn

def cellsOf (X : World) (v : Value) : Array Value := match v with
  | .pointer (some a) => ((List.range 258).map fun i => (X.cell? ⟨a.block, i, none⟩).getD undef).toArray
  | _ => #[]
def loadsImg (X : World) (v : Value) : Prop := ∃ B cs, v = .pointer (some ⟨B, 0, none⟩) ∧ cs.length = 258 ∧ X.rangeAt B 0 cs
theorem cellsOf_eq {X : World} {B : Nat} {cs : List Value} (hl : cs.length = 258) (hr : X.rangeAt B 0 cs) : cellsOf X (.pointer (some ⟨B, 0, none⟩)) = cs.toArray := by
  have e : ((List.range 258).map fun i => (X.cell? ⟨B, i, none⟩).getD undef) = cs := by
    refine List.ext_getElem (by simp [hl]) (fun i h1 h2 => ?_)
    have := hr i cs[i] (List.getElem?_eq_getElem h2)
    rw [Nat.zero_add] at this
    simp [this]
  show ((List.range 258).map fun i => (X.cell? ⟨B, i, none⟩).getD undef).toArray = cs.toArray
  rw [e]
theorem Tryz.wpLoadImg {d : Option Tmp} {x : Operand} {ty : TypeId} {p : String} {af : Array Edge} {gd : Option (Nat × Bool)} {a : Act} {X : World} {K : Act → World → Prop} {Q : Exit → Act → World → Prop}
    (h : loadsImg X (a.eval x)) :
    Oper.wp Tryz.prog { dst := d, op := .load 72 x, type := ty, pos := p, after := af, guard := gd } a X K Q = K (a.put d (.agg (cellsOf X (a.eval x)))) X := by
  obtain ⟨B, cs, hx, hl, hb⟩ := h
  have hr := run_loadVar_mid (P := Tryz.prog) X B 0 72 cs _ hb Tryz.underlying72 rfl (by rw [hl]; exact Tryz.imgSize)
  unfold Oper.wp execOp
  simp only [hx, Instr.loadAt, Instr.sureAddr, Sem.run_bind, Sem.run_pure, Result.andThen_ok, hr, cellsOf_eq hl hb]
  rfl

theorem pcond_any {w : World} {cb lo : Nat} {s : ByteArray} {c bb vg vcap : Nat} {yb : Nat → Nat} {zb : Nat → Nat → Nat} (h : CT w cb lo s c bb vg vcap yb zb) :
    Calls Tryz.prog 32 #[.pointer (some ⟨cb, 0, none⟩)] w fun e w' => e = .returned (.int .i64 c) ∧ w' = w := by
  have k1 := h.k1
  clear h
  go_enter Tryz.func32, Tryz.ntmps32
  go_wp2
  go_ret
  exact ⟨rfl, rfl⟩

theorem CT.setC {w : World} {cb lo : Nat} {s : ByteArray} {c bb vg vcap : Nat} {yb : Nat → Nat} {zb : Nat → Nat → Nat} (h : CT w cb lo s c bb vg vcap yb zb) (c' : Nat) (hc : c' < iM s) : CT (w.setCell ⟨cb, 258, none⟩ (.int .i64 (c' : Int))) cb lo s c' bb vg vcap yb zb := by
  have hlen : (imgC (.slice (some ⟨bb, 0, none⟩) (iR s) (iR s)) (lClassOf s) (.slice (some ⟨vg, 0, none⟩) (iM s) vcap)).length = 258 := imgC_len _ _ _ (by unfold lClassOf; rw [numsP_len]; rfl)
  refine ⟨h.ok, h.sz, hc, h.mem.blocks h.il (fun k _ hk => Below.heap_setCell w ⟨cb, 258, none⟩ _ k (by intro e; subst e; exact Nat.lt_irrefl _ hk)), h.il, fun j v hv => ?_, World.cell?_setCell_same _ _ _ h.k1, fun i => by rw [World.frozen?_setCell]; exact h.fz i, by have := h.b0; simp [World.setCell]; omega, h.b1⟩
  have hj : j < 258 := by rw [← hlen]; exact (List.getElem?_eq_some_iff.1 hv).1
  rw [World.cell?_setCell_other (h := by intro e; injection e; omega)]
  exact h.im j v hv

/-- What Next comes to. -/
def NextOut (w : World) (cb lo : Nat) (s inp : ByteArray) (c bb vg vcap : Nat) (yb : Nat → Nat) (zb : Nat → Nat → Nat) (e : Ending) (w' : World) : Prop :=
  ∃ vt, e = .returned (.tuple #[vt, .int .i64 0]) ∧ w'.ownsRow w.heap.size 79 3 vt (cutP s inp c).1.length (cells3 (cutP s inp c).1) ∧
    CT w' cb lo s (cutP s inp c).2.2 bb vg vcap yb zb ∧ w.grownBy w' (some cb)

theorem pnext_long {w : World} {cb : Nat} {inp : ByteArray} (hl : 300 < inp.size) :
    Calls Tryz.prog 92 #[.pointer (some ⟨cb, 0, none⟩), .string inp] w fun e w' => e = .returned (.tuple #[.slice none 0 0, .int .i64 1]) ∧ w' = w := by
  have hd : decide ((300 : Int) < (inp.size : Int)) = true := by simp; omega
  go_enter Tryz.func92, Tryz.ntmps92
  go_wp2
  go_ret2
  exact ⟨rfl, rfl⟩

attribute [local go_sem ↓] Go.wp_at_zero Go.wp_at_succ Tryz.wpLoadImg

set_option maxRecDepth 100000 in
set_option maxHeartbeats 1000000 in
theorem pnext_any {w : World} {cb lo : Nat} {s inp : ByteArray} {c bb vg vcap : Nat} {yb : Nat → Nat} {zb : Nat → Nat → Nat} (h : CT w cb lo s c bb vg vcap yb zb) (hl : inp.size ≤ 300) :
    Calls Tryz.prog 92 #[.pointer (some ⟨cb, 0, none⟩), .string inp] w fun e w' => NextOut w cb lo s inp c bb vg vcap yb zb e w' := by
  have hd : decide ((300 : Int) < (inp.size : Int)) = false := by simp; omega
  have HC := hidZ h
  have k1 := h.k1
  have hb0 := h.b0
  have hlen : (imgC (.slice (some ⟨bb, 0, none⟩) (iR s) (iR s)) (lClassOf s) (.slice (some ⟨vg, 0, none⟩) (iM s) vcap)).length = 258 := imgC_len _ _ _ (by unfold lClassOf; rw [numsP_len]; rfl)
  have hld : loadsImg w.drew (.pointer (some ⟨cb, 0, none⟩)) := ⟨cb, _, rfl, hlen, h.im⟩
  have hic : cellsOf w.drew (.pointer (some ⟨cb, 0, none⟩)) = (imgC (.slice (some ⟨bb, 0, none⟩) (iR s) (iR s)) (lClassOf s) (.slice (some ⟨vg, 0, none⟩) (iM s) vcap)).toArray := cellsOf_eq hlen h.im
  have HA : Hid ((imgC (.slice (some ⟨bb, 0, none⟩) (iR s) (iR s)) (lClassOf s) (.slice (some ⟨vg, 0, none⟩) (iM s) vcap)).toArray.toList = imgC (.slice (some ⟨bb, 0, none⟩) (iR s) (iR s)) (lClassOf s) (.slice (some ⟨vg, 0, none⟩) (iM s) vcap)) := by unfold Hid; simp
  generalize (imgC (.slice (some ⟨bb, 0, none⟩) (iR s) (iR s)) (lClassOf s) (.slice (some ⟨vg, 0, none⟩) (iM s) vcap)).toArray = A at *
  clear hlen h
  go_enter Tryz.func92, Tryz.ntmps92
  go_wp2_with fail
  go_region_with (go_at_call 25; refine (ccut_any s inp c bb vg vcap yb zb A w.drew HC.out.ok hl HC.out.hc HA.out ((HC.out.mem.mono (Nat.le_of_lt hb0)).drewN 1)).mono ?_; rintro e w1 ⟨vt, rfl, hrow, hb1⟩)
  all_goals
    have HB1 : Hid (Below w.heap.size w w1) := ⟨hb1.os, hb1.tape, hb1.output, hb1.size, hb1.block⟩
    have HR1 := hidZ hrow
    have HC1 := hidZ (HC.out.blocks (w' := w1) (fun k _ hk => HB1.out.block k (by omega)) HB1.out.size)
    have k2 := HC1.out.k1
    have f2 := HC1.out.fz 258
    have hcc := cutP_cond (inp := inp) HC.out.ok HC.out.hc
    have HCC := hidZ hcc
    clear hrow hb1 hcc k1 hld hic
    go_wp2
    go_ret2
    refine ⟨vt, rfl, ?_, HC1.out.setC _ HCC.out, grown_set (grown_of_below HB1.out (Nat.le_refl _) _) _ _⟩
    exact ownsRow_base (ownsRow_setCell_below HR1.out (by show cb < w.heap.size + 1 + 1; omega) _) (by show w.heap.size ≤ w.heap.size + 1 + 1; omega)
end Go.Proofs.YtgjgjgihceijnaaGreat

namespace Go.Stn
open Go.RowKit
theorem set_keep (w : World) (b i : Nat) (v : Value) {k : Nat} (h : k ≠ b) : (w.setCell ⟨b, i, none⟩ v).heap[k]? = w.heap[k]? := Below.heap_setCell w ⟨b, i, none⟩ v k (by intro e; exact h e)
end Go.Stn

namespace Go.Stn
def upd {α : Type} (f : Nat → α) (k : Nat) (v : α) : Nat → α := fun i => if i = k then v else f i
theorem upd_same {α : Type} (f : Nat → α) (k : Nat) (v : α) : upd f k v k = v := by unfold upd; rw [if_pos rfl]
theorem upd_other {α : Type} (f : Nat → α) {k i : Nat} (v : α) (h : i ≠ k) : upd f k v i = f i := by unfold upd; rw [if_neg h]
end Go.Stn
namespace Go.Proofs.YtgjgjgihceijnaaGreat
open Go.RowKit Go.Stn
/-- An append to a list as long as a script may make it. -/
theorem wpList_appL {P : Program} (w : World) {ops : Array Oper} {rest : List Oper} {o : Oper} {a : Act} {Q : Exit → Act → World → Prop} (hgd : o.guard = none) (s x : Operand) (t : TypeId)
    (ho : o.op = .call { callee := .builtin .append, args := #[s, x], argTypes := #[t, t] })
    (base : Nat) (e : TypeId) (z : Value) (size bytes : Nat) (ht : P.underlying t = some (.slice e)) (hinfo : (P.info? e).map (fun i => (i.zero, i.size, i.bytes)) = some (some z, size, bytes))
    (hzs : z.cells.size = size) (hsz : 0 < size) (hby : bytes ≤ 24)
    (v : Value) (n : Nat) (xs : List Value) (cs : List Value) (e' : TypeId) (hs : a.eval s = v) (hown : w.ownsRow base e size v n xs)
    (B : Nat) (hB : w.heap.size = B) (hx : a.eval x = .slice (some ⟨B, 0, none⟩) 1 1) (hl : cs.length = size) (h1 : ∀ u ∈ cs, u.oneCell' = true)
    (hn : n ≤ 5864062014800) (hbase : base ≤ w.heap.size)
    (h : ∀ g cap w', w'.ownsRow base e size (.slice (some ⟨g, 0, none⟩) (n + 1) cap) (n + 1) (xs ++ cs) → (w.alloc (.cells cs.toArray e')).grownBy w' v.ownBlock → (v.ownBlock = some g ∨ g = w.heap.size + 1) → g < w'.heap.size →
      wpList P ops Q rest (a.put o.dst (.slice (some ⟨g, 0, none⟩) (n + 1) cap)) w') : wpList P ops Q (o :: rest) a (w.alloc (.cells cs.toArray e')) := by
  subst hB
  obtain ⟨i, hi, hz, hsize, hb⟩ := info_parts hinfo
  refine wpList_append_lies _ hgd s x t ho base e i z size bytes ht hi hz hsize hb hzs hsz v n xs hs (hown.alloc _) ⟨w.heap.size, 0, none⟩ 1 1 cs hx (by omega) ?_ h1 (by omega) (by unfold maxLen; omega) ?_ (by simp; omega) (w.heap.size + 1) (by simp) h
  · have := World.news_of_block (w := w.alloc (.cells cs.toArray e')) (B := w.heap.size) (cs := cs.toArray) (t := e') (fr := (0, 0)) (heap_alloc_new w _)
    simpa using this
  · have := Nat.mul_le_mul (show n + 1 ≤ 5864062014801 by omega) hby
    omega
theorem step_appL {P : Program} (w : World) {ops : Array Oper} {o : Oper} {a : Act} {K : Act → World → Prop} {Q : Exit → Act → World → Prop} {E : Prop} (hgd : o.guard = none) (s x : Operand) (t : TypeId)
    (ho : o.op = .call { callee := .builtin .append, args := #[s, x], argTypes := #[t, t] })
    (base : Nat) (e : TypeId) (z : Value) (size bytes : Nat) (ht : P.underlying t = some (.slice e)) (hinfo : (P.info? e).map (fun i => (i.zero, i.size, i.bytes)) = some (some z, size, bytes))
    (hzs : z.cells.size = size) (hsz : 0 < size) (hby : bytes ≤ 24)
    (v : Value) (n : Nat) (xs : List Value) (cs : List Value) (e' : TypeId) (hs : a.eval s = v) (hown : w.ownsRow base e size v n xs)
    (B : Nat) (hB : w.heap.size = B) (hx : a.eval x = .slice (some ⟨B, 0, none⟩) 1 1) (hl : cs.length = size) (h1 : ∀ u ∈ cs, u.oneCell' = true)
    (hn : n ≤ 5864062014800) (hbase : base ≤ w.heap.size)
    (h : ∀ g cap w', w'.ownsRow base e size (.slice (some ⟨g, 0, none⟩) (n + 1) cap) (n + 1) (xs ++ cs) → (w.alloc (.cells cs.toArray e')).grownBy w' v.ownBlock → (v.ownBlock = some g ∨ g = w.heap.size + 1) → g < w'.heap.size →
      K (a.put o.dst (.slice (some ⟨g, 0, none⟩) (n + 1) cap)) w') : if Region.wanted o (yielded ops a.tmps) = true then Oper.wp P o a (w.alloc (.cells cs.toArray e')) K Q else E := by
  subst hB
  obtain ⟨i, hi, hz, hsize, hb⟩ := info_parts hinfo
  refine step_append_lies _ hgd s x t ho base e i z size bytes ht hi hz hsize hb hzs hsz v n xs hs (hown.alloc _) ⟨w.heap.size, 0, none⟩ 1 1 cs hx (by omega) ?_ h1 (by omega) (by unfold maxLen; omega) ?_ (by simp; omega) (w.heap.size + 1) (by simp) h
  · have := World.news_of_block (w := w.alloc (.cells cs.toArray e')) (B := w.heap.size) (cs := cs.toArray) (t := e') (fr := (0, 0)) (heap_alloc_new w _)
    simpa using this
  · have := Nat.mul_le_mul (show n + 1 ≤ 5864062014801 by omega) hby
    omega
/-- A cutter of the document in memory: its image from lo on, its condition. -/
structure RF (w : World) (rb lo ib g cap : Nat) (s : ByteArray) (c : Nat) : Prop where
  rd : ImgRd w rb ib g cap s
  c0 : w.cell? ⟨rb, 0, none⟩ = some (.pointer (some ⟨ib, 0, none⟩))
  c1 : w.cell? ⟨rb, 1, none⟩ = some (.int .i64 (c : Int))
  fz : w.frozen? ⟨rb, 1, none⟩ = false
  b0 : rb < w.heap.size
  b1 : lo ≤ ib ∧ lo ≤ g ∧ lo ≤ rb
theorem RF.blocks {w w' : World} {rb lo ib g cap : Nat} {s : ByteArray} {c : Nat} (h : RF w rb lo ib g cap s c) (hB : ∀ k, lo ≤ k → k ≤ rb → w'.heap[k]? = w.heap[k]?) (hz : w.heap.size ≤ w'.heap.size) : RF w' rb lo ib g cap s c := by
  obtain ⟨l1, l2, l3⟩ := h.b1
  have hib := h.rd.hb
  have hg := h.rd.hg
  have e1 := hB ib l1 (by omega)
  have e2 := hB g l2 (by omega)
  have e3 := hB rb l3 (Nat.le_refl _)
  exact ⟨⟨(World.cell?_of_block (w := w) (a := ⟨ib, 0, none⟩) e1).trans h.rd.c0, (World.cell?_of_block (w := w) (a := ⟨ib, 3, none⟩) e1).trans h.rd.c3, (World.cell?_of_block (w := w) (a := ⟨ib, 4, none⟩) e1).trans h.rd.c4, (World.cell?_of_block (w := w) (a := ⟨ib, 5, none⟩) e1).trans h.rd.c5, fun i hi => (World.cell?_of_block (w := w) (a := ⟨g, i, none⟩) e2).trans (h.rd.at_ i hi), hib, hg⟩,
    (World.cell?_of_block (w := w) (a := ⟨rb, 0, none⟩) e3).trans h.c0, (World.cell?_of_block (w := w) (a := ⟨rb, 1, none⟩) e3).trans h.c1, (World.frozen?_of_block (w := w) (a := ⟨rb, 1, none⟩) e3).trans h.fz, Nat.lt_of_lt_of_le h.b0 hz, h.b1⟩
/-- Two cutters of one image. -/
structure TwK where
  cb : Nat
  lo : Nat
  bb : Nat
  vg : Nat
  vcap : Nat
  yb : Nat → Nat
  zb : Nat → Nat → Nat
  rb : Nat
  lo2 : Nat
  ib : Nat
  g : Nat
  cap : Nat
  s : ByteArray
  c : Nat
def TwK.cells (t : TwK) : List Value := [.pointer (some ⟨t.cb, 0, none⟩), .pointer (some ⟨t.rb, 0, none⟩)]
def twC (l : List TwK) : List Value := l.flatMap TwK.cells
structure TW (w : World) (O : Nat → Nat) (j : Nat) (t : TwK) : Prop where
  ct : CT w t.cb t.lo t.s t.c t.bb t.vg t.vcap t.yb t.zb
  rf : RF w t.rb t.lo2 t.ib t.g t.cap t.s t.c
  o1 : ∀ k, t.lo ≤ k → k ≤ t.cb → O k = 19 + 4 * j
  o2 : ∀ k, t.lo2 ≤ k → k ≤ t.rb → O k = 19 + 4 * j
  ne : t.cb < t.lo2
/-- A list full of the mark i. -/
def MK (w : World) (O : Nat → Nat) (i : Nat) (v : Value) : Prop :=
  ∃ a n cap, v = .slice a n cap ∧ n ≤ 2000 ∧ (0 < n → ∃ g, a = some ⟨g, 0, none⟩ ∧ g < w.heap.size ∧ O g = 16 + 4 * i ∧
    ∀ k, k < n → w.cell? ⟨g, k * 3, none⟩ = some (.int .i64 (-9)) ∧ w.cell? ⟨g, k * 3 + 1, none⟩ = some (.int .i64 (i : Int)) ∧ w.cell? ⟨g, k * 3 + 2, none⟩ = some (.int .i64 (-9)))
/-- Tokens that wait. -/
structure OT (w : World) (O : Nat → Nat) (B t : Nat) (v : Value) (T : List (Int × Int × Int)) : Prop where
  ro : w.ownsRow (B + 1) 79 3 v T.length (cells3 T)
  tg : ∀ k, v.ownBlock = some k → O k = t
  ln : T.length ≤ 1000
variable {w w' : World} {O O' : Nat → Nat}
theorem TW.keep {j : Nat} {t : TwK} (h : TW w O j t) (hz : w.heap.size ≤ w'.heap.size) (hB : ∀ k, k < w.heap.size → O k = 19 + 4 * j → w'.heap[k]? = w.heap[k]? ∧ O' k = O k) : TW w' O' j t := by
  have b0 := h.ct.b0
  have b1 := h.rf.b0
  exact ⟨h.ct.blocks (fun k h1 h2 => (hB k (by omega) (h.o1 k h1 h2)).1) hz, h.rf.blocks (fun k h1 h2 => (hB k (by omega) (h.o2 k h1 h2)).1) hz,
    fun k h1 h2 => (hB k (by omega) (h.o1 k h1 h2)).2.trans (h.o1 k h1 h2), fun k h1 h2 => (hB k (by omega) (h.o2 k h1 h2)).2.trans (h.o2 k h1 h2), h.ne⟩
theorem MK.keep {i : Nat} {v : Value} (h : MK w O i v) (hz : w.heap.size ≤ w'.heap.size) (hB : ∀ k, k < w.heap.size → O k = 16 + 4 * i → w'.heap[k]? = w.heap[k]? ∧ O' k = O k) : MK w' O' i v := by
  obtain ⟨a, n, cap, e, hn, h0⟩ := h
  refine ⟨a, n, cap, e, hn, fun hp => ?_⟩
  obtain ⟨g, ea, hg, ho, hc⟩ := h0 hp
  obtain ⟨e1, e2⟩ := hB g hg ho
  refine ⟨g, ea, Nat.lt_of_lt_of_le hg hz, e2.trans ho, fun k hk => ?_⟩
  obtain ⟨x, y, z⟩ := hc k hk
  exact ⟨(World.cell?_of_block (w := w) (a := ⟨g, k * 3, none⟩) e1).trans x, (World.cell?_of_block (w := w) (a := ⟨g, k * 3 + 1, none⟩) e1).trans y, (World.cell?_of_block (w := w) (a := ⟨g, k * 3 + 2, none⟩) e1).trans z⟩
theorem OT.keep {B t : Nat} {v : Value} {T : List (Int × Int × Int)} (h : OT w O B t v T) (hB : ∀ k, k < w.heap.size → O k = t → w'.heap[k]? = w.heap[k]? ∧ O' k = O k) : OT w' O' B t v T :=
  ⟨row_top h.ro (fun k hk => (hB k (h.ro.lt k hk).2 (h.tg k hk)).1), fun k hk => (hB k (h.ro.lt k hk).2 (h.tg k hk)).2.trans (h.tg k hk), h.ln⟩
/-- The whole book: at block B; the twins; the six lists of lists; the waiting lists from q on are untouched. -/
structure PI (B p : Nat) (w : World) (O : Nat → Nat) (cs : List TwK) (vb : Nat → Value) (bc : Nat → List Value) (q : Nat) (T : Nat → List (Int × Int × Int)) : Prop where
  wb : ∀ f, f < 7 → w.cell? ⟨B, f, none⟩ = some (vb f)
  wz : ∀ i, w.frozen? ⟨B, i, none⟩ = false
  wt : O B = 1 ∧ B < w.heap.size
  b0 : w.ownsRow (B + 1) 96 2 (vb 0) cs.length (twC cs)
  bk : ∀ f, 1 ≤ f → f < 7 → w.ownsRow (B + 1) 29 1 (vb f) (bc f).length (bc f)
  bt : ∀ f k, f < 7 → (vb f).ownBlock = some k → O k = 2 + f
  mm : ∀ f i v, 1 ≤ f → f ≤ 4 → i < p → (bc f)[i]? = some v → MK w O i v
  wa : ∀ j v, q ≤ j → (bc 5)[j]? = some v → OT w O B (17 + 4 * j) v (T j)
  we : ∀ j v, q ≤ j → (bc 6)[j]? = some v → OT w O B (18 + 4 * j) v (T j)
  cu : ∀ j t, cs[j]? = some t → TW w O j t
  fr : ∀ k, w.heap.size ≤ k → O k = 0
  cl : ∀ (j : Nat) (t : TwK), cs[j]? = some t → B < t.lo ∧ B < t.lo2
variable {B p q : Nat} {cs : List TwK} {vb : Nat → Value} {bc : Nat → List Value} {T : Nat → List (Int × Int × Int)}
theorem PI.own (h : PI B p w O cs vb bc q T) {f k : Nat} (hf : f < 7) (hk : (vb f).ownBlock = some k) : B + 1 ≤ k ∧ k < w.heap.size := by
  by_cases e : f = 0
  · subst e; exact h.b0.lt k hk
  · exact (h.bk f (by omega) hf).lt k hk
/-- What touches nothing that is owned leaves the book as it is. -/
theorem PI.keep (h : PI B p w O cs vb bc q T) (hz : w.heap.size ≤ w'.heap.size) (hB : ∀ k, k < w.heap.size → O k ≠ 0 → w'.heap[k]? = w.heap[k]? ∧ O' k = O k) (hf : ∀ k, w'.heap.size ≤ k → O' k = 0) : PI B p w' O' cs vb bc q T := by
  obtain ⟨o1, b1⟩ := h.wt
  obtain ⟨e1, e2⟩ := hB B b1 (by omega)
  exact ⟨fun f hf => (World.cell?_of_block (w := w) (a := ⟨B, f, none⟩) e1).trans (h.wb f hf), fun i => (World.frozen?_of_block (w := w) (a := ⟨B, i, none⟩) e1).trans (h.wz i), ⟨e2.trans o1, Nat.lt_of_lt_of_le b1 hz⟩,
    row_top h.b0 (fun k hk => (hB k (h.own (by omega) hk).2 (by have := h.bt 0 k (by omega) hk; omega)).1),
    fun f h1 h2 => row_top (h.bk f h1 h2) (fun k hk => (hB k (h.own h2 hk).2 (by have := h.bt f k h2 hk; omega)).1),
    fun f k hf hk => (hB k (h.own hf hk).2 (by have := h.bt f k hf hk; omega)).2.trans (h.bt f k hf hk),
    fun f i v h1 h2 hi hv => (h.mm f i v h1 h2 hi hv).keep hz (fun k hk ho => hB k hk (by omega)),
    fun j v hj hv => (h.wa j v hj hv).keep (fun k hk ho => hB k hk (by omega)),
    fun j v hj hv => (h.we j v hj hv).keep (fun k hk ho => hB k hk (by omega)),
    fun j t hj => (h.cu j t hj).keep hz (fun k hk ho => hB k hk (by omega)), hf, h.cl⟩
theorem PI.below (h : PI B p w O cs vb bc q T) (hB : Below w.heap.size w w') : PI B p w' O cs vb bc q T :=
  h.keep hB.size (fun k hk _ => ⟨hB.block k hk, rfl⟩) (fun k hk => h.fr k (Nat.le_trans hB.size hk))
theorem PI.draw (h : PI B p w O cs vb bc q T) (n : Nat) : PI B p (w.drewN n) O cs vb bc q T := h.below ⟨rfl, rfl, rfl, Nat.le_refl _, fun _ _ => rfl⟩
/-- One list more in the book f. -/
theorem PI.push (h : PI B p w O cs vb bc q T) {f : Nat} (h1 : 1 ≤ f) (h2 : f < 7) {w4 : World} {o : Obj} {g cap : Nat} {v : Value}
    (hown : w4.ownsRow (B + 1) 29 1 (.slice (some ⟨g, 0, none⟩) ((bc f).length + 1) cap) ((bc f).length + 1) (bc f ++ [v]))
    (hgr : (w.alloc o).grownBy w4 (vb f).ownBlock) (hat : (vb f).ownBlock = some g ∨ g = w.heap.size + 1)
    (hm : f ≤ 4 → (bc f).length < p → MK w O (bc f).length v) (h5 : f = 5 → OT w O B (17 + 4 * (bc 5).length) v (T (bc 5).length)) (h6 : f = 6 → OT w O B (18 + 4 * (bc 6).length) v (T (bc 6).length)) :
    PI B p (w4.setCell ⟨B, f, none⟩ (.slice (some ⟨g, 0, none⟩) ((bc f).length + 1) cap)) (fun k => if k = g then 2 + f else O k) cs (upd vb f (.slice (some ⟨g, 0, none⟩) ((bc f).length + 1) cap)) (upd bc f (bc f ++ [v])) q T := by
  obtain ⟨o1, b1⟩ := h.wt
  have hsz := hgr.size
  have ez : (w.alloc o).heap.size = w.heap.size + 1 := by simp
  have hg4 := (hown.lt g rfl).2
  have hz5 : (w4.setCell ⟨B, f, none⟩ (.slice (some ⟨g, 0, none⟩) ((bc f).length + 1) cap)).heap.size = w4.heap.size := by simp [World.setCell]
  have hog : g < w.heap.size → O g = 2 + f := fun hg => by
    rcases hat with e | e
    · exact h.bt f g h2 e
    · omega
  have keep : ∀ k, k < w.heap.size → O k ≠ 1 → O k ≠ 2 + f → (w4.setCell ⟨B, f, none⟩ (.slice (some ⟨g, 0, none⟩) ((bc f).length + 1) cap)).heap[k]? = w.heap[k]? ∧ (if k = g then 2 + f else O k) = O k := fun k hk hn1 hn2 => by
    have hkB : k ≠ B := fun e => hn1 (by rw [e]; exact o1)
    have hkg : k ≠ g := fun e => hn2 (by rw [e]; exact hog (by omega))
    refine ⟨(set_keep w4 B f _ hkB).trans ((hgr.block k (by omega) (fun e => hn2 (h.bt f k h2 e.symm))).trans (Below.heap_alloc w o k hk)), if_neg hkg⟩
  have hB4 : w4.heap[B]? = w.heap[B]? := (hgr.block B (by omega) (fun e => by have := h.bt f B h2 e.symm; omega)).trans (Below.heap_alloc w o B b1)
  have hgB : g ≠ B := by have := (hown.lt g rfl).1; omega
  refine ⟨fun f' hf' => ?_, fun i => by rw [World.frozen?_setCell]; exact (World.frozen?_of_block (w := w) (a := ⟨B, i, none⟩) hB4).trans (h.wz i), ⟨(if_neg (Ne.symm hgB)).trans o1, by omega⟩, ?_, fun f' a1 a2 => ?_, fun f' k hf' hk => ?_, fun f' i u a1 a2 hip hu => ?_, fun j u hj hu => ?_, fun j u hj hu => ?_, fun j t hj => ?_, fun k hk => ?_, h.cl⟩
  · by_cases e : f' = f
    · subst e
      rw [upd_same]
      exact World.cell?_setCell_same _ _ _ ((World.cell?_of_block (w := w) (a := ⟨B, f', none⟩) hB4).trans (h.wb f' hf'))
    · rw [upd_other _ _ e, World.cell?_setCell_other (h := by intro e'; injection e'; omega)]
      exact (World.cell?_of_block (w := w) (a := ⟨B, f', none⟩) hB4).trans (h.wb f' hf')
  · rw [upd_other _ _ (show 0 ≠ f by omega)]
    exact row_top h.b0 (fun k hk => (keep k (h.own (by omega) hk).2 (by have := h.bt 0 k (by omega) hk; omega) (by have := h.bt 0 k (by omega) hk; omega)).1)
  · by_cases e : f' = f
    · subst e
      rw [upd_same, upd_same, List.length_append, List.length_singleton]
      exact ownsRow_setCell_below hown (show B < B + 1 by omega) _
    · rw [upd_other _ _ e, upd_other _ _ e]
      exact row_top (h.bk f' a1 a2) (fun k hk => (keep k (h.own a2 hk).2 (by have := h.bt f' k a2 hk; omega) (by have := h.bt f' k a2 hk; omega)).1)
  · by_cases e : f' = f
    · subst e
      rw [upd_same] at hk
      have hk' : g = k := by simpa [Value.ownBlock] using hk
      rw [if_pos hk'.symm]
    · rw [upd_other _ _ e] at hk
      have := h.bt f' k hf' hk
      rw [(keep k (h.own hf' hk).2 (by omega) (by omega)).2]
      exact this
  · have old : ∀ i u, MK w O i u → MK (w4.setCell ⟨B, f, none⟩ (.slice (some ⟨g, 0, none⟩) ((bc f).length + 1) cap)) (fun k => if k = g then 2 + f else O k) i u := fun i u hmk => hmk.keep (by omega) (fun k hk ho => keep k hk (by omega) (by omega))
    by_cases e : f' = f
    · subst e
      rw [upd_same] at hu
      by_cases hi : i < (bc f').length
      · rw [List.getElem?_append_left hi] at hu
        exact old i u (h.mm f' i u a1 a2 hip hu)
      · have hl := (List.getElem?_eq_some_iff.1 hu).1
        rw [List.length_append, List.length_singleton] at hl
        have ei : i = (bc f').length := by omega
        subst ei
        rw [List.getElem?_append_right (Nat.le_refl _), Nat.sub_self] at hu
        have eu : v = u := by simpa using hu
        subst eu
        exact old _ _ (hm a2 hip)
    · rw [upd_other _ _ e] at hu
      exact old i u (h.mm f' i u a1 a2 hip hu)
  · have old : ∀ u j, OT w O B (17 + 4 * j) u (T j) → OT (w4.setCell ⟨B, f, none⟩ (.slice (some ⟨g, 0, none⟩) ((bc f).length + 1) cap)) (fun k => if k = g then 2 + f else O k) B (17 + 4 * j) u (T j) := fun u j hmk => hmk.keep (fun k hk ho => keep k hk (by omega) (by omega))
    by_cases e : 5 = f
    · subst e
      rw [upd_same] at hu
      by_cases hi : j < (bc 5).length
      · rw [List.getElem?_append_left hi] at hu
        exact old u j (h.wa j u hj hu)
      · have hl := (List.getElem?_eq_some_iff.1 hu).1
        rw [List.length_append, List.length_singleton] at hl
        have ei : j = (bc 5).length := by omega
        subst ei
        rw [List.getElem?_append_right (Nat.le_refl _), Nat.sub_self] at hu
        have eu : v = u := by simpa using hu
        subst eu
        exact old _ _ (h5 rfl)
    · rw [upd_other _ _ e] at hu
      exact old u j (h.wa j u hj hu)
  · have old : ∀ u j, OT w O B (18 + 4 * j) u (T j) → OT (w4.setCell ⟨B, f, none⟩ (.slice (some ⟨g, 0, none⟩) ((bc f).length + 1) cap)) (fun k => if k = g then 2 + f else O k) B (18 + 4 * j) u (T j) := fun u j hmk => hmk.keep (fun k hk ho => keep k hk (by omega) (by omega))
    by_cases e : 6 = f
    · subst e
      rw [upd_same] at hu
      by_cases hi : j < (bc 6).length
      · rw [List.getElem?_append_left hi] at hu
        exact old u j (h.we j u hj hu)
      · have hl := (List.getElem?_eq_some_iff.1 hu).1
        rw [List.length_append, List.length_singleton] at hl
        have ei : j = (bc 6).length := by omega
        subst ei
        rw [List.getElem?_append_right (Nat.le_refl _), Nat.sub_self] at hu
        have eu : v = u := by simpa using hu
        subst eu
        exact old _ _ (h6 rfl)
    · rw [upd_other _ _ e] at hu
      exact old u j (h.we j u hj hu)
  · exact (h.cu j t hj).keep (by omega) (fun k hk ho => keep k hk (by omega) (by omega))
  · rw [if_neg (by omega)]
    exact h.fr k (by omega)
end Go.Proofs.YtgjgjgihceijnaaGreat

