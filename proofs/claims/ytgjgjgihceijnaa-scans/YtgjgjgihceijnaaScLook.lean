/- (*stencilref.Cut).look: a walk. -/
import Derived.Test.YtgjgjgihceijnaaScCut
import Derived.Test.YtgjgjgihceijnaaScPure3
import Derived.Deep.RegionHeld3
import Derived.Deep.RegionWith
namespace Go.Proofs.Ytgjgjgihceijnaa
open Go.RowKit Go.Stn

theorem Try.infoStand : (Try.prog.info? 207).map (fun i => (i.zero, i.size, i.bytes)) = some (some (.agg #[.int .i64 0, .int .i64 0, .int .i64 0]), 3, 24) := by kernel_rfl

set_option maxRecDepth 100000 in
set_option maxHeartbeats 1000000 in
theorem look_any (s inp : ByteArray) (B b g cap c p cb base n : Nat) (H T : List (Int × Int × Int)) (vh vt : Value) (w : World) (hi : imgOk s = true) (hs : s.size ≤ 120000) (hin : inp.size ≤ 300) (hp : p ≤ inp.size) (hc : c < iM s)
    (hH : H.length ≤ 100000) (hn : n ≤ 100000)
    (hw : ImgRd w B b g cap s) (hB : B ≤ cb) (hcut : CutAt w cb base w.heap.size b inp c H n T vh vt) :
    Calls Try.prog 73 #[.pointer (some ⟨cb, 0, none⟩), .int .i64 p] w fun e w' =>
      e = .returned (.tuple #[]) ∧ Below cb w w' ∧ ∃ vh', CutAt w' cb base w'.heap.size b inp c (H ++ (lookFrom s inp c H p).1) (n + (lookFrom s inp c H p).2) T vh' vt := by
  have HL : Hid (lookFrom s inp c H p = lookP s inp c H (inp.size - p) 0 p [] 0) := rfl
  have hcb := hcut.hb
  have hbt := hcut.hbt
  go_enter Try.func73, Try.ntmps73
  go_wp2_with fail
  go_loopw [4, 5, 6] (fun x y z wr => ∃ (st i k : Nat) (S : List (Int × Int × Int)) (sv : Value), sv = y ∧ x = .int .i64 st ∧ z = .int .i64 i ∧ st < nSt s c ∧ p ≤ i ∧ i ≤ inp.size ∧ k ≤ i - p ∧ S.length ≤ i - p ∧
      lookFrom s inp c H p = lookP s inp c H (inp.size - i) st i S k ∧ (S = [] → sv = .slice none 0 0) ∧ wr.ownsRow w.heap.size 207 3 sv S.length (cells3 S) ∧
      CutAt wr cb base w.heap.size b inp c H (n + k) T vh vt ∧ Below cb w wr)
    (fun _ _ z _ => inp.size - (intOf z).toNat)
  case atStart => exact ⟨0, p, 0, [], _, rfl, rfl, rfl, (nSt_le hi hc).2, Nat.le_refl _, hp, by omega, by simp, HL.out, fun _ => rfl, World.ownsRow_nil _ _ _ _, hcut, Below.refl _ _⟩
  case round =>
    obtain ⟨st, i, k, S, sv, rfl, rfl, rfl, hst, hpi, hil, hk, hS, hlook, hnil, hown, hcutr, hbel⟩ := hrel
    have HK : Hid (lookFrom s inp c H p = lookP s inp c H (inp.size - i) st i S k) := hlook
    have HN : Hid (S = [] → sv = .slice none 0 0) := hnil
    clear hlook hnil
    have k1 := hcutr.c1
    have k2 := hcutr.c2
    have k3 := hcutr.c3
    have hzr := hcutr.hz
    by_cases hlt : i < inp.size
    · have HCW : Hid (CutAt (wr.alloc (.cells #[.int .i64 (c : Int), .int .i64 (st : Int), .int .i64 (i : Int)] 207)) cb base w.heap.size b inp c H (n + k) T vh vt) := hcutr.below ((Below.refl _ _).alloc hzr _)
      have HOW : Hid ((wr.alloc (.cells #[.int .i64 (c : Int), .int .i64 (st : Int), .int .i64 (i : Int)] 207)).ownsRow w.heap.size 207 3 sv S.length (cells3 S)) := hown.alloc _
      have HBW : Hid (Below cb w (wr.alloc (.cells #[.int .i64 (c : Int), .int .i64 (st : Int), .int .i64 (i : Int)] 207))) := hbel.alloc (by omega) _
      have g0 : (wr.alloc (.cells #[.int .i64 (c : Int), .int .i64 (st : Int), .int .i64 (i : Int)] 207)).cell? ⟨wr.heap.size, 0, none⟩ = some (.int .i64 (c : Int)) := by rw [World.cell?_alloc_new]; rfl
      have g1 : (wr.alloc (.cells #[.int .i64 (c : Int), .int .i64 (st : Int), .int .i64 (i : Int)] 207)).cell? ⟨wr.heap.size, 1, none⟩ = some (.int .i64 (st : Int)) := by rw [World.cell?_alloc_new]; rfl
      have g2 : (wr.alloc (.cells #[.int .i64 (c : Int), .int .i64 (st : Int), .int .i64 (i : Int)] 207)).cell? ⟨wr.heap.size, 2, none⟩ = some (.int .i64 (i : Int)) := by rw [World.cell?_alloc_new]; rfl
      have gz : (wr.alloc (.cells #[.int .i64 (c : Int), .int .i64 (st : Int), .int .i64 (i : Int)] 207)).heap.size = wr.heap.size + 1 := by simp
      go_wp2_with fail
      generalize wr.alloc (.cells #[.int .i64 (c : Int), .int .i64 (st : Int), .int .i64 (i : Int)] 207) = W at *
      clear k1 k2 k3 hcutr hown hbel
      have k3 := HCW.out.c3
      have HR : Hid (Row3 W W.heap.size vh H) := ownsRow_row3 HCW.out.rh
      have hcbz : cb < W.heap.size := by omega
      have hwz : wr.heap.size < W.heap.size := by omega
      cases hkn : memB H ((c : Int), (st : Int), (i : Int)) with
      | true =>
        go_region_held3 (fun w' => w'.cell? ⟨cb, 3, none⟩ = some vh ∧ w'.cell? ⟨wr.heap.size, 0, none⟩ = some (.int .i64 (c : Int)) ∧ w'.cell? ⟨wr.heap.size, 1, none⟩ = some (.int .i64 (st : Int)) ∧ w'.cell? ⟨wr.heap.size, 2, none⟩ = some (.int .i64 (i : Int))) (go_keep)
          (first | (go_at_call 98; refine (has_any H vh _ _ _ _ (by omega) ?_).mono ?_; exact ⟨HR.out.sh⟩; rintro e w2 ⟨rfl, hb2⟩; replace hb2 := below_of_drew hb2; have j3 := (hb2.cell (p := ⟨cb, 3, none⟩) hcbz).trans k3; have j0 := (hb2.cell (p := ⟨wr.heap.size, 0, none⟩) hwz).trans g0; have j1 := (hb2.cell (p := ⟨wr.heap.size, 1, none⟩) hwz).trans g1; have j2 := (hb2.cell (p := ⟨wr.heap.size, 2, none⟩) hwz).trans g2))
        have HX : Hid (lookFrom s inp c H p = (S, k)) := by
          have e : inp.size - i = (inp.size - i - 1) + 1 := by omega
          unfold Hid; rw [HK.out, e]; exact lookP_known hkn
        have HCT : Hid (CutAt w2 cb base w.heap.size b inp c H (n + k) T vh vt) := HCW.out.below (hb2.mono (by show w.heap.size ≤ W.heap.size; omega))
        have HOT : Hid (w2.ownsRow w.heap.size 207 3 sv S.length (cells3 S)) := ownsRow_below HOW.out hb2 (Nat.le_refl _)
        have HBT : Hid (Below cb w w2) := HBW.out.trans (hb2.mono (by show cb ≤ W.heap.size; omega))
        have HN2 : Hid (S = [] → sv = .slice none 0 0) := HN
        clear HCW HOW HBW g0 g1 g2 k3 j0 j1 j2 j3 HR hb2 HK
        have HZ2 := hcb
        rcases (show S = [] ∨ 0 < S.length from by cases S with
          | nil => exact .inl rfl
          | cons a r => exact .inr (by simp)) with hs0 | hs0
        · have hsv := HN2.out hs0
          subst hsv
          rcases ownsRow_shape HCT.out.rh with rfl | ⟨gv, cv, rfl⟩
          all_goals
            have t3 := HCT.out.c3
            have t3f := HCT.out.fz 3
            go_wp2_with (first | (at_builtin; refine wpList_app0 w2 rfl (.tmp 80) (.tmp 81) 102 rfl base 207 (.agg #[.int .i64 0, .int .i64 0, .int .i64 0]) 3 24 Try.underlying102 Try.infoStand _ H.length (cells3 H) rfl HCT.out.rh rfl ?_))
            go_end0
            have hfin := HCT.out.again3.raise
            refine ⟨rfl, HBT.out.setCell (p := ⟨cb, 3, none⟩) (Nat.le_refl _) _, ?_⟩
            rw [HX.out, hs0, List.append_nil]
            exact ⟨_, hfin⟩
        · have t3 := HCT.out.c3
          have hzt := HCT.out.hz
          go_wp2_with (first | (at_builtin; refine wpList_appRow w2 rfl (.tmp 80) (.tmp 81) 102 rfl base w.heap.size 207 (.agg #[.int .i64 0, .int .i64 0, .int .i64 0]) 3 24 Try.underlying102 Try.infoStand rfl (by decide) (by decide) vh H.length (cells3 H) sv S.length (cells3 S) rfl HCT.out.rh rfl HOT.out (cells3_one _) hs0 (by omega) (by omega) ?_; intro g3 cap3 w3 hown3 hgrow3 hat3 hlt3; obtain ⟨kc3, kf3⟩ := HCT.out.kept (fun k hk => (HCT.out.rh.lt k hk).1) hgrow3; have m3 := kc3 3 _ t3; have mf3 := kf3 3; clear kc3 kf3))
          go_end0
          refine ⟨rfl, (HBT.out.grown hgrow3 (by omega) (fun k hk => by have := (HCT.out.rh.lt k hk).1; omega)).setCell (p := ⟨cb, 3, none⟩) (Nat.le_refl _) _, ?_⟩
          rw [HX.out]
          have hfin := HCT.out.hope rfl hown3 hgrow3 hat3 hlt3
          exact ⟨_, hfin.raise⟩
      | false =>
        go_region_held3 (fun w' => w'.cell? ⟨cb, 3, none⟩ = some vh ∧ w'.cell? ⟨wr.heap.size, 0, none⟩ = some (.int .i64 (c : Int)) ∧ w'.cell? ⟨wr.heap.size, 1, none⟩ = some (.int .i64 (st : Int)) ∧ w'.cell? ⟨wr.heap.size, 2, none⟩ = some (.int .i64 (i : Int))) (go_keep)
          (first | (go_at_call 98; refine (has_any H vh _ _ _ _ (by omega) ?_).mono ?_; exact ⟨HR.out.sh⟩; rintro e w2 ⟨rfl, hb2⟩; replace hb2 := below_of_drew hb2; have j3 := (hb2.cell (p := ⟨cb, 3, none⟩) hcbz).trans k3; have j0 := (hb2.cell (p := ⟨wr.heap.size, 0, none⟩) hwz).trans g0; have j1 := (hb2.cell (p := ⟨wr.heap.size, 1, none⟩) hwz).trans g1; have j2 := (hb2.cell (p := ⟨wr.heap.size, 2, none⟩) hwz).trans g2))
        have HC2 : Hid (CutAt w2 cb base w.heap.size b inp c H (n + k) T vh vt) := HCW.out.below (hb2.mono (by show w.heap.size ≤ W.heap.size; omega))
        have HO2 : Hid (w2.ownsRow w.heap.size 207 3 sv S.length (cells3 S)) := ownsRow_below HOW.out hb2 (Nat.le_refl _)
        have HB2 : Hid (Below cb w w2) := HBW.out.trans (hb2.mono (by show cb ≤ W.heap.size; omega))
        have hz2 := HC2.out.hz
        clear HCW HOW HBW g0 g1 g2 k3 j3 HR hb2
        obtain ⟨N, hN⟩ : ∃ N, n + k = N := ⟨_, rfl⟩
        rw [hN] at HC2
        have HNN : Hid (n + k = N) := hN
        have hNb : N ≤ 101000 := by omega
        clear hN
        have q4 := HC2.out.c4
        go_wp2_with (first | (at_builtin; refine wpList_app1 w2 rfl (.tmp 34) (.tmp 36) 102 rfl w.heap.size 207 (.agg #[.int .i64 0, .int .i64 0, .int .i64 0]) 3 24 Try.underlying102 Try.infoStand rfl (by decide) (by decide) sv S.length (cells3 S) [.int .i64 (c : Int), .int .i64 (st : Int), .int .i64 (i : Int)] _ rfl HO2.out _ rfl rfl rfl (by simp [Value.oneCell']) (by omega) (by omega) ?_; intro g4 cap4 w4 hown4 hgrow4 hat4 hlt4; have hb4 := below_app (Below.refl w.heap.size w2) hz2 HO2.out (Nat.le_refl _) hgrow4; have HC4 : Hid (CutAt w4 cb base w.heap.size b inp c H N T vh vt) := HC2.out.below hb4; have r4 := HC4.out.c4; have f4 := HC4.out.fz 4; clear j0 j1 j2 q4))
        have HC5 : Hid (CutAt (w4.setCell ⟨cb, 4, none⟩ (.int .i64 ((N : Int) + 1))) cb base w.heap.size b inp c H (N + 1) T vh vt) := HC4.out.step1
        have HO5 : Hid ((w4.setCell ⟨cb, 4, none⟩ (.int .i64 ((N : Int) + 1))).ownsRow w.heap.size 207 3 (.slice (some ⟨g4, 0, none⟩) (S.length + 1) cap4) (S.length + 1) (cells3 (S ++ [std c st i]))) := by
          rw [cells3_snoc]; exact ownsRow_setCell_below hown4 (by show cb < w.heap.size; omega) _
        have HB5 : Hid (Below cb w (w4.setCell ⟨cb, 4, none⟩ (.int .i64 ((N : Int) + 1)))) := (HB2.out.trans (hb4.mono (by omega))).setCell (p := ⟨cb, 4, none⟩) (Nat.le_refl _) _
        generalize w4.setCell ⟨cb, 4, none⟩ (.int .i64 ((N : Int) + 1)) = w5 at *
        clear HC4 HC2 HO2 HB2 hown4 hgrow4 hat4 hlt4 hb4 r4 f4 hz2
        have hw5 := hw.below HB5.out hB
        have q0 := HC5.out.c0
        have q1 := HC5.out.c1
        have q2 := HC5.out.c2
        have hbe := bt_eq inp i hlt
        have hbl := bt_lt inp i
        have hiI : (0 : Int) ≤ (i : Int) ∧ (i : Int) < (inp.size : Int) := by omega
        have HSE : Hid (inp.size - i = (inp.size - i - 1) + 1) := by unfold Hid; omega
        by_cases h255 : leadN s c st (bt inp i) = 255
        · have hlz : leadZ s c st (bt inp i) = -1 := by unfold leadZ; rw [if_pos h255]
          have HX : Hid (lookFrom s inp c H p = (S ++ [std c st i], k + 1)) := by
            unfold Hid; rw [HK.out, HSE.out]; exact lookP_nowhere hkn h255
          have HLD : Hid (∀ q, Calls Try.prog 99 #[.pointer (some ⟨b, 0, none⟩), .int .i64 c, .int .i64 st, .int .u8 (bt inp i)] (w5.drewN q) fun e w' => e = .returned (.int .i64 (leadZ s c st (bt inp i))) ∧ ∃ m, w' = (w5.drewN q).drewN m) := fun q => lead_any s B b g cap c st (bt inp i) (w5.drewN q) hi hs hc hst hbl (hw5.drewN q)
          go_quiet ((go_at_call 99; exact Calls.quiet_of (HLD.out _)))
          have HCT : Hid (CutAt (w5.drewN nq) cb base w.heap.size b inp c H (n + (k + 1)) T vh vt) := by
            have e : n + (k + 1) = N + 1 := by have := HNN.out; omega
            rw [e]; exact HC5.out.drewN nq
          have HOT : Hid ((w5.drewN nq).ownsRow w.heap.size 207 3 (.slice (some ⟨g4, 0, none⟩) (S.length + 1) cap4) (S ++ [std c st i]).length (cells3 (S ++ [std c st i]))) := by
            rw [List.length_append]; exact HO5.out
          have HBT : Hid (Below cb w (w5.drewN nq)) := below_drewN HB5.out nq
          have hs0 : 0 < (S ++ [std c st i]).length := by simp
          have hS5 : (S ++ [std c st i]).length ≤ 301 := by simp; omega
          generalize S ++ [std c st i] = S5 at *
          generalize w5.drewN nq = w6 at *
          clear HC5 HO5 HB5 hw5 q0 q1 q2 HLD HK
          have t3 := HCT.out.c3
          have hzt := HCT.out.hz
          go_wp2_with (first | (at_builtin; refine wpList_appRow w6 rfl (.tmp 80) (.tmp 81) 102 rfl base w.heap.size 207 (.agg #[.int .i64 0, .int .i64 0, .int .i64 0]) 3 24 Try.underlying102 Try.infoStand rfl (by decide) (by decide) vh H.length (cells3 H) _ S5.length (cells3 S5) rfl HCT.out.rh rfl HOT.out (cells3_one _) hs0 (by omega) (by omega) ?_; intro g3 cap3 w3 hown3 hgrow3 hat3 hlt3; obtain ⟨kc3, kf3⟩ := HCT.out.kept (fun k hk => (HCT.out.rh.lt k hk).1) hgrow3; have m3 := kc3 3 _ t3; have mf3 := kf3 3; clear kc3 kf3))
          go_end0
          refine ⟨rfl, (HBT.out.grown hgrow3 (by omega) (fun k hk => by have := (HCT.out.rh.lt k hk).1; omega)).setCell (p := ⟨cb, 3, none⟩) (Nat.le_refl _) _, ?_⟩
          rw [HX.out]
          have hfin := HCT.out.hope rfl hown3 hgrow3 hat3 hlt3
          exact ⟨_, hfin.raise⟩
        · have hlz : leadZ s c st (bt inp i) = (leadN s c st (bt inp i) : Int) := by unfold leadZ; rw [if_neg h255]
          have HLD : Hid (∀ q, Calls Try.prog 99 #[.pointer (some ⟨b, 0, none⟩), .int .i64 c, .int .i64 st, .int .u8 (bt inp i)] (w5.drewN q) fun e w' => e = .returned (.int .i64 (leadN s c st (bt inp i) : Int)) ∧ ∃ m, w' = (w5.drewN q).drewN m) := fun q => by
            rw [← hlz]; exact lead_any s B b g cap c st (bt inp i) (w5.drewN q) hi hs hc hst hbl (hw5.drewN q)
          clear hlz
          have ht := lead_lt hi hc hst hbl
          have HT1 : Hid (0 < markN s c (leadN s c st (bt inp i)) → lookFrom s inp c H p = lookP s inp c H (inp.size - (i + 1)) (leadN s c st (bt inp i)) (i + 1) [] (k + 1)) := by
            intro hm; rw [HK.out, HSE.out]; exact lookP_token hkn h255 hm
          have HT2 : Hid (markN s c (leadN s c st (bt inp i)) = 0 → lookFrom s inp c H p = lookP s inp c H (inp.size - (i + 1)) (leadN s c st (bt inp i)) (i + 1) (S ++ [std c st i]) (k + 1)) := by
            intro hm; rw [HK.out, HSE.out]; exact lookP_step hkn h255 hm
          generalize leadN s c st (bt inp i) = t at *
          have ht : t < nSt s c := by omega
          by_cases hm : 0 < markN s c t
          · go_quiet ((go_at_call 99; exact Calls.quiet_of (HLD.out _)))
            have HC6 : Hid (CutAt (w5.drewN nq) cb base w.heap.size b inp c H (N + 1) T vh vt) := HC5.out.drewN nq
            have HO6 : Hid ((w5.drewN nq).ownsRow w.heap.size 207 3 (.slice (some ⟨g4, 0, none⟩) (S.length + 1) cap4) (S.length + 1) (cells3 (S ++ [std c st i]))) := HO5.out
            have HB6 : Hid (Below cb w (w5.drewN nq)) := below_drewN HB5.out nq
            have HW6 : Hid (ImgRd (w5.drewN nq) B b g cap s) := hw5.drewN nq
            generalize w5.drewN nq = w6 at *
            clear HC5 HO5 HB5 hw5 q0 q1 q2 HLD HK
            have q0 := HC6.out.c0
            have q2 := HC6.out.c2
            have HMD : Hid (∀ q, Calls Try.prog 100 #[.pointer (some ⟨b, 0, none⟩), .int .i64 c, .int .i64 t] (w6.drewN q) fun e w' => e = .returned (.int .i64 (markN s c t : Int)) ∧ ∃ m, w' = (w6.drewN q).drewN m) := fun q =>
              mark_any s B b g cap c t (w6.drewN q) hi hs hc ht (HW6.out.drewN q)
            go_wp2_with fail
            go_quiet ((go_at_call 100; exact Calls.quiet_of (HMD.out _)))
            go_wp2
            go_roundw
            case rel =>
              refine ⟨t, i + 1, k + 1, [], .slice none 0 0, rfl, rfl, by go_num, ht, by omega, hlt, by omega, by simp, HT1.out hm, fun _ => rfl, World.ownsRow_nil _ _ _ _, ?_, ?_⟩
              · have e : n + (k + 1) = N + 1 := by have := HNN.out; omega
                rw [e]; exact HC6.out.drewN _
              · exact below_drewN HB6.out _
            case measure => simp [intOf]; omega
          · have hm0 : markN s c t = 0 := by omega
            go_quiet ((go_at_call 99; exact Calls.quiet_of (HLD.out _)))
            have HC6 : Hid (CutAt (w5.drewN nq) cb base w.heap.size b inp c H (N + 1) T vh vt) := HC5.out.drewN nq
            have HO6 : Hid ((w5.drewN nq).ownsRow w.heap.size 207 3 (.slice (some ⟨g4, 0, none⟩) (S.length + 1) cap4) (S.length + 1) (cells3 (S ++ [std c st i]))) := HO5.out
            have HB6 : Hid (Below cb w (w5.drewN nq)) := below_drewN HB5.out nq
            have HW6 : Hid (ImgRd (w5.drewN nq) B b g cap s) := hw5.drewN nq
            generalize w5.drewN nq = w6 at *
            clear HC5 HO5 HB5 hw5 q0 q1 q2 HLD HK
            have q0 := HC6.out.c0
            have q2 := HC6.out.c2
            have HMD : Hid (∀ q, Calls Try.prog 100 #[.pointer (some ⟨b, 0, none⟩), .int .i64 c, .int .i64 t] (w6.drewN q) fun e w' => e = .returned (.int .i64 (markN s c t : Int)) ∧ ∃ m, w' = (w6.drewN q).drewN m) := fun q =>
              mark_any s B b g cap c t (w6.drewN q) hi hs hc ht (HW6.out.drewN q)
            go_wp2_with fail
            go_quiet ((go_at_call 100; exact Calls.quiet_of (HMD.out _)))
            go_wp2
            go_roundw
            case rel =>
              refine ⟨t, i + 1, k + 1, S ++ [std c st i], _, rfl, rfl, by go_num, ht, by omega, hlt, by omega, by simp; omega, HT2.out hm0, fun h => by simp at h, ?_, ?_, ?_⟩
              · rw [List.length_append]; exact HO6.out
              · have e : n + (k + 1) = N + 1 := by have := HNN.out; omega
                rw [e]; exact HC6.out.drewN _
              · exact below_drewN HB6.out _
            case measure => simp [intOf]; omega
    · have HX : Hid (lookFrom s inp c H p = (S, k)) := by
        have e : inp.size - i = 0 := by omega
        unfold Hid; rw [HK.out, e]; rfl
      have HCT : Hid (CutAt wr cb base w.heap.size b inp c H (n + k) T vh vt) := hcutr
      have HOT : Hid (wr.ownsRow w.heap.size 207 3 sv S.length (cells3 S)) := hown
      have HBT : Hid (Below cb w wr) := hbel
      have HN2 : Hid (S = [] → sv = .slice none 0 0) := HN
      clear hcutr hown hbel HK k2 k3
      have HZ2 := hcb
      rcases (show S = [] ∨ 0 < S.length from by cases S with
        | nil => exact .inl rfl
        | cons a r => exact .inr (by simp)) with hs0 | hs0
      · have hsv := HN2.out hs0
        subst hsv
        rcases ownsRow_shape HCT.out.rh with rfl | ⟨gv, cv, rfl⟩
        all_goals
          have t3 := HCT.out.c3
          have t3f := HCT.out.fz 3
          go_wp2_with (first | (at_builtin; refine wpList_app0 wr rfl (.tmp 80) (.tmp 81) 102 rfl base 207 (.agg #[.int .i64 0, .int .i64 0, .int .i64 0]) 3 24 Try.underlying102 Try.infoStand _ H.length (cells3 H) rfl HCT.out.rh rfl ?_))
          go_end0
          have hfin := HCT.out.again3.raise
          refine ⟨rfl, HBT.out.setCell (p := ⟨cb, 3, none⟩) (Nat.le_refl _) _, ?_⟩
          rw [HX.out, hs0, List.append_nil]
          exact ⟨_, hfin⟩
      · have t3 := HCT.out.c3
        have hzt := HCT.out.hz
        go_wp2_with (first | (at_builtin; refine wpList_appRow wr rfl (.tmp 80) (.tmp 81) 102 rfl base w.heap.size 207 (.agg #[.int .i64 0, .int .i64 0, .int .i64 0]) 3 24 Try.underlying102 Try.infoStand rfl (by decide) (by decide) vh H.length (cells3 H) sv S.length (cells3 S) rfl HCT.out.rh rfl HOT.out (cells3_one _) hs0 (by omega) (by omega) ?_; intro g3 cap3 w3 hown3 hgrow3 hat3 hlt3; obtain ⟨kc3, kf3⟩ := HCT.out.kept (fun k hk => (HCT.out.rh.lt k hk).1) hgrow3; have m3 := kc3 3 _ t3; have mf3 := kf3 3; clear kc3 kf3))
        go_end0
        refine ⟨rfl, (HBT.out.grown hgrow3 (by omega) (fun k hk => by have := (HCT.out.rh.lt k hk).1; omega)).setCell (p := ⟨cb, 3, none⟩) (Nat.le_refl _) _, ?_⟩
        rw [HX.out]
        have hfin := HCT.out.hope rfl hown3 hgrow3 hat3 hlt3
        exact ⟨_, hfin.raise⟩
end Go.Proofs.Ytgjgjgihceijnaa
