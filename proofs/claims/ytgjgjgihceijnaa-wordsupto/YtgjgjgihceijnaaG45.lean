/- Texts put together: WaWords. -/
import Derived.Test.YtgjgjgihceijnaaG41
import Derived.Test.YtgjgjgihceijnaaG43
import Derived.Test.YtgjgjgihceijnaaG44
import Derived.Test.YtgjgjgihceijnaaG39
import Derived.BigQuiet
namespace Go.Stn
open Go.Proofs.Ytgjgjgihceijnaa (compP)
theorem prS_img {ops : List OpK} (h : ¬ (prS (opText false ops)).toList = []) : ImgFile (rulesOf false (opTrees ops)) (prS (opText false ops)) ∧ nConds (rulesOf false (opTrees ops)) = 1 := by
  have hc := comp_tr (opText_tr false ops)
  have hne : (compP (opText false ops)).1 ≠ [] := fun e => h (by unfold prS; rw [e, ByteArray.toList_mk])
  have h1 : (opText false ops).size ≤ 120 := by
    apply Classical.byContradiction
    intro hh
    exact hne (by rw [hc.1 (by omega)])
  have h2 : (opTrees ops).length ≤ 8 := by
    apply Classical.byContradiction
    intro hh
    exact hne (by rw [hc.2.1 h1 (by omega)])
  have h3 : sumC false (opTrees ops) ≤ 10 := by
    apply Classical.byContradiction
    intro hh
    exact hne (by rw [hc.2.2.1 h1 h2 (by omega)])
  rcases hc.2.2.2 h1 h2 h3 with ⟨e, _⟩ | ⟨_, _, hi⟩
  · exact absurd (by rw [e]) hne
  · exact ⟨hi, nConds_tr (by rw [sumNp_tr]; exact h3)⟩
theorem builtP_ok (ops : List OpK) : ∀ (j t : Nat), (builtP ops).2[j]? = some t → t < (builtP ops).1.length := by
  have h := buildK_ok ops ops.length (Nat.le_refl _)
  unfold builtP
  split
  · intro j t ht
    have e : t = 0 := by
      cases j with
      | zero => simpa using ht.symm
      | succ j => simp at ht
    rw [e, List.length_append, List.length_singleton]
    omega
  · exact h.ok
theorem bytes_nil {S : ByteArray} (h : S.toList = []) : S = ⟨#[]⟩ := by
  obtain ⟨d⟩ := S
  have e : (⟨d⟩ : ByteArray) = ⟨d.toList.toArray⟩ := by rw [Array.toArray_toList]
  rw [e, ByteArray.toList_mk] at h
  rw [e, h]
end Go.Stn
namespace Go.Proofs.Ytgjgjgihceijnaa
open Go.RowKit Go.Stn
theorem row3_lenW {w : World} {B : Nat} {v : Value} {l : List (Int × Int × Int)} (h : Row3 w B v l) : ∃ a cap, v = .slice a l.length cap := by
  rcases h.sh with ⟨rfl, rfl⟩ | ⟨g, cap, rfl, _⟩
  · exact ⟨none, 0, rfl⟩
  · exact ⟨_, cap, rfl⟩
theorem over_all {m : WAt} (hok : allOk m.all) (hs : m.inp.size ≤ 300) (ha : m.all.length ≤ 2000000) : ∀ (n : Nat) (x : Nd), m.all[n]? = some x → OverOk m n x := by
  intro n
  induction n using Nat.strongRecOn with
  | ind n ih =>
    intro x hx
    exact kover_any hx (kfind_any hx (hok n x hx) (fun j y hj hy => ih j hj y hy) hs ha) hs ha
set_option maxRecDepth 100000 in
set_option maxHeartbeats 4000000 in
theorem kwords_walk (v : Value) (ops : List OpK) (inp : ByteArray) (w : World) (hn : ops.length ≤ 1100000) (hin : inp.size ≤ maxLen) (hbt : ∀ W, Below w.heap.size w W → Calls Try.prog 28 #[v] W (BuiltAt ops W)) :
    Calls Try.prog 8 #[v, .string inp] w fun e w' => e = .returned (.bool true) ∧ Below w.heap.size w w' := by
  obtain ⟨bF1, bF2, bF3⟩ := opText_bounds false hn
  have hal : (builtP ops).1.length ≤ 2000000 := by have := (opTrees_ok ops).2.2.2.2; omega
  have htl : (builtP ops).2.length ≤ 2000000 := by rw [← opTrees_len]; exact bF3
  have hpF := fun W => kpressed_any (opText_tr false ops) (by show (bA _).size ≤ _; rw [bA_size]; exact bF1) bF3 bF2 W
  have hzF : (opText false ops).size ≤ 1000000000000 := by show (bA _).size ≤ _; rw [bA_size]; exact bF1
  have HIM := hidK (@prS_img ops)
  have HOK := hidK (builtP_all ops)
  have HTO : Hid (∀ (j t : Nat), (builtP ops).2[j]? = some t → t < (builtP ops).1.length) := builtP_ok ops
  have hne : 0 < (builtP ops).1.length := by
    have h0 : 0 < (builtP ops).2.length := by
      rw [← opTrees_len]
      exact List.length_pos_iff.2 (opTrees_ok ops).1
    have h1 := HTO.out 0 _ (List.getElem?_eq_getElem h0)
    omega
  rw [opTrees_len] at hpF
  replace hpF := hidK hpF
  replace hbt := hidK hbt
  unfold maxLen at hin
  go_enter Try.func8, Try.ntmps8
  go_wp2_with fail
  refine (kex_any _).mono ?_
  rintro e w1 ⟨rfl, hb1⟩
  have HB1 := hidK hb1
  clear hb1
  go_wp2_with fail
  refine (hbt.out w1 HB1.out).mono ?_
  rintro e w2 ⟨ga, ca, gt, ct, rfl, hru, hb2⟩
  have HB2 := hidK (HB1.out.trans (hb2.mono HB1.out.size))
  have HRU := hidK hru
  clear hru hb2
  go_wp2_with fail
  have HBA : Hid (Below w2.heap.size w2 (w2.alloc (.cells #[.slice (some ⟨ga, 0, none⟩) (builtP ops).1.length ca, .slice (some ⟨gt, 0, none⟩) (builtP ops).2.length ct] 49))) := (Below.refl _ _).alloc (Nat.le_refl _) _
  have HC0 : Hid ((w2.alloc (.cells #[.slice (some ⟨ga, 0, none⟩) (builtP ops).1.length ca, .slice (some ⟨gt, 0, none⟩) (builtP ops).2.length ct] 49)).cell? ⟨w2.heap.size, 0, none⟩ = some (.slice (some ⟨ga, 0, none⟩) (builtP ops).1.length ca)) := (World.cell?_alloc_at _ _ _ 0 rfl).trans rfl
  have HC1 : Hid ((w2.alloc (.cells #[.slice (some ⟨ga, 0, none⟩) (builtP ops).1.length ca, .slice (some ⟨gt, 0, none⟩) (builtP ops).2.length ct] 49)).cell? ⟨w2.heap.size, 1, none⟩ = some (.slice (some ⟨gt, 0, none⟩) (builtP ops).2.length ct)) := (World.cell?_alloc_at _ _ _ 1 rfl).trans rfl
  have hzA : w2.heap.size + 1 = (w2.alloc (.cells #[.slice (some ⟨ga, 0, none⟩) (builtP ops).1.length ca, .slice (some ⟨gt, 0, none⟩) (builtP ops).2.length ct] 49)).heap.size := by simp
  have HR3 := hidK (HRU.out.below HBA.out)
  have HB3 := hidK (HB2.out.trans (HBA.out.mono HB2.out.size))
  clear HBA
  refine (kspelledF ga gt ca ct _ _ _ HR3.out hal htl bF1 bF2).mono ?_
  rintro e w3 ⟨rfl, hb3⟩
  have c0 := (hb3.cell (p := ⟨w2.heap.size, 0, none⟩) (by show w2.heap.size < _; omega)).trans HC0.out
  have c1 := (hb3.cell (p := ⟨w2.heap.size, 1, none⟩) (by show w2.heap.size < _; omega)).trans HC1.out
  have HR4 := hidK (HR3.out.below hb3)
  have HB4 := hidK (HB3.out.trans (hb3.mono HB3.out.size))
  have hz4 : w2.heap.size + 1 ≤ w3.heap.size := by have := hb3.size; omega
  clear hb3 HC0 HC1 hzA HR3 HB3
  have eF : bA (fileTx ((treesOf (builtP ops).1 (builtP ops).2).map (Tr.sp false))) = opText false ops := rfl
  have eU : treesOf (builtP ops).1 (builtP ops).2 = opTrees ops := rfl
  rw [eF, eU]
  clear eF eU
  go_wp2_with fail
  refine (hpF.out w3).mono ?_
  rintro e w5 ⟨rfl, hb5⟩
  have d0 := (hb5.cell (p := ⟨w2.heap.size, 0, none⟩) (by show w2.heap.size < _; omega)).trans c0
  have d1 := (hb5.cell (p := ⟨w2.heap.size, 1, none⟩) (by show w2.heap.size < _; omega)).trans c1
  have HR5 := hidK (HR4.out.below hb5)
  have HB5 := hidK (HB4.out.trans (hb5.mono HB4.out.size))
  have hz5 : w2.heap.size + 1 ≤ w5.heap.size := by have := hb5.size; omega
  clear hb5 c0 c1 HR4 HB4 HRU HB2 HB1
  generalize prS (opText false ops) = S at *
  generalize sumC false (opTrees ops) = NA at *
  by_cases hS : S.toList = []
  · have hS2 : S = ⟨#[]⟩ := bytes_nil hS
    subst hS2
    go_wp2
    go_ret
    exact ⟨rfl, HB5.out⟩
  · obtain ⟨hI, hc1⟩ := HIM.out hS
    have hSz := hI.sz
    have HOI := hidK hI.ok
    have HCT := hidK (scan_T (inp := inp) hI hc1)
    have hss := pscan_any S inp w5 (by unfold maxLen; omega) (by unfold maxLen; omega)
    have hse : S.toList.isEmpty = false := by rw [List.isEmpty_eq_false_iff]; exact hS
    clear hS
    by_cases hil : 300 < inp.size
    · have hd : decide ((300 : Int) < (inp.size : Int)) = true := by simp; omega
      clear hI hss
      go_wp2
      go_ret
      exact ⟨rfl, HB5.out⟩
    · have hd : decide ((300 : Int) < (inp.size : Int)) = false := by simp; omega
      have hi3 : inp.size ≤ 300 := by omega
      have hsr : scanR S inp = ((cutP S inp 0).1, (cutP S inp 0).2.1, 0) := by unfold scanR; rw [if_neg (by omega), if_pos HOI.out]
      have hTl := scanR_len S inp
      rw [hsr] at hss hTl
      generalize (cutP S inp 0).2.1 = steps at *
      generalize (cutP S inp 0).1 = T at *
      have HSS := hidK hss
      have HCT2 : Hid (CutT (treesOf (builtP ops).1 (builtP ops).2) inp 0 T) := HCT.out
      clear hI hsr hss HIM hpF HCT hil
      go_wp2_with fail
      refine HSS.out.mono ?_
      rintro e w6 ⟨vt, rfl, hr6, hb6⟩
      obtain ⟨ta, tcap, hvt⟩ := row3_lenW hr6
      subst hvt
      have c0 := (hb6.cell (p := ⟨w2.heap.size, 0, none⟩) (by show w2.heap.size < _; omega)).trans d0
      have c1 := (hb6.cell (p := ⟨w2.heap.size, 1, none⟩) (by show w2.heap.size < _; omega)).trans d1
      have HRU6 := hidK (HR5.out.below hb6)
      have HB6 := hidK (HB5.out.trans (hb6.mono HB5.out.size))
      have HR6 := hidK hr6
      clear hr6 hb6 d0 d1 HSS HR5 HB5
      go_wp2_with fail
      refine (kwalk_any (inp := inp) HRU6.out hne hal hi3).mono ?_
      rintro e w7 ⟨pw, sb, cs, rb, rfl, hwk, hb7, hrw⟩
      have HWK := hidK hwk
      have HRR := hidK hrw
      have HB7 := hidK (HB6.out.trans (hb7.mono HB6.out.size))
      have HR7 := hidK (HR6.out.below hb7 (Nat.le_refl _))
      have HZ7 := hidK hb7.size
      have HZZ := hidK HB6.out.size
      clear hwk hrw hb7 c0 c1 HRU6 HB6 HR6
      have HOV : Hid (∀ (j : Nat) (y : Nd), (builtP ops).1[j]? = some y → OverOk ⟨pw, sb, ga, gt, ca, ct, cs, rb, (builtP ops).1, (builtP ops).2, inp⟩ j y) := over_all (m := ⟨pw, sb, ga, gt, ca, ct, cs, rb, (builtP ops).1, (builtP ops).2, inp⟩) HOK.out hi3 hal
      generalize (builtP ops).1 = ALL at *
      generalize (builtP ops).2 = TOP at *
      go_wp2
      go_loopw [15, 16] (fun pp ii wr => ∃ (k p : Nat), k ≤ T.length ∧ ii = .int .i64 (k : Int) ∧ pp = .int .i64 (p : Int) ∧ p ≤ inp.size ∧ CutT (treesOf ALL TOP) inp p (T.drop k) ∧ WKn ⟨pw, sb, ga, gt, ca, ct, cs, rb, ALL, TOP, inp⟩ (fun _ => False) wr ∧ Kept (WAt.mk pw sb ga gt ca ct cs rb ALL TOP inp).R w7 wr) (fun _ ii _ => T.length - (intOf ii).toNat)
      case atStart => exact ⟨0, 0, Nat.zero_le _, rfl, rfl, Nat.zero_le _, HCT2.out, HWK.out, Kept.refl _ _⟩
      case round =>
        obtain ⟨k, p, hk, rfl, rfl, hp, hcut, hwk, hkp⟩ := hrel
        have HW := hidK hwk
        have HP := hidK hkp
        clear hwk hkp HWK HCT2
        by_cases hlt : k < T.length
        · obtain ⟨⟨tr, tf, tt⟩, hx⟩ : ∃ u, T[k]? = some u := ⟨_, List.getElem?_eq_getElem hlt⟩
          have hdrop : T.drop k = (tr, tf, tt) :: T.drop (k + 1) := by
            rw [List.drop_eq_getElem_cons hlt]
            congr 1
            rw [List.getElem?_eq_getElem hlt] at hx
            injection hx
          rw [hdrop] at hcut
          obtain ⟨hps, l1, q, l2, hL, l3, l4⟩ := hcut
          simp only at l1 l2 hL l3 l4
          subst l1 l2
          have HX := hidK hx
          have HL := hidK hL
          have H3 := hidK l3
          have H4 := hidK l4
          clear hx hL l3 l4 hdrop
          have dp : decide ((inp.size : Int) ≤ (p : Int)) = false := by simp; omega
          go_wp2_with fail
          refine (klongest_any (m := ⟨pw, sb, ga, gt, ca, ct, cs, rb, ALL, TOP, inp⟩) HOV.out hi3 hal htl HW.out (fun _ h => h.elim) (Nat.le_of_lt hps)).mono ?_
          rintro e w8 ⟨r, q', rfl, hlo, hwk8, hkp8⟩
          obtain ⟨h1, h2⟩ := long_one hlo HL.out
          subst h1 h2
          have HW8 := hidK hwk8
          have HP8 := hidK (HP.out.trans hkp8)
          have HB8 : Hid (Below w6.heap.size w7 w8) := HP8.out.below HZ7.out HRR.out
          have hql : q' ≤ inp.size := by
            rcases HL.out with ⟨_, e, _⟩ | ⟨_, _, _, _, e, _⟩
            · omega
            · exact e
          have HR8 := hidK (HR7.out.below HB8.out (Nat.le_refl _))
          clear hlo hwk8 hkp8 HW HP
          rcases HR8.out.sh with ⟨_, h0⟩ | ⟨g, cap, hv, _, _, _, hcells⟩
          · rw [h0] at hlt; simp at hlt
          injection hv with hv1 hv2 hv3
          subst hv1
          clear hv2 hv3
          obtain ⟨k0, k1, k2⟩ := hcells k _ HX.out
          simp only at k0 k1 k2
          clear hcells
          have hkI : (0 : Int) ≤ (k : Int) ∧ (k : Int) < (T.length : Int) := by omega
          have hw2 : IntKind.i64.wrap ((T.length : Int) - 1) = (T.length : Int) - 1 := IntWalk.i64_in _ (by omega)
          by_cases hm1 : r = -1
          · have g4 : (r == -1) = true := by rw [hm1]; rfl
            have hlen2 : k + 1 = T.length := by
              have := congrArg List.length (H3.out hm1)
              simp at this
              omega
            have g5 : ((k : Int) == (T.length : Int) - 1) = true := by rw [beq_iff_eq]; omega
            have HBF : Hid (Below w.heap.size w w8) := HB7.out.trans (HP8.out.below (Nat.le_trans HZZ.out HZ7.out) (fun k hk => Nat.le_trans HZZ.out (HRR.out k hk)))
            clear hm1
            go_wp2
            go_ret
            exact ⟨rfl, HBF.out⟩
          · have g4 : (r == -1) = false := by rw [beq_eq_false_iff_ne]; exact hm1
            have HC5 := hidK (H4.out hm1)
            clear hm1
            go_wp2
            go_roundw
            case rel => exact ⟨k + 1, q', hlt, by go_num, rfl, hql, HC5.out, HW8.out, HP8.out⟩
            case measure => simp [intOf]; omega
        · have hd0 : T.drop k = [] := List.drop_eq_nil_of_le (by omega)
          rw [hd0] at hcut
          have hpe : p = inp.size := hcut
          have dk : decide ((k : Int) < (T.length : Int)) = false := by simp; omega
          have g5 : ((p : Int) == (inp.size : Int)) = true := by rw [beq_iff_eq]; omega
          have HBF : Hid (Below w.heap.size w wr) := HB7.out.trans (HP.out.below (Nat.le_trans HZZ.out HZ7.out) (fun k hk => Nat.le_trans HZZ.out (HRR.out k hk)))
          clear hpe hd0 hcut
          go_wp2
          go_ret
          exact ⟨by simp, HBF.out⟩
end Go.Proofs.Ytgjgjgihceijnaa

