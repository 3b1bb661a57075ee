/- Texts put together: CuLook, StPart, StGather. -/
import Derived.Test.YtgjgjgihceijnaaG07
import Derived.Test.YtgjgjgihceijnaaG06
/- (*cut.progress).look: a walk. -/
namespace Go.Proofs.Ytgjgjgihceijnaa
open Go.RowKit Go.Stn

/-- What look leaves. -/
def LookOut (w : World) (cb : Nat) (s inp : ByteArray) (bb vg vcap : Nat) (yb : Nat → Nat) (zb : Nat → Nat → Nat) (vt : Value) (hg hcap : Nat) (hbk : Nat → Nat) (c p n : Nat) (H T : List (Int × Int × Int)) (e : Ending) (w' : World) : Prop :=
  e = .returned (.tuple #[.int .i64 ((tokN (lookT s inp c H (inp.size - p) 0 p none) : Nat) : Int), .int .i64 ((toN p (lookT s inp c H (inp.size - p) 0 p none) : Nat) : Int)]) ∧
  Below cb w w' ∧ ∃ HT', CW w' cb w'.heap.size s inp bb vg vcap yb zb vt hg hcap hbk HT' c p (n + (lookFrom s inp c H p).2) T ∧ hopeOk s inp (H ++ (lookFrom s inp c H p).1) HT'

theorem owns_cut {w : World} {base e g n cap : Nat} {xs : List Value} (h : w.ownsRow base e 1 (.slice (some ⟨g, 0, none⟩) n cap) n xs) : w.ownsRow base e 1 (.slice (some ⟨g, 0, none⟩) 0 cap) 0 [] := by
  refine ⟨rfl, ?_⟩
  rcases h.2 with ⟨hn, _⟩ | ⟨g', cap', cur, he, hbg, hg, hnc, hcm, hcs, _⟩
  · cases hn
  · cases he
    exact .inr ⟨g, cap, cur, rfl, hbg, hg, Nat.zero_le _, hcm, hcs, by simp⟩
theorem owns_empty (w : World) (e : TypeId) : (w.alloc (.cells #[] e)).ownsRow w.heap.size e 1 (.slice (some ⟨w.heap.size, 0, none⟩) 0 0) 0 [] := by
  refine ⟨rfl, .inr ⟨w.heap.size, 0, #[], rfl, Nat.le_refl _, heap_alloc_new w _, Nat.le_refl _, ?_⟩⟩
  simp

set_option maxRecDepth 100000 in
set_option maxHeartbeats 1000000 in
theorem clook_any (s inp : ByteArray) (cb bb vg vcap : Nat) (yb : Nat → Nat) (zb : Nat → Nat → Nat) (vt : Value) (hg hcap : Nat) (hbk : Nat → Nat) (HT : Nat → Nat → Bool) (c p n : Nat) (H T : List (Int × Int × Int)) (w : World)
    (hi : imgOk s = true) (hin : inp.size ≤ 300) (hp : p ≤ inp.size) (hc : c < iM s) (hn : n ≤ 100000) (hH : hopeOk s inp H HT)
    (hcw : CW w cb w.heap.size s inp bb vg vcap yb zb vt hg hcap hbk HT c p n T) :
    Calls Try.prog 68 #[.pointer (some ⟨cb, 0, none⟩)] w fun e w' => LookOut w cb s inp bb vg vcap yb zb vt hg hcap hbk c p n H T e w' := by
  have HCW := hidZ hcw
  obtain ⟨M, EM⟩ : ∃ M, iM s = M := ⟨_, rfl⟩
  obtain ⟨N, EN⟩ : ∃ N, nSt s c = N := ⟨_, rfl⟩
  obtain ⟨NL, ENL⟩ : ∃ NL, N * inp.size = NL := ⟨_, rfl⟩
  have hM := (img_head hi).2.2.2.1
  have hcI : (0 : Int) ≤ (c : Int) ∧ (c : Int) < (M : Int) := by omega
  have HLEN := hidZ (show (lClassOf s).length = 256 by unfold lClassOf; rw [numsP_len]; rfl)
  have k257 : w.cell? ⟨cb, 257, none⟩ = some (.slice (some ⟨vg, 0, none⟩) M vcap) := by have := hcw.im 257 _ (imgC_257 _ _ _ HLEN.out); rw [Nat.zero_add, EM] at this; exact this
  have k2 := hcw.k2
  have k3 := hcw.k3
  have k6 := hcw.k6
  rw [EM] at k6
  have m1 := hcw.mem.co c hc
  rw [EN] at m1
  have m2 := hcw.hl c hc
  rw [EN, ENL] at m2
  have HH := hidZ hH
  have HI := hidZ hi
  have hN := nSt_le hi hc
  rw [EN] at hN
  have hNL : NL ≤ 30000 := by rw [← ENL]; have := Nat.mul_le_mul hN.1 hin; omega
  have hc' : c < M := by omega
  replace hc := hidZ hc
  replace EM := hidZ EM
  replace EN := hidZ EN
  replace ENL := hidZ ENL
  clear hcw hH hM hi
  go_enter Try.func68, Try.ntmps68
  go_wp2
  go_quiet (fail)
  have HCWa := hidZ (HCW.out.drewN nq)
  have HBa : Hid (Below cb w (w.drewN nq)) := _root_.Go.below_drewN (Below.refl _ _) nq
  have hza : (w.drewN nq).heap.size = w.heap.size := rfl
  generalize w.drewN nq = wa at *
  clear k257 k2 k3 k6 m1 m2 HCW
  have k2 := HCWa.out.k2
  have k6 := HCWa.out.k6
  rw [EM.out] at k6
  have m2 := HCWa.out.hl c hc.out
  rw [EN.out, ENL.out] at m2
  go_wp2
  go_quiet (fail)
  have HCWb := hidZ (HCWa.out.drewN nq)
  have HBb : Hid (Below cb w (wa.drewN nq)) := _root_.Go.below_drewN HBa.out nq
  have hzb : (wa.drewN nq).heap.size = w.heap.size := hza
  generalize wa.drewN nq = wb at *
  clear k2 k6 m2 HCWa HBa hza
  have k3 := HCWb.out.k3
  go_upto_region 7 with fail
  have HCW0 := hidZ (HCWb.out.below ((Below.refl _ _).alloc HCWb.out.hz (.cells #[] 3)))
  have HB0 : Hid (Below cb w (wb.alloc (.cells #[] 3))) := HBb.out.alloc (by have := HCWb.out.b0; omega) _
  have HO0 : Hid ((wb.alloc (.cells #[] 3)).ownsRow w.heap.size 3 1 (.slice (some ⟨w.heap.size, 0, none⟩) 0 0) 0 []) := by
    rw [← hzb]; exact owns_empty wb 3
  have hz0 : w.heap.size < (wb.alloc (.cells #[] 3)).heap.size := by simp; omega
  clear k3
  generalize wb.alloc (.cells #[] 3) = w0 at *
  clear HCWb HBb
  have k3 := HCW0.out.k3
  go_upto_block 0 with fail
  clear k3
  obtain ⟨BEST, EB⟩ : ∃ b, lookT s inp c H (inp.size - p) 0 p none = b := ⟨_, rfl⟩
  obtain ⟨SF, ESF⟩ : ∃ b, lookFrom s inp c H p = b := ⟨_, rfl⟩
  replace EB := hidZ EB
  replace ESF := hidZ ESF
  go_cut [6, 7, 9] from 14 (fun tk tto sd wc => ∃ (g cap : Nat), tk = .int .i64 (tokN BEST : Nat) ∧ tto = .int .i64 (toN p BEST : Nat) ∧ sd = .slice (some ⟨g, 0, none⟩) SF.1.length cap ∧ okS s inp c SF.1 ∧ SF.1.length ≤ 300 ∧
    wc.ownsRow w.heap.size 3 1 (.slice (some ⟨g, 0, none⟩) SF.1.length cap) SF.1.length (stdC inp.size SF.1) ∧ CW wc cb w.heap.size s inp bb vg vcap yb zb vt hg hcap hbk HT c p (n + SF.2) T ∧ Below cb w wc)
  case rest =>
    obtain ⟨g, cap, rfl, rfl, rfl, hok, hsl, hown, hcw, hb⟩ := hcut
    have HOK := hidZ hok
    have HO1 := hidZ hown
    have HC1 := hidZ hcw
    have HB1 := hidZ hb
    clear hok hown hcw hb HCW0 HB0 HO0
    obtain ⟨S, kk⟩ := SF
    simp only at *
    go_wp2_with fail
    go_loopw [115] (fun x wr => ∃ (k : Nat) (HTk : Nat → Nat → Bool), x = .int .i64 (k : Int) ∧ k ≤ S.length ∧ CW wr cb w.heap.size s inp bb vg vcap yb zb vt hg hcap hbk HTk c p (n + kk) T ∧ hopeOk s inp (H ++ S.take k) HTk ∧
      wr.ownsRow w.heap.size 3 1 (.slice (some ⟨g, 0, none⟩) S.length cap) S.length (stdC inp.size S) ∧ Below cb w wr) (fun x _ => S.length - (intOf x).toNat)
    case atStart => exact ⟨0, HT, rfl, Nat.zero_le _, HC1.out, by rw [List.take_zero, List.append_nil]; exact HH.out, HO1.out, HB1.out⟩
    case round =>
      obtain ⟨k, HTk, rfl, hk, hcw, hho, hown, hb⟩ := hrel
      have HC2 := hidZ hcw
      have HH2 := hidZ hho
      have HO2 := hidZ hown
      have HB2 := hidZ hb
      clear hcw hho hown hb HC1 HO1 HB1
      by_cases hlt : k < S.length
      · obtain ⟨st, i, hx, hst, hil⟩ := HOK.out _ (List.getElem_mem hlt)
        have hm := HC2.out.tb c (st * inp.size + i) hc.out (stand_lt hst hil)
        have hcell : wr.cell? ⟨g, k, none⟩ = some (.int .i64 ((st * inp.size + i : Nat) : Int)) := by
          have e : (stdC inp.size S)[k]? = some (.int .i64 ((st * inp.size + i : Nat) : Int)) := by
            unfold stdC
            rw [List.getElem?_map, List.getElem?_eq_getElem hlt, hx]
            simp [std]
          have := row_range HO2.out k _ e
          rw [Nat.zero_add] at this; exact this
        have HM := hidZ (HC2.out.mark hc.out (stand_lt hst hil))
        have HK := hidZ (hope_mark HH2.out (c := c) (st := st) hil)
        have HTK : Hid (H ++ S.take k ++ [std c st i] = H ++ S.take (k + 1)) := by
          unfold Hid; rw [List.append_assoc, ← hx, List.take_add_one, List.getElem?_eq_getElem hlt]; rfl
        have hy : st * inp.size + i < NL := by have := stand_lt hst hil; rw [EN.out, ENL.out] at this; exact this
        generalize st * inp.size + i = Y at *
        generalize HTk c Y = old at *
        clear hx hst hil
        have hcell2 := hm.1
        have hfz2 := hm.2
        clear hm
        have hyI : (0 : Int) ≤ (Y : Int) ∧ (Y : Int) < (NL : Int) := by omega
        have hkI : (0 : Int) ≤ (k : Int) ∧ (k : Int) < (S.length : Int) := by omega
        have HO3 := hidZ (ownsRow_setCell_below (a := ⟨hbk c, Y, none⟩) HO2.out (HC2.out.b2 c hc.out).2.1 (.bool true))
        have HB3 := hidZ (HB2.out.setCell (p := ⟨hbk c, Y, none⟩) (Nat.le_of_lt (HC2.out.b2 c hc.out).1) (.bool true))
        go_wp2
        go_roundw
        case rel => exact ⟨k + 1, _, by go_num, hlt, HM.out, by rw [← HTK.out]; exact HK.out, HO3.out, HB3.out⟩
        case measure => simp [intOf]; omega
      · have e : k = S.length := by omega
        subst e
        go_wp2
        go_ret2
        refine ⟨by rw [EB.out]; rfl, HB2.out, HTk, ?_, ?_⟩
        · rw [ESF.out]; exact HC2.out.raise
        · rw [ESF.out]; have := HH2.out; rw [List.take_length] at this; exact this
  case first =>
    go_wp2_with fail
    go_loopg [6, 7, 8, 9, 10] (inp.size - p) (fun gk tk tto sv sd iv wr => ∃ (best : Option (Nat × Nat)) (st i k : Nat) (S : List (Int × Int × Int)) (g cap : Nat), tk = .int .i64 (tokN best : Nat) ∧ tto = .int .i64 (toN p best : Nat) ∧
      sv = .int .i64 (st : Int) ∧ sd = .slice (some ⟨g, 0, none⟩) S.length cap ∧ iv = .int .i64 (i : Int) ∧ st < N ∧ p ≤ i ∧ i + gk = inp.size ∧ k ≤ i - p ∧ S.length ≤ i - p ∧ okS s inp c S ∧
      SF = lookP s inp c H gk st i S k ∧ BEST = lookT s inp c H gk st i best ∧
      wr.ownsRow w.heap.size 3 1 (.slice (some ⟨g, 0, none⟩) S.length cap) S.length (stdC inp.size S) ∧ CW wr cb w.heap.size s inp bb vg vcap yb zb vt hg hcap hbk HT c p (n + k) T ∧ Below cb w wr)
    case atStart => exact ⟨none, 0, p, 0, [], w.heap.size, 0, rfl, rfl, rfl, rfl, rfl, by omega, Nat.le_refl _, by omega, by omega, by simp, okS_nil _ _ _, ESF.out.symm, EB.out.symm, HO0.out, HCW0.out, HB0.out⟩
    case round =>
      obtain ⟨best, st, i, k, S, g, cap, rfl, rfl, rfl, rfl, rfl, hst, hpi, hig, hk, hSl, hok, hlp, hlt', hown, hcw, hb⟩ := hrel
      have HLP := hidZ hlp
      have HLT := hidZ hlt'
      have HOK := hidZ hok
      have HO := hidZ hown
      have HC := hidZ hcw
      have HB := hidZ hb
      clear hlp hlt' hok hown hcw hb HCW0 HB0 HO0
      have k1 := HC.out.k1
      by_cases hlt : i < inp.size
      · obtain ⟨d, rfl⟩ : ∃ d, gk = d + 1 := ⟨gk - 1, by omega⟩
        have hst' : st < nSt s c := by rw [EN.out]; exact hst
        have hxy : st * inp.size + i < NL := by have := stand_lt hst' hlt; rw [EN.out, ENL.out] at this; exact this
        have HHB := hidZ (HH.out c st i hc.out hst' hlt)
        have htb := HC.out.tb c (st * inp.size + i) hc.out (stand_lt hst' hlt)
        obtain ⟨X, hX⟩ : ∃ X : Nat, X = st * inp.size := ⟨_, rfl⟩
        obtain ⟨Y, hY⟩ : ∃ Y : Nat, Y = X + i := ⟨_, rfl⟩
        have hXI : (st : Int) * (inp.size : Int) = (X : Int) := by rw [hX]; simp
        have hYI : (X : Int) + (i : Int) = (Y : Int) := by rw [hY]; simp
        rw [← hX, ← hY] at hxy htb HHB
        replace hX := hidZ hX
        have hXb : X ≤ 30000 := by omega
        replace hY := hidZ hY
        have hyI : (0 : Int) ≤ (Y : Int) ∧ (Y : Int) < (NL : Int) := by omega
        have hd : decide ((i : Int) < (inp.size : Int)) = true := by simp; omega
        have t1 := htb.1
        clear htb hst'
        cases hkn : memB H (std c st i) with
        | true =>
          rw [hkn] at HHB
          rw [HHB.out] at t1
          have HE1 : Hid (SF = (S, k)) := HLP.out.trans (lookP_known hkn)
          have HE2 : Hid (BEST = best) := HLT.out.trans (lookT_known hkn)
          clear hkn
          go_wp2
          go_meet
          case rel =>
            refine ⟨g, cap, by rw [HE2.out], by rw [HE2.out], by rw [HE1.out], by rw [HE1.out]; exact HOK.out, by rw [HE1.out]; simp only; omega, by rw [HE1.out]; exact HO.out, by rw [HE1.out]; exact HC.out, HB.out⟩
        | false =>
          rw [hkn] at HHB
          rw [HHB.out] at t1
          have HKN := hidZ hkn
          clear hkn
          obtain ⟨N1, hN1⟩ : ∃ N1, n + k = N1 := ⟨_, rfl⟩
          rw [hN1] at HC
          have hN1b : N1 ≤ 101000 := by omega
          replace hN1 := hidZ hN1
          have hzr := HC.out.hz
          go_wp2_with (first | (at_builtin; refine wpList_app1 wr rfl (.tmp 66) (.tmp 68) 30 rfl w.heap.size 3 (.int .i64 0) 1 8 Try.underlying30 Try.infoInt rfl (by decide) (by decide) _ S.length (stdC inp.size S) [.int .i64 (Y : Int)] _ rfl HO.out _ rfl rfl rfl (by simp [Value.oneCell']) (by omega) hzr ?_; intro g4 cap4 w4 hown4 hgrow4 hat4 hlt4; have hb4 := below_app (Below.refl w.heap.size wr) hzr HO.out (Nat.le_refl _) hgrow4; have HC4 := hidZ (HC.out.below hb4); have r4 := HC4.out.k4; have f4 := HC4.out.fz 261; clear k1 t1))
          have HC5 := hidZ HC4.out.stepN
          have HO5 : Hid ((w4.setCell ⟨cb, 261, none⟩ (.int .i64 ((N1 : Int) + 1))).ownsRow w.heap.size 3 1 (.slice (some ⟨g4, 0, none⟩) (S.length + 1) cap4) (S.length + 1) (stdC inp.size (S ++ [std c st i]))) := by
            rw [stdC_snoc]
            have e : (st : Int) * (inp.size : Int) + (i : Int) = (Y : Int) := by rw [hXI, hYI]
            rw [e]; exact ownsRow_setCell_below hown4 (by have := HC4.out.b0; exact this) _
          have HB5 := hidZ ((HB.out.trans (hb4.mono (by have := HC4.out.b0; omega))).setCell (p := ⟨cb, 261, none⟩) (Nat.le_refl _) (.int .i64 ((N1 : Int) + 1)))
          generalize w4.setCell ⟨cb, 261, none⟩ (.int .i64 ((N1 : Int) + 1)) = w5 at *
          clear HC4 HC HO HB hown4 hgrow4 hat4 hlt4 hb4 r4 f4 hzr
          have hst' : st < nSt s c := by rw [EN.out]; exact hst
          have hbe := bt_eq inp i hlt
          have hbl := bt_lt inp i
          have q1 := HC5.out.k1
          have q2 := HC5.out.mem.nx c st hc.out hst'
          rw [Nat.mul_comm 2 st] at q2
          have q3 := HC5.out.mem.ld c st (bt inp i) hc.out hst' hbl
          have q4 : w5.cell? ⟨cb, 1 + bt inp i, none⟩ = some (.int .i64 (clsN s (bt inp i) : Int)) := by
            have e : (lClassOf s)[bt inp i]'(by rw [HLEN.out]; exact hbl) = clsN s (bt inp i) := by simp only [(img_read HI.out).co]; simp
            have := HC5.out.im (1 + bt inp i) _ (imgC_k _ _ _ (bt inp i) (by rw [HLEN.out]; exact hbl))
            rw [Nat.zero_add, e] at this; exact this
          have hcl := cls_lt HI.out (bt inp i) hbl
          have HLJ : Hid (leadJ s c st (bt inp i) = leadI (leadN s c st (bt inp i))) := rfl
          have hll := lead_lt HI.out hc.out hst' hbl
          have HP1 := hidZ (@lookP_nowhere s inp c d st i k H S HKN.out)
          have HP2 := hidZ (@lookP_token s inp c d st i k H S HKN.out)
          have HP3 := hidZ (@lookP_step s inp c d st i k H S HKN.out)
          have HT1 := hidZ (@lookT_nowhere s inp c d st i H best HKN.out)
          have HT2 := hidZ (@lookT_token s inp c d st i H best HKN.out)
          have HT3 := hidZ (@lookT_step s inp c d st i H best HKN.out)
          generalize leadJ s c st (bt inp i) = lj at *
          generalize leadN s c st (bt inp i) = ln at *
          generalize clsN s (bt inp i) = q at *
          generalize iK s = K at *
          generalize bt inp i = v at *
          rw [EN.out] at hll
          have hstI : (0 : Int) ≤ (st : Int) ∧ (st : Int) < (N : Int) := by omega
          have hqI : (0 : Int) ≤ (q : Int) ∧ (q : Int) < (K : Int) := by omega
          have hvI : (0 : Int) ≤ (v : Int) ∧ (v : Int) < 256 := by omega
          have hiI : (0 : Int) ≤ (i : Int) ∧ (i : Int) < (inp.size : Int) := by omega
          clear hst'
          go_quiet (fail)
          have HC6 := hidZ (HC5.out.drewN nq)
          have HO6 : Hid ((w5.drewN nq).ownsRow w.heap.size 3 1 (.slice (some ⟨g4, 0, none⟩) (S.length + 1) cap4) (S.length + 1) (stdC inp.size (S ++ [std c st i]))) := HO5.out
          have HB6 := hidZ (_root_.Go.below_drewN HB5.out nq)
          generalize w5.drewN nq = w6 at *
          clear HC5 HO5 HB5 q1 q2 q3 q4
          have HSN : Hid ((S ++ [std c st i]).length = S.length + 1) := by unfold Hid; simp
          have HNN : Hid (n + (k + 1) = N1 + 1) := by unfold Hid; have := hN1.out; omega
          have HOK6 : Hid (okS s inp c (S ++ [std c st i])) := okS_snoc HOK.out (by rw [EN.out]; exact hst) hlt
          by_cases h255 : ln = 255
          · have hlj : lj = -1 := by rw [HLJ.out, h255]; rfl
            subst hlj
            have HE1 : Hid (SF = (S ++ [std c st i], k + 1)) := HLP.out.trans (HP1.out h255)
            have HE2 : Hid (BEST = best) := HLT.out.trans (HT1.out h255)
            clear hll h255
            go_wp2
            go_meet
            case rel =>
              refine ⟨g4, cap4, by rw [HE2.out], by rw [HE2.out], by rw [HE1.out]; simp only; rw [HSN.out], by rw [HE1.out]; exact HOK6.out, by rw [HE1.out]; simp only; rw [HSN.out]; omega, by rw [HE1.out]; simp only; rw [HSN.out]; exact HO6.out, by rw [HE1.out]; simp only; rw [HNN.out]; exact HC6.out, HB6.out⟩
          · have hlj : lj = (ln : Int) := by rw [HLJ.out]; unfold leadI; rw [if_neg h255]
            subst hlj
            have hlnN : ln < N := by omega
            have hd3 : ((ln : Int) == -1) = false := by rw [beq_eq_false_iff_ne]; omega
            have q5 := HC6.out.mem.tk c ln hc.out (by rw [EN.out]; exact hlnN)
            rw [Nat.mul_comm 2 ln] at q5
            have HP4 := hidZ (HP2.out h255)
            have HP5 := hidZ (HP3.out h255)
            have HT4 := hidZ (HT2.out h255)
            have HT5 := hidZ (HT3.out h255)
            generalize markN s c ln = m at *
            have hlnI : (0 : Int) ≤ (ln : Int) ∧ (ln : Int) < (N : Int) := by omega
            clear hll h255 HP1 HP2 HP3 HT1 HT2 HT3
            by_cases hm : m = 0
            · have HE1 : Hid (SF = lookP s inp c H d ln (i + 1) (S ++ [std c st i]) (k + 1)) := HLP.out.trans (HP5.out hm)
              have HE2 : Hid (BEST = lookT s inp c H d ln (i + 1) best) := HLT.out.trans (HT5.out hm)
              have hd4 : ((m : Int) != 0) = false := by rw [hm]; rfl
              clear hm
              go_wp2
              go_roundg d
              case measure => omega
              case rel =>
                refine ⟨best, ln, i + 1, k + 1, S ++ [std c st i], g4, cap4, rfl, rfl, rfl, by rw [HSN.out], by go_num, hlnN, by omega, by omega, by omega, by rw [HSN.out]; omega, HOK6.out, HE1.out, HE2.out, by rw [HSN.out]; exact HO6.out, by rw [HNN.out]; exact HC6.out, HB6.out⟩
            · have HE1 : Hid (SF = lookP s inp c H d ln (i + 1) [] (k + 1)) := HLP.out.trans (HP4.out (by omega))
              have HE2 : Hid (BEST = lookT s inp c H d ln (i + 1) (some (m - 1, i + 1))) := HLT.out.trans (HT4.out (by omega))
              have hd4 : ((m : Int) != 0) = true := by rw [bne_iff_ne]; omega
              have HMM : Hid (tokN (some (m - 1, i + 1)) = m) := by unfold Hid tokN; simp only; omega
              have HO7 := hidZ (owns_cut HO6.out)
              clear hm
              go_wp2
              go_roundg d
              case measure => omega
              case rel =>
                refine ⟨some (m - 1, i + 1), ln, i + 1, k + 1, [], g4, cap4, by rw [HMM.out], by simp [toN], rfl, rfl, by go_num, hlnN, by omega, by omega, by omega, by simp, okS_nil _ _ _, HE1.out, HE2.out, HO7.out, by rw [HNN.out]; exact HC6.out, HB6.out⟩
      · have e : gk = 0 := by omega
        subst e
        have HE1 : Hid (SF = (S, k)) := HLP.out
        have HE2 : Hid (BEST = best) := HLT.out
        have hd : decide ((i : Int) < (inp.size : Int)) = false := by simp; omega
        go_wp2
        go_meet
        case rel =>
          refine ⟨g, cap, by rw [HE2.out], by rw [HE2.out], by rw [HE1.out], by rw [HE1.out]; exact HOK.out, by rw [HE1.out]; simp only; omega, by rw [HE1.out]; exact HO.out, by rw [HE1.out]; exact HC.out, HB.out⟩
end Go.Proofs.Ytgjgjgihceijnaa

/- states: part: a walk. -/
namespace Go.Stn
theorem getD_lt {l : List Nat} {n : Nat} (h : ∀ x ∈ l, x < n) {i : Nat} (hi : i < l.length) : l.getD i 0 < n := by
  rw [List.getD_eq_getElem?_getD, List.getElem?_eq_getElem hi]
  exact h _ (List.getElem_mem hi)
theorem firstP_step {q : Nat → Nat → Bool} {l : List Nat} {s f d : Nat} (hd : f + (d + 1) = l.length) : firstP q l s (d + 1) = if q (l.getD f 0) s = true then f else firstP q l s d := by
  rw [firstP, show l.length - (d + 1) = f by omega]
end Go.Stn
namespace Go.Proofs.Ytgjgjgihceijnaa
open Go.RowKit Go.Stn

theorem ownsRow_base0 {w : World} {base base' : Nat} {e : TypeId} {size : Nat} {g n cap : Nat} {xs : List Value} (h : w.ownsRow base e size (.slice (some ⟨g, 0, none⟩) n cap) n xs) (hb : base' ≤ g) : w.ownsRow base' e size (.slice (some ⟨g, 0, none⟩) n cap) n xs := by
  refine ⟨h.1, ?_⟩
  rcases h.2 with hn | ⟨g', cap', cur, hv, hbg, rest⟩
  · exact .inl hn
  · cases hv
    exact .inr ⟨g, cap, cur, rfl, hb, rest⟩

/-- What part comes to: two lists. -/
def PartOut (w : World) (a b : List Nat) (e : Ending) (w' : World) : Prop :=
  ∃ g1 c1 g2 c2, e = .returned (.tuple #[.slice (some ⟨g1, 0, none⟩) a.length c1, .slice (some ⟨g2, 0, none⟩) b.length c2]) ∧ NIn w' g1 a.length (listF a) ∧ NIn w' g2 b.length (listF b) ∧ g1 < w'.heap.size ∧ g2 < w'.heap.size ∧ w.heap.size ≤ g1 ∧ w.heap.size ≤ g2 ∧ Below w.heap.size w w'

set_option maxRecDepth 100000 in
set_option maxHeartbeats 1000000 in
theorem spart_any (pt : Nat → Int) (g n cap K pg pcap : Nat) (zb tk : Nat → Nat) (nx : Nat → Nat → Int) (w : World) (hn : n ≤ 2000) (hK : K ≤ 300)
    (hr : ∀ i k, i < n → k < K → nx i k = -1 ∨ (0 ≤ nx i k ∧ nx i k < n)) (hS : SIn w w.heap.size g n K zb tk nx) (hP : NIn w pg n pt) (hpg : pg < w.heap.size) :
    Calls Try.prog 95 #[.slice (some ⟨g, 0, none⟩) n cap, .slice (some ⟨pg, 0, none⟩) n pcap] w fun e w' => PartOut w (partP n (alikeB pt tk nx K)).1 (partP n (alikeB pt tk nx K)).2 e w' := by
  obtain ⟨i0, hi0, hz0, hz1, hz2⟩ := info_parts Try.infoInt
  have HI : Hid (Try.prog.info? 3 = some i0 ∧ i0.zero = some (.int .i64 0) ∧ i0.size = 1 ∧ i0.bytes = 8) := ⟨hi0, hz0, hz1, hz2⟩
  clear hi0 hz0 hz1 hz2
  have HS := hidZ hS
  have HP := hidZ hP
  have HR := hidZ hr
  clear hS hP hr
  go_enter Try.func95, Try.ntmps95
  go_wp2_with (first | (at_make; refine wpList_make_own w rfl _ _ 30 rfl w.heap.size 3 i0 (.int .i64 0) 1 Try.underlying30 HI.out.1 HI.out.2.1 HI.out.2.2.1 .i64 .i64 _ n rfl rfl rfl (by rw [HI.out.2.2.2]; omega) (by unfold maxLen; omega) (Nat.le_refl _) ?_; intro w1 hown1 hg1))
  obtain ⟨Q, EQ⟩ : ∃ Q, alikeB pt tk nx K = Q := ⟨_, rfl⟩
  replace EQ := hidZ EQ
  have HB1 : Hid (Below w.heap.size w w1) := ⟨hg1.os, hg1.tape, hg1.output, hg1.size, fun k hk => hg1.block k hk (by simp)⟩
  have hz1 : w.heap.size < w1.heap.size := by have := (hown1.lt w.heap.size rfl).2; omega
  have HO1 := hidZ (hown1.alloc (.cells #[] 3))
  have HB2 := hidZ (HB1.out.alloc (Nat.le_of_lt hz1) (.cells #[] 3))
  have HE2 : Hid ((w1.alloc (.cells #[] 3)).ownsRow (w.heap.size + 1) 3 1 (.slice (some ⟨w1.heap.size, 0, none⟩) 0 0) 0 []) := ownsRow_base0 (owns_empty w1 3) hz1
  clear hown1 hg1 HB1
  generalize w1.alloc (.cells #[] 3) = w2 at *
  generalize w1.heap.size = g20 at *
  go_loopg [6, 7, 16] n (fun gk fv sv iv wr => ∃ (fin firsts : List Nat) (s g2 c2 : Nat), fv = .slice (some ⟨w.heap.size, 0, none⟩) fin.length n ∧ sv = .slice (some ⟨g2, 0, none⟩) firsts.length c2 ∧ iv = .int .i64 (s : Int) ∧ s + gk = n ∧ fin.length = s ∧ firsts.length ≤ 100 ∧
    (∀ x ∈ firsts, x < s) ∧ partP n Q = partL Q gk s fin firsts ∧ wr.ownsRow w.heap.size 3 1 (.slice (some ⟨w.heap.size, 0, none⟩) fin.length n) fin.length (natC fin) ∧
    wr.ownsRow (w.heap.size + 1) 3 1 (.slice (some ⟨g2, 0, none⟩) firsts.length c2) firsts.length (natC firsts) ∧ Below w.heap.size w wr)
  case atStart => exact ⟨[], [], 0, g20, 0, rfl, rfl, rfl, by omega, rfl, by simp, fun x hx => absurd hx (List.not_mem_nil), rfl, HO1.out, HE2.out, HB2.out⟩
  case round =>
    obtain ⟨fin, firsts, s, g2, c2, rfl, rfl, rfl, hsg, hfl, hf100, hlt, heq, ho1, ho2, hb⟩ := hrel
    have HQ := hidZ heq
    have HO1' := hidZ ho1
    have HO2' := hidZ ho2
    have HB := hidZ hb
    have HLT := hidZ hlt
    have HFL := hidZ hfl
    clear heq ho1 ho2 hb hlt hfl HO1 HE2 HB2
    have hzr : w.heap.size < wr.heap.size := (HO1'.out.lt _ rfl).2
    by_cases hsn : s < n
    · obtain ⟨d, rfl⟩ : ∃ d, gk = d + 1 := ⟨gk - 1, by omega⟩
      have hd1 : decide ((s : Int) < (n : Int)) = true := by simp; omega
      have HSr := hidZ (HS.out.below HB.out (Nat.le_refl _))
      have HPr := hidZ (HP.out.below HB.out hpg)
      have HNr := hidZ (NIn.of_row HO2'.out)
      go_upto_block 2 with fail
      go_cut [9] from 17 to 51 (fun fv wc => ∃ q, fv = .int .i64 ((firstP Q firsts s firsts.length : Nat) : Int) ∧ wc = wr.drewN q)
      case first =>
        go_wp2_with fail
        go_loopg [9] firsts.length (fun gj fv wj => ∃ (f q : Nat), fv = .int .i64 (f : Int) ∧ f + gj = firsts.length ∧ wj = wr.drewN q ∧ firstP Q firsts s firsts.length = firstP Q firsts s gj)
        case atStart => exact ⟨0, 0, rfl, by omega, rfl, rfl⟩
        case round =>
          obtain ⟨f, q, rfl, hfj, rfl, hfp⟩ := hrel
          have HFP := hidZ hfp
          clear hfp
          by_cases hff : f < firsts.length
          · obtain ⟨j, rfl⟩ : ∃ j, gk = j + 1 := ⟨gk - 1, by omega⟩
            have c1 := HNr.out f hff
            have hxs := getD_lt HLT.out hff
            have HL : Hid (listF firsts f = ((firsts.getD f 0 : Nat) : Int)) := rfl
            rw [HL.out] at c1
            have hst := @firstP_step Q firsts s f j hfj
            generalize firsts.getD f 0 = x at *
            have hcl := salike_any pt g n cap K w.heap.size pg pcap zb tk nx x s (wr.drewN q) (by omega) hsn hK HR.out (HSr.out.drewN q) HPr.out
            rw [EQ.out] at hcl
            have hd2 : decide ((f : Int) < (firsts.length : Int)) = true := by simp; omega
            have hfI : (0 : Int) ≤ (f : Int) ∧ (f : Int) < (firsts.length : Int) := by omega
            cases hq : Q x s with
            | true =>
              rw [hq] at hcl hst
              rw [if_pos rfl] at hst
              have HE : Hid (firstP Q firsts s firsts.length = f) := HFP.out.trans hst
              clear hst hq
              go_wp2_with fail
              refine hcl.mono ?_
              rintro e w3 ⟨rfl, q', rfl⟩
              go_wp2
              go_meet
              case rel => exact ⟨q + q', by rw [HE.out], rfl⟩
            | false =>
              rw [hq] at hcl hst
              rw [if_neg (by decide)] at hst
              have HE : Hid (firstP Q firsts s firsts.length = firstP Q firsts s j) := HFP.out.trans hst
              clear hst hq
              go_wp2_with fail
              refine hcl.mono ?_
              rintro e w3 ⟨rfl, q', rfl⟩
              go_wp2
              go_roundg j
              case measure => omega
              case rel => exact ⟨f + 1, q + q', by go_num, by omega, rfl, HE.out⟩
          · have e : gk = 0 := by omega
            subst e
            have hd2 : decide ((f : Int) < (firsts.length : Int)) = false := by simp; omega
            have HE : Hid (firstP Q firsts s firsts.length = f) := HFP.out.trans (by rw [firstP]; omega)
            go_wp2
            go_meet
            case rel => exact ⟨q, by rw [HE.out], rfl⟩
      case rest =>
        obtain ⟨q, rfl, rfl⟩ := hcut
        have HO1q : Hid ((wr.drewN q).ownsRow w.heap.size 3 1 (.slice (some ⟨w.heap.size, 0, none⟩) fin.length n) fin.length (natC fin)) := HO1'.out
        have HO2q : Hid ((wr.drewN q).ownsRow (w.heap.size + 1) 3 1 (.slice (some ⟨g2, 0, none⟩) firsts.length c2) firsts.length (natC firsts)) := HO2'.out
        have HBq : Hid (Below w.heap.size w (wr.drewN q)) := ⟨HB.out.os, HB.out.tape, HB.out.output, HB.out.size, HB.out.block⟩
        have hzq : w.heap.size < (wr.drewN q).heap.size := hzr
        have hst : partL Q (d + 1) s fin firsts = if firstP Q firsts s firsts.length = firsts.length then
          (if 100 < firsts.length + 1 then (fin, firsts ++ [s]) else partL Q d (s + 1) (fin ++ [firsts.length]) (firsts ++ [s])) else partL Q d (s + 1) (fin ++ [firstP Q firsts s firsts.length]) firsts := rfl
        have hfle := firstP_le Q firsts s firsts.length
        clear HO1' HO2' HB HSr HPr HNr
        generalize wr.drewN q = wq at *
        generalize firstP Q firsts s firsts.length = fp at *
        by_cases hfe : fp = firsts.length
        · rw [if_pos hfe] at hst
          have hd2 : ((fp : Int) == (firsts.length : Int)) = true := by rw [hfe]; simp
          have hgb := (HO2q.out.lt g2 rfl).1
          by_cases h100 : 100 < firsts.length + 1
          · rw [if_pos h100] at hst
            have HE : Hid (partP n Q = (fin, firsts ++ [s])) := HQ.out.trans hst
            have hd3 : decide ((100 : Int) < ((firsts.length + 1 : Nat) : Int)) = true := by simp; omega
            have hd3' : decide ((100 : Int) < (firsts.length : Int) + 1) = true := by simp; omega
            clear hst hfe
            go_wp2_with (first | (at_builtin; refine wpList_app1 wq rfl (.tmp 40) (.tmp 42) 30 rfl (w.heap.size + 1) 3 (.int .i64 0) 1 8 Try.underlying30 Try.infoInt rfl (by decide) (by decide) (.slice (some ⟨g2, 0, none⟩) firsts.length c2) firsts.length (natC firsts) [.int .i64 (s : Int)] _ rfl HO2q.out _ rfl rfl rfl (by simp [Value.oneCell']) (by omega) (by omega) ?_; intro g4 cap4 w4 hown4 hgrow4 hat4 hlt4; have HK4 := hidZ ((HO1q.out.alloc _).kept hgrow4 (.inr (fun e => absurd (show w.heap.size = g2 by simpa [Value.ownBlock] using e) (by omega)))); have HB4 : Hid (Below w.heap.size w w4) := (HBq.out.alloc (Nat.le_of_lt hzq) _).grown hgrow4 (Nat.le_trans (Nat.le_of_lt hzq) (by simp)) (fun k hk => Nat.le_trans (Nat.le_succ _) (HO2q.out.lt k hk).1); have HO4 := hidZ hown4; clear hown4 hgrow4 hat4))
            go_ret2
            refine ⟨w.heap.size, n, g4, cap4, ?_, ?_, ?_, ?_, hlt4, Nat.le_refl _, ?_, HB4.out⟩
            · rw [EQ.out, HE.out]; simp
            · rw [EQ.out, HE.out]; exact NIn.of_row HK4.out
            · rw [EQ.out, HE.out]
              refine NIn.of_row (base := w.heap.size + 1) (e := 3) (cap := cap4) ?_
              rw [natC_snoc, List.length_append]; exact HO4.out
            · exact (HK4.out.lt _ rfl).2
            · have := (HO4.out.lt g4 rfl).1; omega
          · rw [if_neg h100] at hst
            have HE : Hid (partP n Q = partL Q d (s + 1) (fin ++ [fp]) (firsts ++ [s])) := by unfold Hid; rw [hfe]; exact HQ.out.trans hst
            have hd3 : decide ((100 : Int) < ((firsts.length + 1 : Nat) : Int)) = false := by simp; omega
            have hd3' : decide ((100 : Int) < (firsts.length : Int) + 1) = false := by simp; omega
            clear hst hfe
            go_wp2_with (first | (at_builtin; refine wpList_app1 wq rfl (.tmp 40) (.tmp 42) 30 rfl (w.heap.size + 1) 3 (.int .i64 0) 1 8 Try.underlying30 Try.infoInt rfl (by decide) (by decide) (.slice (some ⟨g2, 0, none⟩) firsts.length c2) firsts.length (natC firsts) [.int .i64 (s : Int)] _ rfl HO2q.out _ rfl rfl rfl (by simp [Value.oneCell']) (by omega) (by omega) ?_; intro g4 cap4 w4 hown4 hgrow4 hat4 hlt4; have HK4 := hidZ ((HO1q.out.alloc _).kept hgrow4 (.inr (fun e => absurd (show w.heap.size = g2 by simpa [Value.ownBlock] using e) (by omega)))); have HB4 : Hid (Below w.heap.size w w4) := (HBq.out.alloc (Nat.le_of_lt hzq) _).grown hgrow4 (Nat.le_trans (Nat.le_of_lt hzq) (by simp)) (fun k hk => Nat.le_trans (Nat.le_succ _) (HO2q.out.lt k hk).1); have HO4 := hidZ hown4; clear hown4 hgrow4 hat4) | (at_builtin; refine wpList_fits1 w4 rfl (.tmp 47) (.tmp 49) 30 rfl w.heap.size 3 (.int .i64 0) 1 8 Try.underlying30 Try.infoInt w.heap.size fin.length n (natC fin) [.int .i64 (fp : Int)] _ rfl HK4.out _ rfl rfl rfl (by simp [Value.oneCell']) (by have := HFL.out; omega) ?_; intro w6 hown6 hgrow6))
            go_roundg d
            case measure => omega
            case rel =>
              have hz4 := (HK4.out.lt _ rfl).2
              refine ⟨fin ++ [fp], firsts ++ [s], s + 1, g4, cap4, by simp, by simp, by go_num, by omega, by have := HFL.out; simp; omega, by simp; omega, fun x hx => ?_, HE.out, by rw [natC_snoc, List.length_append]; exact hown6, ?_, ?_⟩
              · rcases List.mem_append.1 hx with h | h
                · have := HLT.out x h; omega
                · rw [List.mem_singleton] at h; omega
              · rw [natC_snoc, List.length_append]
                exact (HO4.out.alloc _).kept hgrow6 (.inr (by have := (HO4.out.lt g4 rfl).1; simp [Value.ownBlock]; omega))
              · exact (HB4.out.alloc (Nat.le_of_lt hz4) _).grown hgrow6 (Nat.le_trans (Nat.le_of_lt hz4) (by simp)) (fun k hk => by injection hk; omega)
        · rw [if_neg hfe] at hst
          have HE : Hid (partP n Q = partL Q d (s + 1) (fin ++ [fp]) firsts) := HQ.out.trans hst
          have hd2 : ((fp : Int) == (firsts.length : Int)) = false := by rw [beq_eq_false_iff_ne]; omega
          have hd3 : decide ((100 : Int) < (firsts.length : Int)) = false := by simp; omega
          clear hst hfe
          go_wp2_with (first | (at_builtin; refine wpList_fits1 wq rfl (.tmp 47) (.tmp 49) 30 rfl w.heap.size 3 (.int .i64 0) 1 8 Try.underlying30 Try.infoInt w.heap.size fin.length n (natC fin) [.int .i64 (fp : Int)] _ rfl HO1q.out _ rfl rfl rfl (by simp [Value.oneCell']) (by have := HFL.out; omega) ?_; intro w6 hown6 hgrow6))
          go_roundg d
          case measure => omega
          case rel =>
            refine ⟨fin ++ [fp], firsts, s + 1, g2, c2, by simp, rfl, by go_num, by omega, by have := HFL.out; simp; omega, hf100, fun x hx => by have := HLT.out x hx; omega, HE.out, by rw [natC_snoc, List.length_append]; exact hown6, ?_, ?_⟩
            · exact (HO2q.out.alloc _).kept hgrow6 (.inr (by have := (HO2q.out.lt g2 rfl).1; simp [Value.ownBlock]; omega))
            · exact (HBq.out.alloc (Nat.le_of_lt hzq) _).grown hgrow6 (Nat.le_trans (Nat.le_of_lt hzq) (by simp)) (fun k hk => by injection hk; omega)
    · have e : gk = 0 := by omega
      subst e
      have hd1 : decide ((s : Int) < (n : Int)) = false := by simp; omega
      have HE : Hid (partP n Q = (fin, firsts)) := HQ.out
      go_wp2
      go_ret2
      refine ⟨w.heap.size, n, g2, c2, ?_, ?_, ?_, ?_, ?_, Nat.le_refl _, ?_, HB.out⟩
      · rw [EQ.out, HE.out]; rfl
      · rw [EQ.out, HE.out]; exact NIn.of_row HO1'.out
      · rw [EQ.out, HE.out]; exact NIn.of_row HO2'.out
      · exact hzr
      · exact (HO2'.out.lt _ rfl).2
      · have := (HO2'.out.lt g2 rfl).1; omega
end Go.Proofs.Ytgjgjgihceijnaa

/- states: gather: a walk. -/
namespace Go.Proofs.Ytgjgjgihceijnaa
open Go.RowKit Go.Stn

/-- A list of states, just made. -/
def StatesOut (w : World) (K : Nat) (l : List (Nat × List Int)) (e : Ending) (w' : World) : Prop :=
  ∃ (B : Nat) (zs : List ((Nat × List Int) × Nat)), w.heap.size ≤ B ∧ e = .returned (.slice (some ⟨B, 0, none⟩) zs.length zs.length) ∧ zs.map (·.1) = l ∧
      w'.ownsRow B 153 2 (.slice (some ⟨B, 0, none⟩) zs.length zs.length) zs.length (stC K zs) ∧ StRows w' (B + 1) zs ∧ Below w.heap.size w w'

set_option maxRecDepth 100000 in
set_option maxHeartbeats 1000000 in
theorem sgather_any (fin firsts : List Nat) (g n cap K pg pcap fg fcap : Nat) (zb tk : Nat → Nat) (nx : Nat → Nat → Int) (w : World) (hK : K ≤ 300) (hf : firsts.length ≤ 100) (hfn : ∀ x ∈ firsts, x < n)
    (hr : ∀ i k, i < n → k < K → nx i k = -1 ∨ (0 ≤ nx i k ∧ nx i k < n)) (hS : SIn w w.heap.size g n K zb tk nx) (hP : NIn w pg n (listF fin)) (hpg : pg < w.heap.size) (hF : NIn w fg firsts.length (listF firsts)) (hfg : fg < w.heap.size) :
    Calls Try.prog 96 #[.slice (some ⟨g, 0, none⟩) n cap, .slice (some ⟨pg, 0, none⟩) n pcap, .slice (some ⟨fg, 0, none⟩) firsts.length fcap] w fun e w' => StatesOut w K (gatherP tk nx K fin firsts) e w' := by
  obtain ⟨i0, hi0, hz0, hz1, hz2⟩ := info_parts Try.infoInt
  have HI : Hid (Try.prog.info? 3 = some i0 ∧ i0.zero = some (.int .i64 0) ∧ i0.size = 1 ∧ i0.bytes = 8) := ⟨hi0, hz0, hz1, hz2⟩
  clear hi0 hz0 hz1 hz2
  obtain ⟨i1, hi0, hz0, hz1, hz2⟩ := info_parts Try.infoState
  have HI1 : Hid (Try.prog.info? 153 = some i1 ∧ i1.zero = some (.agg #[.int .i64 0, .slice none 0 0]) ∧ i1.size = 2 ∧ i1.bytes = 32) := ⟨hi0, hz0, hz1, hz2⟩
  clear hi0 hz0 hz1 hz2
  have HS := hidZ hS
  have HP := hidZ hP
  have HR := hidZ hr
  have HF := hidZ hF
  have HFN := hidZ hfn
  clear hS hP hr hF hfn
  obtain ⟨m, hm⟩ : ∃ m, firsts.length = m := ⟨_, rfl⟩
  rw [hm] at hf ⊢
  replace hm := hidZ hm
  go_enter Try.func96, Try.ntmps96
  go_wp2_with (first | (at_make; refine wpList_make_own w rfl _ _ 143 rfl w.heap.size 153 i1 _ 2 Try.underlying143 HI1.out.1 HI1.out.2.1 HI1.out.2.2.1 .i64 .i64 _ m rfl rfl rfl (by rw [HI1.out.2.2.2]; omega) (by unfold maxLen; omega) (Nat.le_refl _) ?_; intro w2 hown hg))
  have HB2 : Hid (Below w.heap.size w w2) := ⟨hg.os, hg.tape, hg.output, hg.size, fun k hk => hg.block k hk (by simp)⟩
  have HO2 := hidZ hown
  clear hown hg
  obtain ⟨B, hBw⟩ : ∃ B, w.heap.size = B := ⟨_, rfl⟩
  rw [hBw] at HB2 HO2 hpg hfg HS ⊢
  go_loopg [7, 19] m (fun gk x iv wr => ∃ (zs : List ((Nat × List Int) × Nat)) (k : Nat), x = .slice (some ⟨B, 0, none⟩) k m ∧ iv = .int .i64 (k : Int) ∧ zs.length = k ∧ k + gk = m ∧ zs.map (·.1) = gatherP tk nx K fin (firsts.take k) ∧
    wr.ownsRow B 153 2 (.slice (some ⟨B, 0, none⟩) k m) k (stC K zs) ∧ StRows wr (B + 1) zs ∧ Below B w wr)
  case atStart => exact ⟨[], 0, rfl, rfl, rfl, by omega, by simp [gatherP], HO2.out, StRows.nil _ _, HB2.out⟩
  case round =>
    obtain ⟨zs, k, rfl, rfl, hzl, hkm, heq, hown, hrow, hb⟩ := hrel
    have HQ := hidZ heq
    have HO := hidZ hown
    have HW := hidZ hrow
    have HB := hidZ hb
    have HX := hidZ hzl
    have hsz : B < wr.heap.size := (hown.lt B rfl).2
    clear heq hown hb hzl hrow HO2 HB2
    by_cases hlt : k < m
    · obtain ⟨g', rfl⟩ : ∃ g', gk = g' + 1 := ⟨gk - 1, by omega⟩
      have hkf : k < firsts.length := by rw [hm.out]; exact hlt
      have c1 := (HF.out.below HB.out hfg) k hkf
      have hsn := getD_lt HFN.out hkf
      have HTK : Hid (gatherP tk nx K fin (firsts.take (k + 1)) = gatherP tk nx K fin (firsts.take k) ++ [(tk (firsts.getD k 0), (List.range K).map fun g => prtP (listF fin) (nx (firsts.getD k 0) g))]) := by
        unfold Hid gatherP
        rw [List.take_add_one, List.getElem?_eq_getElem hkf, List.map_append, List.getD_eq_getElem?_getD, List.getElem?_eq_getElem hkf]; rfl
      have HL : Hid (listF firsts k = ((firsts.getD k 0 : Nat) : Int)) := rfl
      rw [HL.out] at c1
      generalize firsts.getD k 0 = s at *
      have HSr := hidZ (HS.out.below HB.out (by omega))
      have HPr := hidZ (HP.out.below HB.out hpg)
      have c2 := HSr.out.nxc s hsn
      have hd1 : decide ((k : Int) < (m : Int)) = true := by simp; omega
      have hkI : (0 : Int) ≤ (k : Int) ∧ (k : Int) < (m : Int) := by omega
      have hsI : (0 : Int) ≤ (s : Int) ∧ (s : Int) < (n : Int) := by omega
      have hgw : g < wr.heap.size := by have := HSr.out.bg; omega
      clear hkf
      go_wp2_with (first | (at_make; refine wpList_make_own wr rfl _ _ 30 rfl wr.heap.size 3 i0 (.int .i64 0) 1 Try.underlying30 HI.out.1 HI.out.2.1 HI.out.2.2.1 .i64 .i64 _ K rfl rfl rfl (by rw [HI.out.2.2.2]; omega) (by unfold maxLen; omega) (Nat.le_refl _) ?_; intro w4 hown4 hg4; have HB4 : Hid (Below wr.heap.size wr w4) := (⟨hg4.os, hg4.tape, hg4.output, hg4.size, fun k hk => hg4.block k hk (by simp)⟩ : Below wr.heap.size wr w4); have c3 := (HB4.out.cell (p := ⟨g, s * 2 + 1, none⟩) hgw).trans c2; clear c1 c2))
      have HO4 := hidZ hown4
      have HS4 := hidZ (HSr.out.below HB4.out (by omega))
      have HP4 := hidZ (HPr.out.below HB4.out (by omega))
      clear hown4 hg4
      obtain ⟨C, hC⟩ : ∃ C, wr.heap.size = C := ⟨_, rfl⟩
      rw [hC] at HB4 HO4 hsz ⊢
      clear c3
      go_loopg [10, 36] K (fun gj x iv wj => ∃ (xs : List Int) (j : Nat), x = .slice (some ⟨C, 0, none⟩) j K ∧ iv = .int .i64 (j : Int) ∧ j + gj = K ∧ xs = (List.range j).map (fun g => prtP (listF fin) (nx s g)) ∧
        wj.ownsRow C 3 1 (.slice (some ⟨C, 0, none⟩) j K) j (intC xs) ∧ Below C wr wj)
      case atStart => exact ⟨[], 0, rfl, rfl, by omega, rfl, HO4.out, HB4.out⟩
      case round =>
        obtain ⟨xs, j, rfl, rfl, hjk, hxs, hown, hb⟩ := hrel
        have HXS := hidZ hxs
        have HOJ := hidZ hown
        have HBJ := hidZ hb
        have HXS := hidZ hxs
        have HOJ := hidZ hown
        have HBJ := hidZ hb
        have hszj : C < wr.heap.size := (hown.lt C rfl).2
        have HSj := hidZ (HSr.out.below hb (by omega))
        have HPj := hidZ (HPr.out.below hb (by omega))
        clear hxs hown hb HO4 HB4
        by_cases hltj : j < K
        · obtain ⟨j', rfl⟩ : ∃ j', gk = j' + 1 := ⟨gk - 1, by omega⟩
          have c5 := HSj.out.ldc s j hsn hltj
          have hc := spartOf_any (listF fin) pg n pcap (nx s j) wr (HR.out s j hsn hltj) HPj.out
          have HXN : Hid ((List.range (j + 1)).map (fun g => prtP (listF fin) (nx s g)) = xs ++ [prtP (listF fin) (nx s j)]) := by unfold Hid; rw [List.range_succ, List.map_append, HXS.out]; rfl
          generalize nx s j = x1 at *
          generalize prtP (listF fin) x1 = y at *
          have hdj : decide ((j : Int) < (K : Int)) = true := by simp; omega
          have hjI : (0 : Int) ≤ (j : Int) ∧ (j : Int) < (K : Int) := by omega
          go_wp2_with fail
          refine hc.mono ?_
          rintro e w5 ⟨rfl, rfl⟩
          go_wp2_with (first | (at_builtin; refine wpList_fits1 w5 rfl _ _ 30 rfl C 3 (.int .i64 0) 1 8 Try.underlying30 Try.infoInt C j K (intC xs) [.int .i64 y] _ rfl HOJ.out _ rfl rfl rfl (by simp [Value.oneCell']) (by omega) ?_; intro w6 hown6 hgrow6))
          go_roundg j'
          case measure => omega
          case rel =>
            exact ⟨xs ++ [y], j + 1, rfl, by go_num, by omega, HXN.out.symm, by rw [intC_snoc]; exact hown6, (HBJ.out.alloc (Nat.le_of_lt hszj) _).grown hgrow6 (Nat.le_trans (Nat.le_of_lt hszj) (by simp)) (fun q hq => by injection hq; omega)⟩
        · have e : j = K := by omega
          subst e
          have e2 : gk = 0 := by omega
          subst e2
          have hdj : decide ((j : Int) < (j : Int)) = false := by simp
          have c5 := HSj.out.tkc s hsn
          have HOB : Hid (wr.ownsRow B 153 2 (.slice (some ⟨B, 0, none⟩) k m) k (stC j zs)) := hidZ (row_top HO.out (fun q hq => HBJ.out.block q (by simp [Value.ownBlock] at hq; omega)))
          have HWB : Hid (StRows wr (B + 1) zs) := HW.out.below HBJ.out (by omega)
          have HBB : Hid (Below B w wr) := HB.out.trans (HBJ.out.mono (by omega))
          have HRW := hidZ (row_range HOJ.out)
          generalize tk s = tks at *
          go_wp2_with (first | (at_builtin; refine wpList_fits1 wr rfl _ _ 143 rfl B 153 (.agg #[.int .i64 0, .slice none 0 0]) 2 32 Try.underlying143 Try.infoState B k m (stC j zs) [.int .i64 (tks : Int), .slice (some ⟨C, 0, none⟩) j j] _ rfl HOB.out _ rfl rfl rfl (by simp [Value.oneCell']) (by omega) ?_; intro w6 hown6 hgrow6))
          go_roundg g'
          case measure => omega
          case rel =>
            have hsz7 := hgrow6.size
            simp at hsz7
            refine ⟨zs ++ [((tks, xs), C)], k + 1, rfl, by go_num, by simp [HX.out], by omega, ?_, by rw [stC_snoc]; exact hown6, ?_, ?_⟩
            · rw [List.map_append, HTK.out, HQ.out, ← HXS.out]; rfl
            · refine ((HWB.out.grown (grown_alloc2 (World.grownBy.refl _ (some B)) _) (by omega)).snoc ⟨by omega, by simp; omega, ?_⟩).grown hgrow6 (by omega)
              exact rangeAt_block HRW.out (Below.heap_alloc wr _ C hszj)
            · exact (HBB.out.alloc (by omega) _).grown hgrow6 (Nat.le_trans (Nat.le_of_lt (show B < wr.heap.size by omega)) (by simp)) (fun q hq => by injection hq; omega)
    · have e : k = m := by omega
      subst e
      have hd1 : decide ((k : Int) < (k : Int)) = false := by simp
      go_wp2
      go_ret
      have hx := HX.out
      subst hx
      refine ⟨B, zs, by rw [hBw]; exact Nat.le_refl _, rfl, ?_, HO.out, HW.out, by rw [hBw]; exact HB.out⟩
      rw [HQ.out, ← hm.out, List.take_length]
end Go.Proofs.Ytgjgjgihceijnaa

