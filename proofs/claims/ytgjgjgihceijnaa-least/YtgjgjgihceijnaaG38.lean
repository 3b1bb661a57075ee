/- Texts put together: KpLeast. -/
import Derived.Test.YtgjgjgihceijnaaG37
import Derived.Test.YtgjgjgihceijnaaG26
import Derived.Test.YtgjgjgihceijnaaG24
import Derived.Test.YtgjgjgihceijnaaG25
import Derived.Test.YtgjgjgihceijnaaG27
import Derived.Test.YtgjgjgihceijnaaG35
/- stencilkeep.Least: a walk. -/
namespace Go.Proofs.Ytgjgjgihceijnaa
open Go.RowKit Go.Stn

set_option maxRecDepth 100000 in
set_option maxHeartbeats 2000000 in
theorem least_no (t : ByteArray) (x : Int) (w : World) (hc : compP t = ([], x)) (hx : (x != 0) = true) :
    Calls Try.prog 5 #[.string t] w fun e w' => e = .returned (.bool true) ∧ Below w.heap.size w w' := by
  have hcp := fun w => comp_any t w
  rw [hc] at hcp
  clear hc
  go_enter Try.func5, Try.ntmps5
  go_wp2_with fail
  refine (kex_any _).mono ?_
  rintro e w1 ⟨rfl, hb1⟩
  have HB1 := hidZ hb1
  clear hb1
  go_wp2_with fail
  refine (hcp _).mono ?_
  rintro e w2 ⟨rfl, hb2⟩
  have HB2 := hidZ (HB1.out.trans (hb2.mono HB1.out.size))
  clear hb2 HB1 hcp
  go_wp2
  go_ret
  exact ⟨by simp, HB2.out⟩

set_option maxRecDepth 100000 in
set_option maxHeartbeats 2000000 in
theorem least_yes (t S : ByteArray) (l : List RuleX) (w : World) (hc : compP t = (S.data.toList, 0)) (hf : ImgFile l S) :
    Calls Try.prog 5 #[.string t] w fun e w' => e = .returned (.bool true) ∧ Below w.heap.size w w' := by
  have hcp := fun w => comp_any t w
  rw [hc] at hcp
  have hSS : (⟨S.data.toList.toArray⟩ : ByteArray) = S := by simp
  simp only [hSS] at hcp
  clear hc hSS
  have hi := hf.ok
  have hs := hf.sz
  have hck := fun w => pcheck_any S w (by unfold maxLen; omega)
  have hck0 : chk S = 0 := chk_yes hs hi
  rw [hck0] at hck
  clear hck0
  have hwh := fun w => kwhole_any S w hi hs
  have hrd := fun w => kread_any S w hi hs
  have hhd := img_head hi
  have hM4 : iM S ≤ 4 := hhd.2.2.2.1
  have hM1 : 1 ≤ iM S := hhd.2.2.1
  have hKl := iK_le S
  obtain ⟨fb, fb1, fb2, fb3⟩ := hf.cl
  have hlead : ∀ c p k, c < iM S → p < nSt S c → k < iK S → leadC S c p k < nSt S c ∨ leadC S c p k = 255 := fun c p k h1 h2 h3 => by
    have := lead_lt hi h1 h2 (fb1 k h3).1
    unfold leadN at this
    rw [(fb1 k h3).2] at this
    exact this
  have hcls : ∀ b, b < 256 → clsN S b < iK S := fun b hb => cls_lt hi b hb
  have hmk : ∀ c p, c < iM S → p < nSt S c → markN S c p ≤ 8 := fun c p h1 h2 => Nat.le_trans (mark_le hi h1 h2) hhd.1
  have hns : ∀ c, c < iM S → nSt S c ≤ 100 ∧ 1 ≤ nSt S c := fun c h1 => nSt_le hi h1
  have hcan : ∀ c, c < iM S → Canon (nSt S c) 256 (markN S c) (fun p b => leadI (leadC S c p (clsN S b))) := fun c h1 => hf.cn c (by rw [← hf.fm]; exact h1)
  have hm0 : ∀ c, c < iM S → markN S c 0 = 0 := fun c h1 => hf.z c (by rw [← hf.fm]; exact h1)
  have hapr : ∀ c, c < iM S → ∀ p q, p < nSt S c → q < nSt S c → p ≠ q → ¬ Eqv (markN S c) (fun p j => leadI (leadC S c p j)) (iK S) (nSt S c + 1) p q := fun c h1 p q hp hq hne he => by
    obtain ⟨r, hr, hno⟩ := hf.apr c (by rw [← hf.fm]; exact h1)
    exact hno p q hp hq hne (Eqv.less (by omega) he)
  have hca : ∀ j j', j < iK S → j' < iK S → j ≠ j' → ∃ c p, c < iM S ∧ p < nSt S c ∧ leadC S c p j ≠ leadC S c p j' := fun j j' h1 h2 h3 => by
    obtain ⟨c, p, h4, h5, h6⟩ := hf.ca j j' h1 h2 h3
    exact ⟨c, p, by rw [hf.fm]; exact h4, h5, h6⟩
  have hle : ∀ c p k, c < iM S → p < nSt S c → k < iK S → leadC S c p k ≤ 255 := fun c p k h1 h2 h3 => by
    have := hlead c p k h1 h2 h3
    have := (hns c h1).1
    omega
  replace hlead := hidZ hlead
  replace hcls := hidZ hcls
  replace hmk := hidZ hmk
  replace hns := hidZ hns
  replace hcan := hidZ hcan
  replace hm0 := hidZ hm0
  replace hapr := hidZ hapr
  replace hca := hidZ hca
  replace hle := hidZ hle
  replace fb1 := hidZ fb1
  replace fb2 := hidZ fb2
  replace fb3 := hidZ fb3
  clear hf hi hs hhd
  unfold ReadOut at hrd
  generalize leadC S = tc at *
  generalize markN S = mk at *
  generalize nSt S = ns at *
  generalize clsN S = cls at *
  generalize iK S = K at *
  generalize iM S = m at *
  replace hck := hidZ hck
  replace hwh := hidZ hwh
  replace hrd := hidZ hrd
  replace hcp := hidZ hcp
  go_enter Try.func5, Try.ntmps5
  go_wp2_with fail
  refine (kex_any _).mono ?_
  rintro e w1 ⟨rfl, hb1⟩
  have HB1 := hidZ hb1
  clear hb1
  go_wp2_with fail
  refine (hcp.out _).mono ?_
  rintro e w2 ⟨rfl, hb2⟩
  have HB2 := hidZ (HB1.out.trans (hb2.mono HB1.out.size))
  clear hb2 HB1 hcp
  go_wp2_with fail
  refine (hck.out _).mono ?_
  rintro e w3 ⟨rfl, hb3⟩
  have HB3 := hidZ (HB2.out.trans (hb3.mono HB2.out.size))
  clear hb3 HB2 hck
  go_wp2_with fail
  refine (hwh.out _).mono ?_
  rintro e w4 ⟨rfl, e4⟩
  rw [e4]
  clear e4 hwh
  go_wp2_with fail
  refine (hrd.out _).mono ?_
  rintro e w5 ⟨lg, lcap, og, ocap, ts, rfl, hb5, hlg, hog, hof, htl, htr, htabs⟩
  obtain ⟨g1, cap1, g2, cap2, gr, cr, hta⟩ := TabsAt.of htabs (fun k hk => hk.2) htr hlg
  have HB5 := hidZ (HB3.out.trans (hb5.mono HB3.out.size))
  have HT5 := hidZ hta
  have HO5 := hidZ hof
  have HG5 := hidZ hog
  clear hb5 HB3 hrd htl htr htabs hta hof hog hlg
  go_wp2_with fail
  go_loopw [11] (fun x wr => ∃ c : Nat, c ≤ m ∧ x = .int .i64 (c : Int) ∧ Below w5.heap.size w5 wr) (fun x _ => m - (intOf x).toNat)
  case atStart => exact ⟨0, by omega, rfl, Below.refl _ _⟩
  case round =>
    obtain ⟨c, hc, rfl, hbr⟩ := hrel
    replace hbr := hidZ hbr
    have HTR := hidZ (HT5.out.below hbr.out (Nat.le_refl _))
    have HOR := hidZ (rangeAt_below HO5.out hbr.out HG5.out)
    have HGR : Hid (og < wr.heap.size) := Nat.lt_of_lt_of_le HG5.out hbr.out.size
    by_cases hlc : c < m
    · have hcI : (0 : Int) ≤ (c : Int) ∧ (c : Int) < (m : Int) := by omega
      have k0 := HTR.out.c0 c hlc
      have k1 := HTR.out.c1 c hlc
      go_wp2_with fail
      refine (kordered_any _ _ (ns c) K (g1 c) (cap1 c) (g2 c) (cap2 c) (gr c) (cr c) (mk c) (tc c) cls og ocap wr (HTR.out.ta c hlc) HOR.out HGR.out (hns.out c hlc).1 hcls.out (hcan.out c hlc).od (hlead.out c · · hlc · ·) (hns.out c hlc).2).mono ?_
      rintro e w6 ⟨rfl, hb6⟩
      have HB6 := hidZ (hbr.out.trans (hb6.mono hbr.out.size))
      have HT6 := hidZ (HTR.out.below hb6 (Nat.le_refl _))
      clear hb6 hbr HTR HOR HGR k0 k1
      have k0 := HT6.out.c0 c hlc
      have k1 := HT6.out.c1 c hlc
      go_wp2_with fail
      refine (klively_any _ _ (ns c) K (g1 c) (cap1 c) (g2 c) (cap2 c) (gr c) (cr c) (mk c) (tc c) cls w6 (HT6.out.ta c hlc) (hns.out c hlc).1 hKl hcls.out (hlead.out c · · hlc · ·) (hmk.out c · hlc ·) (hm0.out c hlc) (hcan.out c hlc)).mono ?_
      rintro e w7 ⟨rfl, hb7⟩
      have HB7 := hidZ (HB6.out.trans (hb7.mono HB6.out.size))
      have HT7 := hidZ (HT6.out.below hb7 (Nat.le_refl _))
      clear hb7 HB6 HT6 k0 k1
      have k0 := HT7.out.c0 c hlc
      have k1 := HT7.out.c1 c hlc
      go_wp2_with fail
      refine (kapart_any _ _ (ns c) K (g1 c) (cap1 c) (g2 c) (cap2 c) (gr c) (cr c) (mk c) (tc c) w7 (HT7.out.ta c hlc) (hns.out c hlc).2 (hns.out c hlc).1 hKl (hlead.out c · · hlc · ·) (hmk.out c · hlc ·) (hapr.out c hlc)).mono ?_
      rintro e w8 ⟨rfl, hb8⟩
      have HB8 := hidZ (HB7.out.trans (hb8.mono HB7.out.size))
      clear hb8 HB7 HT7 k0 k1
      go_wp2
      go_roundw
      case rel => exact ⟨c + 1, hlc, by go_num, HB8.out⟩
      case measure => simp [intOf]; omega
    · have e : c = m := by omega
      subst e
      go_wp2_with fail
      refine (ktold_any lg lcap c K ns g1 cap1 g2 cap2 gr cr mk tc cls fb og ocap wr HTR.out HOR.out (by omega) hKl (fun c h => (hns.out c h).1) hcls.out hle.out fb1.out fb2.out fb3.out hca.out).mono ?_
      rintro e w6 ⟨rfl, hb6⟩
      have HB6 := hidZ (HB5.out.trans ((hbr.out.trans (hb6.mono hbr.out.size)).mono HB5.out.size))
      clear hb6
      go_wp2
      go_ret
      exact ⟨rfl, HB6.out⟩

theorem least_walk (t : ByteArray) (w : World) :
    Calls Try.prog 5 #[.string t] w fun e w' => e = .returned (.bool true) ∧ Below w.heap.size w w' := by
  rcases comp_cases t with ⟨h1, h2⟩ | ⟨h0, l, hl, hn, ⟨h2, _⟩ | ⟨ls, h2, h3⟩⟩
  · exact least_no t _ w h2 (by rw [bne_iff_ne]; exact h1)
  · exact least_no t _ w h2 (by decide)
  · have hok := fileX_ok hl
    exact least_yes t _ l w h3 (img_file hok.1 hok.2.1 hok.2.2 hn h2)
end Go.Proofs.Ytgjgjgihceijnaa

