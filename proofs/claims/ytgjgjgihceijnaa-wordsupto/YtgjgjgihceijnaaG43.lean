/- Texts put together: WaFind, KpApart. -/
import Derived.Test.YtgjgjgihceijnaaG42
import Derived.Test.YtgjgjgihceijnaaG33
import Derived.Test.YtgjgjgihceijnaaG41
import Derived.Test.YtgjgjgihceijnaaG38
import Derived.Test.YtgjgjgihceijnaaG27
import Derived.Test.YtgjgjgihceijnaaG01
import Derived.Test.YtgjgjgihceijnaaG02
import Derived.Test.YtgjgjgihceijnaaG03
import Derived.Test.YtgjgjgihceijnaaG05
import Derived.Test.YtgjgjgihceijnaaG15
import Derived.Deep.MidRow
import Derived.BigRegion
import Derived.Deep.RegionLaw
import Derived.Deep.QuietTactic
import Derived.BigQuiet
import Derived.Test.YtgjgjgihceijnaaChecked
import Derived.WalkKit
import Derived.WalkSpells
import Derived.WalkLawsBesides
namespace Go.Stn
/-- What a node of a place allows. -/
def alN (x : Nd) (c : Nat) : Bool := if x.k = 2 then true else if x.k = 1 then (c == x.a || c == x.b) else c == x.a
theorem beq_cast (a b : Nat) : ((a : Int) == (b : Int)) = (a == b) := by
  rw [Bool.eq_iff_iff]; simp only [beq_iff_eq]; omega
end Go.Stn
namespace Go.Proofs.Ytgjgjgihceijnaa
open Go.RowKit Go.Stn
set_option maxRecDepth 100000 in
set_option maxHeartbeats 1000000 in
theorem kallows_any (x : Nd) (c : Nat) (hk : x.k ≤ 2) (w : World) :
    Calls Try.prog 103 #[.agg x.cells.toArray, .int .u8 (c : Int)] w fun e w' => e = .returned (.bool (alN x c)) ∧ Below w.heap.size w w' := by
  have HE : Hid (alN x c = if x.k = 2 then true else if x.k = 1 then (c == x.a || c == x.b) else c == x.a) := rfl
  have ec : x.cells.toArray = #[.int .i64 (x.k : Int), .int .u8 (x.a : Int), .int .u8 (x.b : Int), .int .i64 (x.l : Int), .int .i64 (x.r : Int), .string (bA x.tr.txt), .string (bA x.tr.oth), .int .i64 (x.tr.pls : Int), .int .i64 (x.tr.mor : Int)] := rfl
  rw [ec]
  clear ec
  have HB : Hid (∀ o, Below w.heap.size w (w.alloc o)) := fun o => (Below.refl _ _).alloc (Nat.le_refl _) o
  generalize x.k = k at *
  generalize x.a = a at *
  generalize x.b = b at *
  have h3 : k = 2 ∨ k = 1 ∨ k = 0 := by omega
  rcases h3 with rfl | rfl | rfl
  · go_enter Try.func103, Try.ntmps103
    go_wp2
    go_ret
    exact ⟨by rw [HE.out]; rfl, HB.out _⟩
  · by_cases e : c = a
    · have d1 : ((c : Int) == (a : Int)) = true := by rw [e]; simp
      have HR : Hid (alN x c = true) := by unfold Hid; rw [HE.out]; simp [e]
      clear e
      go_enter Try.func103, Try.ntmps103
      go_wp2
      go_ret
      exact ⟨by rw [HR.out]; rfl, HB.out _⟩
    · have d1 : ((c : Int) == (a : Int)) = false := by rw [beq_eq_false_iff_ne]; omega
      have HR : Hid (alN x c = ((c : Int) == (b : Int))) := by
        unfold Hid; rw [HE.out, beq_cast]
        simp [e]
      clear e
      go_enter Try.func103, Try.ntmps103
      go_wp2
      go_ret
      exact ⟨by rw [HR.out]; rfl, HB.out _⟩
  · have HR : Hid (alN x c = ((c : Int) == (a : Int))) := by
      unfold Hid; rw [HE.out, beq_cast]
      simp
    go_enter Try.func103, Try.ntmps103
    go_wp2
    go_ret
    exact ⟨by rw [HR.out]; rfl, HB.out _⟩
theorem Made.la {m : WAt} {X : Nat → Prop} {w w' : World} {P : Nat → Prop} {e : Ending} {t : Tr} {p : Nat} (h : Made m X w P e w') (hX : ∀ k, X k → k < w.heap.size) (hP : ∀ q, q ≤ m.inp.size → (P q ↔ GoesTo t m.inp p q)) :
    ∃ g, e = .returned (.slice (some ⟨g, 0, none⟩) m.L m.L) ∧ WKn m X w' ∧ Kept m.R w w' ∧ LA X m.R w' g t m.inp p := by
  obtain ⟨g, al, h1, h2, h3, h4, h5, h6, h7, h8⟩ := h
  exact ⟨g, h1, h2, h3, ⟨h5, fun hx => by have := hX g hx; omega, h6, al, h7, fun q hq => (h8 q hq).trans (hP q hq)⟩⟩
attribute [local go_sem ↓] Go.wp_at_zero Go.wp_at_succ Try.wpLoadNode
set_option maxRecDepth 100000 in
set_option maxHeartbeats 4000000 in
theorem kfind_any {m : WAt} {n : Nat} {x : Nd} (hx : m.all[n]? = some x) (hok : ndOk m.all n x) (ho : ∀ (j : Nat) (y : Nd), j < n → m.all[j]? = some y → OverOk m j y) (hs : m.inp.size ≤ 300) (_ha : m.all.length ≤ 2000000) : FindOk m n x := by
  intro X w p hk hX hp
  obtain ⟨i0, hi0, hz0, hz1, hz2⟩ := info_parts Try.infoBool1
  have HI : Hid (Try.prog.info? 4 = some i0 ∧ i0.zero = some (.bool false) ∧ i0.size = 1 ∧ i0.bytes = 1) := ⟨hi0, hz0, hz1, hz2⟩
  clear hi0 hz0 hz1 hz2
  have hn := (List.getElem?_eq_some_iff.1 hx).1
  have hnI : (0 : Int) ≤ (n : Int) ∧ (n : Int) < (m.all.length : Int) := by omega
  have hL : m.L ≤ 301 := by unfold WAt.L; omega
  have HLq : Hid (∀ q, q ≤ m.inp.size ↔ q < m.L) := fun q => by unfold WAt.L; omega
  have hpL := (HLq.out p).1 hp
  have hpI : (0 : Int) ≤ (p : Int) ∧ (p : Int) < (m.L : Int) := by omega
  have c0 := hk.c0
  have HND := hidK (hk.ru.nd n x hx)
  have HO := hidK ho
  have HX := hidK hX
  have HK := hidK hk
  have HOK := hidK hok
  have HBW : Hid (Below w.heap.size w ((w.alloc (.cells node0 109)).setCells w.heap.size 0 x.cells)) := _root_.Go.Stn.below_setCells _ 0 _ _ ((Below.refl _ _).alloc (Nat.le_refl _) _) (Nat.le_refl _)
  have HTH : Hid ((w.alloc (.cells node0 109)).there w.heap.size 0 9) := there_newA _ _ _ _ _ rfl rfl
  have HRW : Hid (((w.alloc (.cells node0 109)).setCells w.heap.size 0 x.cells).rangeAt w.heap.size 0 x.cells) := World.rangeAt_setCells_same _ _ _ _ HTH.out
  have hzW : w.heap.size < ((w.alloc (.cells node0 109)).setCells w.heap.size 0 x.cells).heap.size := by
    have := (_root_.Go.Stn.below_setCells x.cells 0 (w.alloc (.cells node0 109)) w.heap.size (Below.refl 0 _) (Nat.zero_le _)).size
    simp at this
    omega
  have hnr : ¬ m.R w.heap.size := fun hr => by have := hk.rows hr; omega
  have HNR := hidK hnr
  unfold node0 at HBW HTH HRW hzW
  clear hk hX ho hok hx hnr
  go_enter Try.func76, Try.ntmps76
  go_upto_region 2 with (first
    | (refine wpList_load_mid rfl 109 (.tmp 22) rfl m.ga (n * 9) rfl x.cells _ HND.out Try.underlying109 rfl Try.knodeSize ?_)
    | (refine wpList_store_mid rfl 109 (.tmp 7) (.tmp 23) rfl w.heap.size 0 x.cells.toArray rfl rfl HTH.out Try.knodeSize (all_oneCell_toArray (Try.oneX x)) ?_))
  generalize (w.alloc (.cells #[.int .i64 0, .int .u8 0, .int .u8 0, .int .i64 0, .int .i64 0, .string ⟨#[]⟩, .string ⟨#[]⟩, .int .i64 0, .int .i64 0] 109)).setCells w.heap.size 0 x.cells = W1 at *
  have HKW := hidK (HK.out.below HBW.out)
  have HK1 : Hid (Kept m.R w W1) := Kept.of_below HBW.out
  have HX1 : Hid (∀ k, X k → k < W1.heap.size) := fun k hk => Nat.lt_trans (HX.out k hk) hzW
  have HN : Hid (∀ W3, Kept m.R W1 W3 → ∀ i v, x.cells[i]? = some v → W3.cell? ⟨w.heap.size, i, none⟩ = some v) := fun W3 h i v hv => (h.cell i hzW HNR.out).trans (by have := HRW.out i v hv; rw [Nat.zero_add] at this; exact this)
  have c2 := HKW.out.c2
  clear HTH HND c0 HBW HK HRW
  go_upto_region 3 with (first | (at_make; refine wpList_make_full W1 rfl _ _ 94 rfl W1.heap.size 4 i0 (.bool false) 1 Try.underlying94 HI.out.1 HI.out.2.1 HI.out.2.2.1 .i64 .i64 _ m.L m.L rfl rfl rfl rfl (by rw [HI.out.2.2.2]; omega) (by unfold maxLen; omega) (Nat.le_refl _) ?_; intro w2 hown hg; have HFI := hidK (FI.start HKW.out hg hown); clear hown hg))
  clear c2
  have HW2 : Hid (WKn m X w2) := HFI.out.wk.more (fun _ _ hx => .inl hx)
  have HX2 : Hid (∀ k, X k → k < w2.heap.size) := fun k hk => Nat.lt_of_lt_of_le (HX1.out k hk) HFI.out.kp.size
  have hok2 : ((x.k = 0 ∧ x.tr = .let1 x.a) ∨ (x.k = 1 ∧ x.tr = .two x.a x.b) ∨ (x.k = 2 ∧ x.tr = .any)) ∨ (∃ y z, m.all[x.l]? = some y ∧ m.all[x.r]? = some z ∧ x.l < n ∧ x.r < n ∧ ((x.k = 3 ∧ x.tr = .row y.tr z.tr) ∨ (x.k = 4 ∧ x.tr = .or2 y.tr z.tr))) ∨
      (∃ y, m.all[x.l]? = some y ∧ x.l < n ∧ ((x.k = 5 ∧ x.tr = .many y.tr) ∨ (x.k = 6 ∧ x.tr = .once y.tr) ∨ (x.k = 7 ∧ x.tr = .may y.tr))) := by
    rcases HOK.out with h | h | h | h | h
    · exact .inl (.inl h)
    · exact .inl (.inr (.inl h))
    · exact .inl (.inr (.inr h))
    · exact .inr (.inl h)
    · exact .inr (.inr h)
  rcases hok2 with hkd | ⟨y, z, hy, hz, hl, hr, hkd⟩ | ⟨y, hy, hl, hkd⟩
  · have hleaf : x.k ≤ 2 ∧ x.tr.leaf ∧ ∀ c, alwB x.tr c = alN x c := by
      rcases hkd with ⟨hkk, htr⟩ | ⟨hkk, htr⟩ | ⟨hkk, htr⟩
      · exact ⟨by omega, by rw [htr]; trivial, fun c => by unfold alN; rw [htr, hkk]; rfl⟩
      · exact ⟨by omega, by rw [htr]; trivial, fun c => by unfold alN; rw [htr, hkk]; rfl⟩
      · exact ⟨by omega, by rw [htr]; trivial, fun c => by unfold alN; rw [htr, hkk]; rfl⟩
    obtain ⟨hk2, hlf, hal⟩ := hleaf
    have HGL : Hid (∀ q, GoesTo x.tr m.inp p q ↔ q = p + 1 ∧ p < m.inp.size ∧ alN x (bt m.inp p) = true) := fun q => by rw [goes_leaf hlf, hal]
    have n0 := HN.out w2 HFI.out.kp 0 _ rfl
    have t3 : ((x.k : Int) == 3) = false := by rw [beq_eq_false_iff_ne]; omega
    have t4 : ((x.k : Int) == 4) = false := by rw [beq_eq_false_iff_ne]; omega
    have t5 : ((x.k : Int) == 5) = false := by rw [beq_eq_false_iff_ne]; omega
    have t6 : ((x.k : Int) == 6) = false := by rw [beq_eq_false_iff_ne]; omega
    have t7 : ((x.k : Int) == 7) = false := by rw [beq_eq_false_iff_ne]; omega
    have c2 := HW2.out.c2
    clear hkd hlf hal HO HOK
    by_cases hlt : p < m.inp.size
    · have d1 : decide ((p : Int) < (m.inp.size : Int)) = true := by simp; omega
      obtain ⟨p1, hp1⟩ : ∃ p1, p1 = p + 1 := ⟨_, rfl⟩
      have hp1L : p1 < m.L := by rw [hp1]; exact (HLq.out _).1 (by omega)
      have hp1I : (0 : Int) ≤ (p1 : Int) ∧ (p1 : Int) < (m.L : Int) := by omega
      have hpa : (p : Int) + 1 = (p1 : Int) := by omega
      have hpw : IntKind.i64.wrap ((p : Int) + 1) = (p1 : Int) := by rw [hpa]; exact IntWalk.i64_in _ (by omega)
      have hpw2 : IntKind.i64.wrap (p1 : Int) = (p1 : Int) := IntWalk.i64_in _ (by omega)
      have hpz : (0 : Int) ≤ (p : Int) ∧ (p : Int) < (m.inp.size : Int) := by omega
      have HP1 := hidK hp1
      clear hp1
      obtain ⟨c, hc⟩ : ∃ c, bt m.inp p = c := ⟨_, rfl⟩
      have hbe := bt_eq m.inp p hlt
      rw [hc] at hbe
      have HCC := hidK hc
      clear hc
      have hrg : w2.rangeAt w.heap.size 0 x.cells := fun i v hv => by rw [Nat.zero_add]; exact HN.out w2 HFI.out.kp i v hv
      have l1 : loadsNode w2.drew (.pointer (some ⟨w.heap.size, 0, none⟩)) := ⟨w.heap.size, 0, x, rfl, hrg⟩
      have e1 : nodeOf w2.drew (.pointer (some ⟨w.heap.size, 0, none⟩)) = .agg x.cells.toArray := nodeOf_eq (X := w2.drew) hrg
      clear hrg
      go_upto_region 5 with fail
      go_region_with (go_at_call 103; refine (kallows_any x c hk2 w2.drew).mono ?_; rintro e w3 ⟨rfl, hb3⟩; have HF3 := hidK ((HFI.out.draw 1).over ((HFI.out.wk.draw 1).below hb3) (Kept.of_below hb3)); have y0 := HF3.out.ba.c p1 hp1L; have yf := HF3.out.ba.f p1; clear hb3)
      all_goals
        have HM := hidK ((HF3.out.set hp1L (alN x c)).made (P := fun q => GoesTo x.tr m.inp p q) (fun q hq => by
          rw [HGL.out q, HP1.out, HCC.out]
          by_cases e : q = p + 1
          · rw [if_pos e]; exact ⟨fun h => ⟨e, hlt, h⟩, fun h => h.2.2⟩
          · rw [if_neg e]; exact ⟨fun h => absurd h (by simp), fun h => absurd h.1 e⟩))
        clear y0 yf
        go_wp2
        go_ret
        obtain ⟨g, hge, hwk, hkp, hla⟩ := HM.out.la (t := x.tr) (p := p) HX1.out (fun q _ => Iff.rfl)
        exact ⟨g, hge, hwk, HK1.out.trans hkp, hla⟩
    · have d1 : decide ((p : Int) < (m.inp.size : Int)) = false := by simp; omega
      have HM := hidK (HFI.out.made (P := fun q => GoesTo x.tr m.inp p q) (fun q hq => by
        rw [HGL.out q]
        exact ⟨fun h => absurd h (by simp), fun h => absurd h.2.1 hlt⟩))
      go_wp2
      go_ret
      obtain ⟨g, hge, hwk, hkp, hla⟩ := HM.out.la (t := x.tr) (p := p) HX1.out (fun q _ => Iff.rfl)
      exact ⟨g, hge, hwk, HK1.out.trans hkp, hla⟩
  · have ol := hidK (HO.out x.l y hl hy)
    have or2 := hidK (HO.out x.r z hr hz)
    have n3 := HN.out w2 HFI.out.kp 3 _ rfl
    rcases hkd with ⟨hkk, htr⟩ | ⟨hkk, htr⟩
    · have n0 : w2.cell? ⟨w.heap.size, 0, none⟩ = some (.int .i64 3) := by have := HN.out w2 HFI.out.kp 0 _ rfl; rw [hkk] at this; exact this
      have HTR := hidK htr
      clear htr hkk hy hz hl hr HO HOK
      go_wp2_with fail
      refine (ol.out X w2 p HW2.out HX2.out hp).mono ?_
      rintro e w3 ⟨g1, rfl, hk3, hp3, hl3⟩
      have HK3 := hidK hk3
      have HP3 := hidK (HFI.out.kp.trans hp3)
      have HL3 := hidK hl3
      have HX3 : Hid (∀ k, X k → k < w3.heap.size) := fun k hk => Nat.lt_of_lt_of_le (HX2.out k hk) hp3.size
      have n4 := HN.out w3 HP3.out 4 _ rfl
      clear hk3 hp3 hl3 n0 n3 ol
      go_wp2_with fail
      obtain ⟨a1, hb1, hg1⟩ := HL3.out.al
      have HG1 := hidK hg1
      refine (kfrom_any or2.out hs HK3.out HX3.out hb1 HL3.out.lt HL3.out.nr).mono ?_
      intro e w4 hm
      obtain ⟨g, hge, hwk, hkp, hla⟩ := hm.la (t := x.tr) (p := p) HX3.out (fun q hq => by
        rw [HTR.out, goes_row]
        constructor
        · rintro ⟨i, h1, h2, h3⟩; exact ⟨i, (HG1.out i h1).1 h2, h3⟩
        · rintro ⟨i, h2, h3⟩; exact ⟨i, h2.2.1, (HG1.out i h2.2.1).2 h2, h3⟩)
      subst hge
      have HWK := hidK hwk
      have HKP := hidK (HK1.out.trans (HP3.out.trans hkp))
      have HLA := hidK hla
      clear hm hwk hkp hla hb1 hg1 n4
      go_wp2
      go_ret
      exact ⟨g, rfl, HWK.out, HKP.out, HLA.out⟩
    · have n0 : w2.cell? ⟨w.heap.size, 0, none⟩ = some (.int .i64 4) := by have := HN.out w2 HFI.out.kp 0 _ rfl; rw [hkk] at this; exact this
      have HTR := hidK htr
      clear htr hkk hy hz hl hr HO HOK
      go_wp2_with fail
      refine (ol.out (xO X W1) w2 p HFI.out.wk (HFI.out.bound HX1.out) hp).mono ?_
      rintro e w3 ⟨g1, rfl, hk3, hp3, hl3⟩
      have HF3 := hidK (HFI.out.over hk3 hp3)
      have HL3 := hidK hl3
      have n4 := HN.out w3 HF3.out.kp 4 _ rfl
      clear hk3 hp3 hl3 n0 n3 ol HFI HW2 HX2
      go_wp2_with fail
      refine (or2.out (xO X W1) w3 p HF3.out.wk (HF3.out.bound HX1.out) hp).mono ?_
      rintro e w4 ⟨g2, rfl, hk4, hp4, hl4⟩
      have HF4 := hidK (HF3.out.over hk4 hp4)
      obtain ⟨a1, hb1, hg1⟩ := (HL3.out.kept hp4).al
      obtain ⟨a2, hb2, hg2⟩ := hl4.al
      have HB1 := hidK hb1
      have HB2 := hidK hb2
      have HN1 : Hid (g1 ≠ W1.heap.size) := fun e => HL3.out.nx (.inr e)
      have HN2 : Hid (g2 ≠ W1.heap.size) := fun e => hl4.nx (.inr e)
      have HG : Hid (∀ q, q ≤ m.inp.size → ((a1 q || a2 q) = true ↔ GoesTo x.tr m.inp p q)) := fun q hq => by
        rw [HTR.out, goes_or, Bool.or_eq_true, hg1 q hq, hg2 q hq]
      clear hk4 hp4 hl4 hb1 hb2 hg1 hg2 n4 or2 HF3 HL3
      go_wp2
      go_loopw [12] (fun ii wr => ∃ (k : Nat) (al : Nat → Bool), k ≤ m.L ∧ ii = .int .i64 (k : Int) ∧ FI m X W1 wr al ∧ BA wr g1 m.L a1 ∧ BA wr g2 m.L a2 ∧ ∀ q, q < k → al q = (a1 q || a2 q)) (fun ii _ => m.L - (intOf ii).toNat)
      case atStart => exact ⟨0, _, Nat.zero_le _, rfl, HF4.out, HB1.out, HB2.out, fun q hq => absurd hq (by omega)⟩
      case round =>
        obtain ⟨k, al, hkL, rfl, hfi, hb1, hb2, hal⟩ := hrel
        have HF5 := hidK hfi
        have HB5 := hidK hb1
        have HB6 := hidK hb2
        have HA5 := hidK hal
        clear hfi hb1 hb2 hal HF4 HB1 HB2
        by_cases hlt : k < m.L
        · have hkI : (0 : Int) ≤ (k : Int) ∧ (k : Int) < (m.L : Int) := by omega
          have y0 := HF5.out.ba.c k hlt
          have yf := HF5.out.ba.f k
          have y1 := HB5.out.c k hlt
          have y2 := HB6.out.c k hlt
          have HS1 : Hid (∀ v, BA (wr.setCell ⟨W1.heap.size, k, none⟩ (.bool v)) g1 m.L a1) := fun v => HB5.out.blk (set_keep _ _ _ _ HN1.out)
          have HS2 : Hid (∀ v, BA (wr.setCell ⟨W1.heap.size, k, none⟩ (.bool v)) g2 m.L a2) := fun v => HB6.out.blk (set_keep _ _ _ _ HN2.out)
          have HSt : Hid (∀ v : Bool, v = (a1 k || a2 k) → ∀ q, q < k + 1 → (if q = k then v else al q) = (a1 q || a2 q)) := fun v hv q hq => by
            by_cases e : q = k
            · subst e; rw [if_pos rfl, hv]
            · rw [if_neg e]; exact HA5.out q (by omega)
          cases e2 : a1 k with
          | true =>
            rw [e2] at y1
            have HE := hidK e2
            clear e2
            go_wp2
            go_roundw
            case rel => exact ⟨k + 1, _, hlt, by go_num, HF5.out.set hlt true, HS1.out true, HS2.out true, HSt.out true (by rw [HE.out]; simp)⟩
            case measure => simp [intOf]; omega
          | false =>
            rw [e2] at y1
            have HE := hidK e2
            clear e2
            obtain ⟨v, ev⟩ : ∃ v, a2 k = v := ⟨_, rfl⟩
            rw [ev] at y2
            have HV := hidK ev
            clear ev
            go_wp2
            go_roundw
            case rel => exact ⟨k + 1, _, hlt, by go_num, HF5.out.set hlt v, HS1.out v, HS2.out v, HSt.out v (by rw [HE.out, HV.out]; simp)⟩
            case measure => simp [intOf]; omega
        · have dj : decide ((k : Int) < (m.L : Int)) = false := by simp; omega
          have HM := hidK (HF5.out.made (P := fun q => GoesTo x.tr m.inp p q) (fun q hq => by
            have hq2 := (HLq.out q).1 hq
            rw [HA5.out q (by omega)]
            exact HG.out q hq))
          go_wp2
          go_ret
          obtain ⟨g, hge, hwk, hkp, hla⟩ := HM.out.la (t := x.tr) (p := p) HX1.out (fun q _ => Iff.rfl)
          exact ⟨g, hge, hwk, HK1.out.trans hkp, hla⟩
  · have ol := hidK (HO.out x.l y hl hy)
    have n3 := HN.out w2 HFI.out.kp 3 _ rfl
    rcases hkd with ⟨hkk, htr⟩ | ⟨hkk, htr⟩ | ⟨hkk, htr⟩
    · have n0 : w2.cell? ⟨w.heap.size, 0, none⟩ = some (.int .i64 5) := by have := HN.out w2 HFI.out.kp 0 _ rfl; rw [hkk] at this; exact this
      have HTR := hidK htr
      clear htr hkk hy hl HO HOK
      go_wp2_with fail
      refine (kmany_any ol.out hs HW2.out HX2.out hp).mono ?_
      intro e w4 hm
      obtain ⟨g, hge, hwk, hkp, hla⟩ := hm.la (t := x.tr) (p := p) HX2.out (fun q hq => by rw [HTR.out])
      subst hge
      have HWK := hidK hwk
      have HKP := hidK (HK1.out.trans (HFI.out.kp.trans hkp))
      have HLA := hidK hla
      clear hm hwk hkp hla n0 n3
      go_wp2
      go_ret
      exact ⟨g, rfl, HWK.out, HKP.out, HLA.out⟩
    · have n0 : w2.cell? ⟨w.heap.size, 0, none⟩ = some (.int .i64 6) := by have := HN.out w2 HFI.out.kp 0 _ rfl; rw [hkk] at this; exact this
      have HTR := hidK htr
      clear htr hkk hy hl HO HOK
      go_wp2_with fail
      refine (kmany_any ol.out hs HW2.out HX2.out hp).mono ?_
      intro e w3 hm
      obtain ⟨g1, a1, rfl, hk3, hp3, hg31, hg32, hg33, hb1, hg1⟩ := hm
      have HK3 := hidK hk3
      have HP3 := hidK (HFI.out.kp.trans hp3)
      have HX3 : Hid (∀ k, X k → k < w3.heap.size) := fun k hk => Nat.lt_of_lt_of_le (HX2.out k hk) hp3.size
      have HB1 := hidK hb1
      have HG1 := hidK hg1
      have HGR := hidK hg33
      have m3 := HN.out w3 HP3.out 3 _ rfl
      clear hk3 hp3 hb1 hg1 hg33 n0 n3 hg31
      go_wp2_with fail
      refine (kfrom_any ol.out hs HK3.out HX3.out HB1.out hg32 HGR.out).mono ?_
      intro e w4 hm
      obtain ⟨g, hge, hwk, hkp, hla⟩ := hm.la (t := x.tr) (p := p) HX3.out (fun q hq => by
        rw [HTR.out, goes_once]
        constructor
        · rintro ⟨i, h1, h2, h3⟩; exact ⟨i, (HG1.out i h1).1 h2, h3⟩
        · rintro ⟨i, h2, h3⟩; exact ⟨i, h2.2.1, (HG1.out i h2.2.1).2 h2, h3⟩)
      subst hge
      have HWK := hidK hwk
      have HKP := hidK (HK1.out.trans (HP3.out.trans hkp))
      have HLA := hidK hla
      clear hm hwk hkp hla m3
      go_wp2
      go_ret
      exact ⟨g, rfl, HWK.out, HKP.out, HLA.out⟩
    · have n0 : w2.cell? ⟨w.heap.size, 0, none⟩ = some (.int .i64 7) := by have := HN.out w2 HFI.out.kp 0 _ rfl; rw [hkk] at this; exact this
      have HTR := hidK htr
      clear htr hkk hy hl HO HOK
      go_wp2_with fail
      refine (ol.out (xO X W1) w2 p HFI.out.wk (HFI.out.bound HX1.out) hp).mono ?_
      rintro e w3 ⟨g1, rfl, hk3, hp3, hl3⟩
      have HF3 := hidK (HFI.out.over hk3 hp3)
      obtain ⟨a1, hb1, hg1⟩ := hl3.al
      have HB1 := hidK hb1
      have HN1 : Hid (g1 ≠ W1.heap.size) := fun e => hl3.nx (.inr e)
      have HG : Hid (∀ q, q ≤ m.inp.size → ((if q = p then true else a1 q) = true ↔ GoesTo x.tr m.inp p q)) := fun q hq => by
        rw [HTR.out, goes_may]
        by_cases e : q = p
        · rw [if_pos e]
          exact ⟨fun _ => .inl ⟨e, hp⟩, fun _ => rfl⟩
        · rw [if_neg e, hg1 q hq]
          exact ⟨.inr, fun h => h.elim (fun h => absurd h.1 e) id⟩
      clear hk3 hp3 hl3 hb1 hg1 n0 n3 ol HFI HW2 HX2
      go_wp2
      go_loopw [15] (fun ii wr => ∃ (k : Nat) (al : Nat → Bool), k ≤ m.L ∧ ii = .int .i64 (k : Int) ∧ FI m X W1 wr al ∧ BA wr g1 m.L a1 ∧ ∀ q, q < k → al q = a1 q) (fun ii _ => m.L - (intOf ii).toNat)
      case atStart => exact ⟨0, _, Nat.zero_le _, rfl, HF3.out, HB1.out, fun q hq => absurd hq (by omega)⟩
      case round =>
        obtain ⟨k, al, hkL, rfl, hfi, hb1, hal⟩ := hrel
        have HF5 := hidK hfi
        have HB5 := hidK hb1
        have HA5 := hidK hal
        clear hfi hb1 hal HF3 HB1
        by_cases hlt : k < m.L
        · have hkI : (0 : Int) ≤ (k : Int) ∧ (k : Int) < (m.L : Int) := by omega
          have y0 := HF5.out.ba.c k hlt
          have yf := HF5.out.ba.f k
          have y1 := HB5.out.c k hlt
          have HS1 : Hid (∀ v, BA (wr.setCell ⟨W1.heap.size, k, none⟩ (.bool v)) g1 m.L a1) := fun v => HB5.out.blk (set_keep _ _ _ _ HN1.out)
          obtain ⟨v, ev⟩ : ∃ v, a1 k = v := ⟨_, rfl⟩
          rw [ev] at y1
          have HSt : Hid (∀ q, q < k + 1 → (if q = k then v else al q) = a1 q) := fun q hq => by
            by_cases e : q = k
            · subst e; rw [if_pos rfl, ev]
            · rw [if_neg e]; exact HA5.out q (by omega)
          clear ev
          go_wp2
          go_roundw
          case rel => exact ⟨k + 1, _, hlt, by go_num, HF5.out.set hlt v, HS1.out v, HSt.out⟩
          case measure => simp [intOf]; omega
        · have dj : decide ((k : Int) < (m.L : Int)) = false := by simp; omega
          have y0 := HF5.out.ba.c p hpL
          have yf := HF5.out.ba.f p
          have HM := hidK ((HF5.out.set hpL true).made (P := fun q => GoesTo x.tr m.inp p q) (fun q hq => by
            have hq2 := (HLq.out q).1 hq
            have := HA5.out q (by omega)
            simp only [this]
            exact HG.out q hq))
          go_wp2
          go_ret
          obtain ⟨g, hge, hwk, hkp, hla⟩ := HM.out.la (t := x.tr) (p := p) HX1.out (fun q _ => Iff.rfl)
          exact ⟨g, hge, hwk, HK1.out.trans hkp, hla⟩
end Go.Proofs.Ytgjgjgihceijnaa

namespace Go.Proofs.Ytgjgjgihceijnaa
open Go.RowKit Go.Stn

def rowsL (n : Nat) (db : Nat → Nat) (m : Nat) : List Value := (List.range m).map fun i => Value.slice (some ⟨db i, 0, none⟩) n n
theorem rowsL_get {n m i : Nat} {db : Nat → Nat} (h : i < m) : (rowsL n db m)[i]? = some (.slice (some ⟨db i, 0, none⟩) n n) := by
  unfold rowsL; rw [List.getElem?_map, List.getElem?_range h]; rfl
theorem rowsL_succ {n m nb : Nat} {db : Nat → Nat} : rowsL n (fun i => if i = m then nb else db i) (m + 1) = rowsL n db m ++ [.slice (some ⟨nb, 0, none⟩) n n] := by
  unfold rowsL
  rw [List.range_succ, List.map_append]
  congr 1
  · apply List.map_congr_left
    intro i hi
    have := List.mem_range.1 hi
    simp only []
    rw [if_neg (by omega)]
  · simp
/-- What a table's load brings. -/
def tabOf (X : World) : Value → Value
  | .pointer (some a) => .agg #[(X.cell? ⟨a.block, 0, none⟩).getD undef, (X.cell? ⟨a.block, 1, none⟩).getD undef]
  | _ => undef
def loadsTab (X : World) (v : Value) : Prop := ∃ B x y, v = .pointer (some ⟨B, 0, none⟩) ∧ X.cell? ⟨B, 0, none⟩ = some x ∧ X.cell? ⟨B, 1, none⟩ = some y
theorem tabOf_eq {X : World} {B : Nat} {x y : Value} (h0 : X.cell? ⟨B, 0, none⟩ = some x) (h1 : X.cell? ⟨B, 1, none⟩ = some y) : tabOf X (.pointer (some ⟨B, 0, none⟩)) = .agg #[x, y] := by
  unfold tabOf; simp [h0, h1]
theorem Try.tabSize : (Try.prog.info? 35).map (fun i => i.size) = some 2 := by kernel_rfl
theorem Try.wpLoadTab {d : Option Tmp} {x : Operand} {ty : TypeId} {p : String} {af : Array Edge} {gd : Option (Nat × Bool)} {a : Act} {X : World} {K : Act → World → Prop} {Q : Exit → Act → World → Prop}
    (h : loadsTab X (a.eval x)) :
    Oper.wp Try.prog { dst := d, op := .load 35 x, type := ty, pos := p, after := af, guard := gd } a X K Q = K (a.put d (tabOf X (a.eval x))) X := by
  obtain ⟨B, u, v, hx, h0, h1⟩ := h
  have hb : X.rangeAt B 0 [u, v] := fun i z hz => by
    rcases i with _ | _ | i
    · simp at hz; subst hz; exact h0
    · simp at hz; subst hz; exact h1
    · simp at hz
  have hr := run_loadVar_mid (P := Try.prog) X B 0 35 [u, v] _ hb Try.underlying35 rfl Try.tabSize
  unfold Oper.wp execOp
  simp only [hx, Instr.loadAt, Instr.sureAddr, Sem.run_bind, Sem.run_pure, Result.andThen_ok, hr, tabOf_eq h0 h1]
  rfl
attribute [local go_sem ↓] Go.wp_at_zero Go.wp_at_succ Try.wpLoadTab

end Go.Proofs.Ytgjgjgihceijnaa

