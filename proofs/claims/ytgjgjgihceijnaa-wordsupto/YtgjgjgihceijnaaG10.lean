/- Texts put together: RfSet, RfAllowed, RfPure3, RfPure4. -/
import Derived.Test.YtgjgjgihceijnaaG09
import Derived.Deep.LoopGhost
namespace Go.Proofs.Ytgjgjgihceijnaa
open Go.RowKit Go.Stn

theorem Try.bytesZeroA : Try.zeroCells187 = (bitL zeroF).toArray := by kernel_rfl

theorem Try.bytesZeroL2 : Try.zeroCells187.toList = bitL zeroF := by rw [Try.bytesZeroA]
theorem Try.bytesZeroOne : Try.zeroCells187.all (·.oneCell') = true := by kernel_rfl

set_option maxRecDepth 100000 in
set_option maxHeartbeats 1000000 in
theorem set_any (t : ByteArray) (st : PSt) (rb base : Nat) (vr vn vp : Value) (w : World) (ht : t.size ≤ 120) (hat : st.at_ ≤ t.size) (h : Rd w rb base w.heap.size t st vr vn vp) :
    Calls Try.prog 150 #[.pointer (some ⟨rb, 0, none⟩)] w fun e w' =>
      e = .returned (.tuple #[.agg (bitL (setP t st).1).toArray, .bool (setP t st).2.1]) ∧ RdTo w rb base t vr vn vp (setP t st).2.2 w' := by
  have hrb : rb < w.heap.size := by have := h.hb; have := h.hbt; omega
  have HR0 := hidK (h.below ((Below.refl _ _).alloc (Nat.le_refl _) (.cells Try.zeroCells187 187))).raise
  have HZ0 := hidK (there_newA w Try.zeroCells187 187 _ 256 Try.bytesZero rfl)
  have HG0 : Hid (w.grownBy (w.alloc (.cells Try.zeroCells187 187)) (some rb)) := grown_alloc2 (World.grownBy.refl _ _) _
  have hsz0 : (w.alloc (.cells Try.zeroCells187 187)).heap.size = w.heap.size + 1 := by simp
  go_enter Try.func150, Try.ntmps150
  go_wp2_with fail
  generalize w.alloc (.cells Try.zeroCells187 187) = W0 at *
  refine (skip_any t st 94 rb base vr vn vp _ ht hat HR0.out).mono ?_
  rintro e w1 ⟨rfl, hg1, hr1⟩
  have HG1 := hidK (grown_trans HG0.out hg1)
  have HZ1 := hidK (there_block HZ0.out (hg1.block w.heap.size (by omega) (by intro e; injection e; omega)))
  have hsz1 : w.heap.size + 1 ≤ w1.heap.size := by have := hg1.size; omega
  clear HR0 HZ0 HG0 hsz0 hg1
  obtain ⟨st1, hst1⟩ : ∃ s, skipP t 94 st = s := ⟨_, rfl⟩
  obtain ⟨o, ho⟩ : ∃ o, nextB t 94 st = o := ⟨_, rfl⟩
  have hat1 : st1.at_ ≤ t.size := by
    rw [← hst1]
    unfold skipP
    split
    · rename_i hq; exact nextB_lt (by omega) hq
    · exact hat
  have HP : Hid (setP t st = if o = true then (if (setR t st1).2.1 = true then ((fun i => !((setR t st1).1 i)), true, (setR t st1).2.2) else (zeroF, false, (setR t st1).2.2)) else (if (setR t st1).2.1 = true then ((setR t st1).1, true, (setR t st1).2.2) else (zeroF, false, (setR t st1).2.2))) := by
    unfold Hid setP
    rw [← hst1, ← ho]
    by_cases hq : nextB t 94 st = true
    · rw [skipP_yes hq, if_pos hq, if_pos hq]
    · rw [skipP_no (by simpa using hq), if_neg hq, if_neg hq]
  rw [hst1] at hr1
  rw [ho]
  clear hst1 ho
  have hc2 := member_any t zeroF st1 rb base vr vn vp w1 ht hat1 hr1
  have hm := memberP_at (f := zeroF) hat1
  have HRR : Hid (setR t st1 = setLoop t (t.size + 1) (memberP t zeroF st1).1 (memberP t zeroF st1).2.1 (memberP t zeroF st1).2.2) := rfl
  generalize memberP t zeroF st1 = M at *
  obtain ⟨f2, ok2, st2⟩ := M
  simp only at hc2 hm
  go_wp2_with fail
  rw [Try.bytesZeroA]
  refine hc2.mono ?_
  rintro e w2 ⟨rfl, hg2, hr2⟩
  have HG2 := hidK (grown_trans HG1.out hg2)
  have HZ2 := hidK (there_block HZ1.out (hg2.block w.heap.size (by omega) (by intro e; injection e; omega)))
  have hsz2 : w.heap.size + 1 ≤ w2.heap.size := by have := hg2.size; omega
  have HN2 := hidK (there_newA w2 Try.zeroCells187 187 _ 256 Try.bytesZero rfl)
  have HR2 := hidK hr2
  clear HG1 HZ1 hsz1 hg2 hr1 hr2 hc2
  go_wp2_with (first | (refine wpList_store_mid rfl 187 (.tmp 5) (.tmp 13) rfl w2.heap.size 0 (bitL f2).toArray rfl rfl (by rw [bitL_size]; exact HN2.out) (by rw [bitL_size]; exact Try.bytesSize) (all_oneCell_toArray (bitL_one _)) ?_))
  have HR3 := hidK (((h.retop HR2.out (by omega)).below ((Below.refl _ _).alloc (by omega) (.cells Try.zeroCells187 187))).below (below_setCells (bitL f2) 0 _ w2.heap.size (Below.refl w.heap.size _) (by omega)))
  have HG3 := hidK (grown_setCells (grown_alloc2 HG2.out (.cells Try.zeroCells187 187)) w2.heap.size 0 (bitL f2) (by omega))
  have HF3 := hidK (World.rangeAt_setCells_same (w2.alloc (.cells Try.zeroCells187 187)) w2.heap.size 0 (bitL f2) (by rw [bitL_len]; exact HN2.out))
  have HT3 := hidK (World.there_setCells HN2.out w2.heap.size 0 (bitL f2))
  have HZ3 := hidK (World.there_setCells (World.there_alloc HZ2.out (.cells Try.zeroCells187 187)) w2.heap.size 0 (bitL f2))
  have hz3 : w2.heap.size < ((w2.alloc (.cells Try.zeroCells187 187)).setCells w2.heap.size 0 (bitL f2)).heap.size := by
    have := (below_setCells (bitL f2) 0 (w2.alloc (.cells Try.zeroCells187 187)) w2.heap.size (Below.refl 0 _) (Nat.zero_le _)).size
    simp at this; omega
  generalize hB2 : w2.heap.size = B2 at *
  generalize (w2.alloc (.cells Try.zeroCells187 187)).setCells B2 0 (bitL f2) = X0 at *
  clear hB2 HR2 HG2 HZ2 HN2 
  go_loopg [6] (t.size + 1) (fun gk x wr => ∃ (f : Nat → Bool) (ok : Bool) (s : PSt), x = .bool ok ∧ s.at_ ≤ t.size ∧ (ok = true → t.size - s.at_ < gk) ∧ setR t st1 = setLoop t gk f ok s ∧
    Rd wr rb base w.heap.size t s vr vn vp ∧ wr.rangeAt B2 0 (bitL f) ∧ wr.there B2 0 256 ∧ wr.there w.heap.size 0 256 ∧ w.grownBy wr (some rb) ∧ B2 < wr.heap.size)
  case atStart => exact ⟨f2, ok2, st2, rfl, hm.2, fun _ => by omega, HRR.out, HR3.out, HF3.out, HT3.out, HZ3.out, HG3.out, hz3⟩
  case round =>
    obtain ⟨f, ok, s, rfl, has, hfu, hlp, hr, hf, htt, hz, hg, hbz⟩ := hrel
    have HL := hidK hlp
    have HR := hidK hr
    have HF := hidK hf
    have HT := hidK htt
    have HZ := hidK hz
    have HG := hidK hg
    clear hlp hr hf htt hz hg HR3 HG3 HF3 HT3 HZ3
    cases ok with
    | false =>
      have hS : setR t st1 = (f, false, s) := HL.out.trans (setLoop_false t gk f s)
      have HE : Hid (setP t st = (zeroF, false, s)) := by
        unfold Hid; rw [HP.out, hS]; cases o <;> rfl
      clear hS
      go_wp2_with (first | (refine wpList_store_mid rfl 187 (.tmp 2) (.tmp 29) rfl w.heap.size 0 Try.zeroCells187 rfl rfl (by rw [Try.bytesZero]; exact HZ.out) (by rw [Try.bytesZero]; exact Try.bytesSize) Try.bytesZeroOne ?_))
      refine ret_cell2 Try.results150 w.heap.size 0 (bitL zeroF) _ (.bool false) rfl rfl ?_ Try.underlying187 rfl (by rw [bitL_len]; exact Try.bytesSize) rfl ?_
      · rw [Try.bytesZeroL2]; exact World.rangeAt_setCells_same _ _ _ _ (by rw [bitL_len]; exact HZ.out)
      · rw [HE.out]
        exact ⟨rfl, fin_store h HR.out.raise HG.out _ _ _ (Nat.le_refl _)⟩
    | true =>
      have HFU := hidK (hfu rfl)
      clear hfu
      obtain ⟨g', hg'⟩ : ∃ g', gk = g' + 1 := ⟨gk - 1, by have := HFU.out; omega⟩
      have HGK := hidK hg'
      clear hg'
      go_wp2_with fail
      refine (skip_any t s 93 rb base vr vn vp _ ht has HR.out.raise).mono ?_
      rintro e w3 ⟨rfl, hg3, hr3⟩
      have HG4 := hidK (grown_trans HG.out hg3)
      have HF4 := hidK (rangeAt_block HF.out (hg3.block B2 hbz (by intro e; injection e; omega)))
      have HT4 := hidK (there_block HT.out (hg3.block B2 hbz (by intro e; injection e; omega)))
      have HZ4 := hidK (there_block HZ.out (hg3.block w.heap.size (by omega) (by intro e; injection e; omega)))
      have hsz4 : B2 < w3.heap.size := by have := hg3.size; omega
      clear HG HF HT HZ hg3
      cases hn : nextB t 93 s with
      | true =>
        rw [skipP_yes hn] at hr3
        have HR4 := hidK hr3
        have hS : setR t st1 = (f, true, adv s) := by rw [HL.out, HGK.out]; exact setLoop_done hn
        clear hr3 HR
        cases o with
        | true =>
          have HE : Hid (setP t st = ((fun i => !(f i)), true, adv s)) := by unfold Hid; rw [HP.out, hS]; rfl
          clear hS
          go_wp2_with (first | (refine wpList_load_mid rfl 187 (.tmp 5) rfl B2 0 rfl (bitL f) _ HF4.out Try.underlying187 rfl (by rw [bitL_len]; exact Try.bytesSize) ?_) | fail)
          refine (not_any f _).mono ?_
          rintro e w9 ⟨rfl, hb9⟩
          have HR9 := hidK ((HR4.out.below hb9).raise)
          have HG9 := hidK (grown_trans HG4.out (grown_of_below hb9 (Nat.le_refl _) (some rb)))
          have HZ9 := hidK (there_below HZ4.out hb9 (by omega))
          clear hb9 HR4 HG4 HZ4 HF4 HT4
          go_wp2_with (first | (refine wpList_store_mid rfl 187 (.tmp 2) (.tmp 32) rfl w.heap.size 0 (bitL fun i => !(f i)).toArray rfl rfl (by rw [bitL_size]; exact HZ9.out) (by rw [bitL_size]; exact Try.bytesSize) (all_oneCell_toArray (bitL_one _)) ?_))
          refine ret_cell2 Try.results150 w.heap.size 0 (bitL fun i => !(f i)) _ (.bool true) rfl rfl ?_ Try.underlying187 rfl (by rw [bitL_len]; exact Try.bytesSize) rfl ?_
          · exact World.rangeAt_setCells_same _ _ _ _ (by rw [bitL_len]; exact HZ9.out)
          · rw [HE.out]
            exact ⟨rfl, fin_store h HR9.out.raise HG9.out _ _ _ (Nat.le_refl _)⟩
        | false =>
          have HE : Hid (setP t st = (f, true, adv s)) := by unfold Hid; rw [HP.out, hS]; rfl
          clear hS
          go_wp2_with (first | (refine wpList_load_mid rfl 187 (.tmp 5) rfl B2 0 rfl (bitL f) _ HF4.out Try.underlying187 rfl (by rw [bitL_len]; exact Try.bytesSize) ?_) | (refine wpList_store_mid rfl 187 (.tmp 2) (.tmp 33) rfl w.heap.size 0 (bitL f).toArray rfl rfl (by rw [bitL_size]; exact HZ4.out) (by rw [bitL_size]; exact Try.bytesSize) (all_oneCell_toArray (bitL_one _)) ?_))
          refine ret_cell2 Try.results150 w.heap.size 0 (bitL f) _ (.bool true) rfl rfl ?_ Try.underlying187 rfl (by rw [bitL_len]; exact Try.bytesSize) rfl ?_
          · exact World.rangeAt_setCells_same _ _ _ _ (by rw [bitL_len]; exact HZ4.out)
          · rw [HE.out]
            exact ⟨rfl, fin_store h HR4.out.raise HG4.out _ _ _ (Nat.le_refl _)⟩
      | false =>
        rw [skipP_no hn] at hr3
        have hS : setR t st1 = setLoop t g' (memberP t f s).1 (memberP t f s).2.1 (memberP t f s).2.2 := by rw [HL.out, HGK.out]; exact setLoop_more hn
        have hc5 := member_any t f s rb base vr vn vp w3 ht has hr3
        have hm5 := memberP_at (f := f) has
        have ha5 := @memberP_adv t f s
        generalize memberP t f s = M at *
        obtain ⟨f5, ok5, s5⟩ := M
        simp only at hc5 hm5 ha5
        have HS := hidK hS
        clear hS
        go_wp2_with (first | (refine wpList_load_mid rfl 187 (.tmp 5) rfl B2 0 rfl (bitL f) _ HF4.out Try.underlying187 rfl (by rw [bitL_len]; exact Try.bytesSize) ?_) | fail)
        refine hc5.mono ?_
        rintro e w5 ⟨rfl, hg5, hr5⟩
        have HG5 := hidK (grown_trans HG4.out hg5)
        have HT5 := hidK (there_block HT4.out (hg5.block B2 hsz4 (by intro e; injection e; omega)))
        have HZ5 := hidK (there_block HZ4.out (hg5.block w.heap.size (by omega) (by intro e; injection e; omega)))
        have hsz5 : B2 < w5.heap.size := by have := hg5.size; omega
        have HR5 := hidK hr5
        have HA5 := hidK ha5
        clear hg5 hr5 HG4 HF4 HT4 HZ4 hsz4 hr3 hc5 HR ha5
        go_wp2_with (first | (refine wpList_store_mid rfl 187 (.tmp 5) (.tmp 25) rfl B2 0 (bitL f5).toArray rfl rfl (by rw [bitL_size]; exact HT5.out) (by rw [bitL_size]; exact Try.bytesSize) (all_oneCell_toArray (bitL_one _)) ?_))
        go_roundg g'
        case measure => have := HGK.out; omega
        case rel =>
          have hbs := below_setCells (bitL f5) 0 w5 B2 (Below.refl w.heap.size _) (by omega)
          refine ⟨f5, ok5, s5, rfl, hm5.2, fun hok => ?_, HS.out, (h.retop HR5.out (by omega)).below hbs, ?_, ?_, ?_, grown_setCells HG5.out B2 0 (bitL f5) (by omega), ?_⟩
          · have a1 := HA5.out hok; have a2 := HFU.out; have a3 := HGK.out; omega
          · exact World.rangeAt_setCells_same _ _ _ _ (by rw [bitL_len]; exact HT5.out)
          · exact World.there_setCells HT5.out _ _ _
          · exact World.there_setCells HZ5.out _ _ _
          · have := hbs.size; omega
end Go.Proofs.Ytgjgjgihceijnaa

namespace Go.Proofs.Ytgjgjgihceijnaa
open Go.RowKit Go.Stn

theorem spOut_size : spOut.size ≤ 100 := by decide

set_option maxRecDepth 100000 in
set_option maxHeartbeats 1000000 in
theorem allowed_any (t : ByteArray) (st : PSt) (rb base : Nat) (vr vn vp : Value) (w : World) (ht : t.size ≤ 120) (hat : st.at_ ≤ t.size) (h : Rd w rb base w.heap.size t st vr vn vp) :
    Calls Try.prog 149 #[.pointer (some ⟨rb, 0, none⟩)] w fun e w' =>
      e = .returned (.tuple #[.agg (bitL (allowedP t st).1).toArray, .bool (allowedP t st).2.1]) ∧ RdTo w rb base t vr vn vp (allowedP t st).2.2 w' := by
  have hrb : rb < w.heap.size := by have := h.hb; have := h.hbt; omega
  have HR0 := hidK (h.below ((Below.refl _ _).alloc (Nat.le_refl _) (.cells Try.zeroCells187 187))).raise
  have HZ0 := hidK (there_newA w Try.zeroCells187 187 _ 256 Try.bytesZero rfl)
  have HG0 : Hid (w.grownBy (w.alloc (.cells Try.zeroCells187 187)) (some rb)) := grown_alloc2 (World.grownBy.refl _ _) _
  have hsz0 : (w.alloc (.cells Try.zeroCells187 187)).heap.size = w.heap.size + 1 := by simp
  go_enter Try.func149, Try.ntmps149
  go_wp2_with fail
  generalize w.alloc (.cells Try.zeroCells187 187) = W0 at *
  refine (skip_any t st 91 rb base vr vn vp _ ht hat HR0.out).mono ?_
  rintro e w1 ⟨rfl, hg1, hr1⟩
  have HG1 := hidK (grown_trans HG0.out hg1)
  have HZ1 := hidK (there_block HZ0.out (hg1.block w.heap.size (by omega) (by intro e; injection e; omega)))
  have hsz1 : w.heap.size + 1 ≤ w1.heap.size := by have := hg1.size; omega
  clear HR0 HZ0 HG0 hsz0 hg1
  cases h1 : nextB t 91 st with
  | true =>
    rw [skipP_yes h1] at hr1
    have hlt := nextB_lt (by omega) h1
    have HE : Hid (allowedP t st = setP t (adv st)) := by unfold Hid allowedP; rw [if_pos h1]
    have hc2 := set_any t (adv st) rb base vr vn vp w1 ht (adv_ok hlt) hr1
    generalize setP t (adv st) = M at *
    obtain ⟨f2, ok2, st2⟩ := M
    simp only at hc2
    go_wp2_with fail
    refine hc2.mono ?_
    rintro e w2 ⟨rfl, hg2, hr2⟩
    have HG2 := hidK (grown_trans HG1.out hg2)
    have HZ2 := hidK (there_block HZ1.out (hg2.block w.heap.size (by omega) (by intro e; injection e; omega)))
    have HR2 := hidK hr2
    clear HG1 HZ1 hr1 hg2 hr2 hc2
    go_wp2_with (first | (refine wpList_store_mid rfl 187 (.tmp 2) (.tmp 10) rfl w.heap.size 0 (bitL f2).toArray rfl rfl (by rw [bitL_size]; exact HZ2.out) (by rw [bitL_size]; exact Try.bytesSize) (all_oneCell_toArray (bitL_one _)) ?_))
    refine ret_cell2 Try.results149 w.heap.size 0 (bitL f2) _ (.bool ok2) rfl rfl ?_ Try.underlying187 rfl (by rw [bitL_len]; exact Try.bytesSize) rfl ?_
    · exact World.rangeAt_setCells_same _ _ _ _ (by rw [bitL_len]; exact HZ2.out)
    · rw [HE.out]
      exact ⟨rfl, fin_store h HR2.out.raise HG2.out _ _ _ (Nat.le_refl _)⟩
  | false =>
    have n1 : ¬ (nextB t 91 st = true) := by rw [h1]; decide
    rw [skipP_no h1] at hr1
    go_wp2_with fail
    refine (skip_any t st 46 rb base vr vn vp _ ht hat hr1).mono ?_
    rintro e w2 ⟨rfl, hg2, hr2⟩
    have HG2 := hidK (grown_trans HG1.out hg2)
    have HZ2 := hidK (there_block HZ1.out (hg2.block w.heap.size (by omega) (by intro e; injection e; omega)))
    have hsz2 : w.heap.size + 1 ≤ w2.heap.size := by have := hg2.size; omega
    clear HG1 HZ1 hr1 hg2 hsz1
    cases h2 : nextB t 46 st with
    | true =>
      rw [skipP_yes h2] at hr2
      have HR2 := hidK hr2
      have HE : Hid (allowedP t st = ((fun i => !(zeroF i)), true, adv st)) := by unfold Hid allowedP; rw [if_neg n1, if_pos h2]
      clear hr2 n1
      go_wp2_with fail
      rw [Try.bytesZeroA]
      refine (not_any zeroF _).mono ?_
      rintro e w9 ⟨rfl, hb9⟩
      have HR9 := hidK ((HR2.out.below hb9).raise)
      have HG9 := hidK (grown_trans HG2.out (grown_of_below hb9 (Nat.le_refl _) (some rb)))
      have HZ9 := hidK (there_below HZ2.out hb9 (by omega))
      clear hb9 HR2 HG2 HZ2
      go_wp2_with (first | (refine wpList_store_mid rfl 187 (.tmp 2) (.tmp 15) rfl w.heap.size 0 (bitL fun i => !(zeroF i)).toArray rfl rfl (by rw [bitL_size]; exact HZ9.out) (by rw [bitL_size]; exact Try.bytesSize) (all_oneCell_toArray (bitL_one _)) ?_))
      refine ret_cell2 Try.results149 w.heap.size 0 (bitL fun i => !(zeroF i)) _ (.bool true) rfl rfl ?_ Try.underlying187 rfl (by rw [bitL_len]; exact Try.bytesSize) rfl ?_
      · exact World.rangeAt_setCells_same _ _ _ _ (by rw [bitL_len]; exact HZ9.out)
      · rw [HE.out]
        exact ⟨rfl, fin_store h HR9.out.raise HG9.out _ _ _ (Nat.le_refl _)⟩
    | false =>
      have n2 : ¬ (nextB t 46 st = true) := by rw [h2]; decide
      rw [skipP_no h2] at hr2
      have hfit := singleP_fits t spOut st
      have hc3 := single_any t spOut st rb base vr vn vp w2 ht spOut_size hat hr2
      have HY : Hid ((singleP t spOut st).2.1 = true → allowedP t st = (withB zeroF (singleP t spOut st).1 (singleP t spOut st).1, true, (singleP t spOut st).2.2)) := by
        intro hq; unfold allowedP; rw [if_neg n1, if_neg n2, if_pos hq]
      have HN : Hid ((singleP t spOut st).2.1 = false → allowedP t st = (zeroF, false, (singleP t spOut st).2.2)) := by
        intro hq; unfold allowedP; rw [if_neg n1, if_neg n2, if_neg (by rw [hq]; decide)]
      generalize singleP t spOut st = M at *
      obtain ⟨b3, ok3, st3⟩ := M
      simp only at hc3 hfit HY HN
      clear n1 n2
      go_wp2_with fail
      refine hc3.mono ?_
      rintro e w3 ⟨rfl, hg3, hr3⟩
      have HG3 := hidK (grown_trans HG2.out hg3)
      have HZ3 := hidK (there_block HZ2.out (hg3.block w.heap.size (by omega) (by intro e; injection e; omega)))
      have HR3 := hidK hr3
      have hsz3 : w.heap.size + 1 ≤ w3.heap.size := by have := hg3.size; omega
      clear HG2 HZ2 hr2 hg3 hr3 hc3 hsz2
      cases ok3 with
      | false =>
        have HE : Hid (allowedP t st = (zeroF, false, st3)) := HN.out rfl
        go_wp2_with (first | (refine wpList_store_mid rfl 187 (.tmp 2) (.tmp 23) rfl w.heap.size 0 Try.zeroCells187 rfl rfl (by rw [Try.bytesZero]; exact HZ3.out) (by rw [Try.bytesZero]; exact Try.bytesSize) Try.bytesZeroOne ?_))
        refine ret_cell2 Try.results149 w.heap.size 0 (bitL zeroF) _ (.bool false) rfl rfl ?_ Try.underlying187 rfl (by rw [bitL_len]; exact Try.bytesSize) rfl ?_
        · rw [Try.bytesZeroL2]; exact World.rangeAt_setCells_same _ _ _ _ (by rw [bitL_len]; exact HZ3.out)
        · rw [HE.out]
          exact ⟨rfl, fin_store h HR3.out.raise HG3.out _ _ _ (Nat.le_refl _)⟩
      | true =>
        have HE : Hid (allowedP t st = (withB zeroF b3 b3, true, st3)) := HY.out rfl
        go_wp2_with fail
        rw [Try.bytesZeroA]
        refine (with_any zeroF b3 b3 _).mono ?_
        rintro e w9 ⟨rfl, hb9⟩
        have HR9 := hidK ((HR3.out.below hb9).raise)
        have HG9 := hidK (grown_trans HG3.out (grown_of_below hb9 (Nat.le_refl _) (some rb)))
        have HZ9 := hidK (there_below HZ3.out hb9 (by omega))
        clear hb9 HR3 HG3 HZ3
        go_wp2_with (first | (refine wpList_store_mid rfl 187 (.tmp 2) (.tmp 27) rfl w.heap.size 0 (bitL (withB zeroF b3 b3)).toArray rfl rfl (by rw [bitL_size]; exact HZ9.out) (by rw [bitL_size]; exact Try.bytesSize) (all_oneCell_toArray (bitL_one _)) ?_))
        refine ret_cell2 Try.results149 w.heap.size 0 (bitL (withB zeroF b3 b3)) _ (.bool true) rfl rfl ?_ Try.underlying187 rfl (by rw [bitL_len]; exact Try.bytesSize) rfl ?_
        · exact World.rangeAt_setCells_same _ _ _ _ (by rw [bitL_len]; exact HZ9.out)
        · rw [HE.out]
          exact ⟨rfl, fin_store h HR9.out.raise HG9.out _ _ _ (Nat.le_refl _)⟩
end Go.Proofs.Ytgjgjgihceijnaa

namespace Go.Stn
/-- The same but for the place. -/
def sameL (a b : PSt) : Prop := b.rules = a.rules ∧ b.nodes = a.nodes ∧ b.places = a.places
theorem sameL.refl (a : PSt) : sameL a a := ⟨rfl, rfl, rfl⟩
theorem sameL.adv (a : PSt) : sameL a (Go.Stn.adv a) := ⟨rfl, rfl, rfl⟩
theorem sameL.trans {a b c : PSt} (h : sameL a b) (k : sameL b c) : sameL a c := ⟨k.1.trans h.1, k.2.1.trans h.2.1, k.2.2.trans h.2.2⟩

theorem escP_same (t : ByteArray) (st : PSt) : sameL st (escP t st).2.2 := by
  unfold escP
  by_cases h1 : nextB t 110 st = true
  · rw [if_pos h1]; exact sameL.adv st
  · rw [if_neg h1]
    by_cases h2 : nextB t 115 st = true
    · rw [if_pos h2]; exact sameL.adv st
    · rw [if_neg h2]
      split
      · exact sameL.adv st
      · exact sameL.refl st
theorem singleP_same (t sp : ByteArray) (st : PSt) : sameL st (singleP t sp st).2.2 := by
  unfold singleP
  by_cases h1 : nextB t 92 st = true
  · rw [if_pos h1]; exact (sameL.adv st).trans (escP_same t _)
  · rw [if_neg h1]
    split
    · exact sameL.adv st
    · exact sameL.refl st
theorem memberP_same (t : ByteArray) (f : Nat → Bool) (st : PSt) : sameL st (memberP t f st).2.2 := by
  have h1 := singleP_same t spIn st
  obtain ⟨b1, ok1, s1, hS1⟩ : ∃ b ok s, singleP t spIn st = (b, ok, s) := ⟨_, _, _, rfl⟩
  rw [hS1] at h1
  cases ok1 with
  | false => rw [memberP_no1 hS1]; exact h1
  | true =>
    cases hn : nextB t 45 s1 with
    | false => rw [memberP_one hS1 hn]; exact h1
    | true =>
      have h2 := singleP_same t spIn (adv s1)
      obtain ⟨b2, ok2, s2, hS2⟩ : ∃ b ok s, singleP t spIn (adv s1) = (b, ok, s) := ⟨_, _, _, rfl⟩
      rw [hS2] at h2
      have h3 := (h1.trans (sameL.adv s1)).trans h2
      by_cases hb : ok2 = false ∨ b2 < b1
      · rw [memberP_no2 hS1 hn hS2 hb]; exact h3
      · have ho : ok2 = true := by cases ok2 <;> simp_all
        subst ho
        rw [memberP_two hS1 hn hS2 (by simp at hb; omega)]; exact h3
theorem setLoop_same (t : ByteArray) : ∀ (n : Nat) (f : Nat → Bool) (ok : Bool) (st : PSt), sameL st (setLoop t n f ok st).2.2 := by
  intro n
  induction n with
  | zero => intro f ok st; exact sameL.refl st
  | succ e ih =>
    intro f ok st
    rw [setLoop]
    split
    · exact sameL.refl st
    · split
      · exact sameL.adv st
      · exact (memberP_same t f st).trans (ih _ _ _)
theorem setR_same (t : ByteArray) (st : PSt) : sameL st (setR t st).2.2 := (memberP_same t zeroF st).trans (setLoop_same t _ _ _ _)
theorem setP_same (t : ByteArray) (st : PSt) : sameL st (setP t st).2.2 := by
  unfold setP
  by_cases h1 : nextB t 94 st = true
  · rw [if_pos h1]
    have := (sameL.adv st).trans (setR_same t (adv st))
    split <;> exact this
  · rw [if_neg h1]
    have := setR_same t st
    split <;> exact this
theorem allowedP_same (t : ByteArray) (st : PSt) : sameL st (allowedP t st).2.2 := by
  unfold allowedP
  by_cases h1 : nextB t 91 st = true
  · rw [if_pos h1]; exact (sameL.adv st).trans (setP_same t _)
  · rw [if_neg h1]
    by_cases h2 : nextB t 46 st = true
    · rw [if_pos h2]; exact sameL.adv st
    · rw [if_neg h2]
      have := singleP_same t spOut st
      split <;> exact this
end Go.Stn

namespace Go.Stn
def addN (x : Int × Int × Int) (st : PSt) : PSt := { st with nodes := st.nodes ++ [x] }
def addP (f : Nat → Bool) (st : PSt) : PSt := { st with places := st.places ++ [f] }
/-- A place of an expression: its node. -/
def placeP (t : ByteArray) (st : PSt) : Int × Bool × PSt :=
  if (allowedP t st).2.1 = true then (((allowedP t st).2.2.nodes.length : Int), true, addN (0, ((allowedP t st).2.2.places.length : Int), 0) (addP (allowedP t st).1 (allowedP t st).2.2))
  else (0, false, (allowedP t st).2.2)
/-- Does a piece begin here? -/
def atPieceB (t : ByteArray) (st : PSt) : Bool :=
  decide (peekP t st.at_ = 40 ∨ peekP t st.at_ = 91 ∨ peekP t st.at_ = 46 ∨ peekP t st.at_ = 92) || plainB (peekP t st.at_) spOut

/-- An atom, a piece, an alternative, by what reads an expression in brackets. -/
def atomP (t : ByteArray) (ex : PSt → Int × Bool × PSt) (st : PSt) : Int × Bool × PSt :=
  if nextB t 40 st = true then
    (if (ex (adv st)).2.1 = true ∧ nextB t 41 (ex (adv st)).2.2 = true then ((ex (adv st)).1, true, adv (ex (adv st)).2.2) else (0, false, (ex (adv st)).2.2))
  else placeP t st
/-- The kind of a piece's mark; 0: there is none. -/
def markK (p : Int) : Int := if p = 63 then 3 else if p = 43 then 4 else if p = 42 then 5 else 0
def pieceP (t : ByteArray) (ex : PSt → Int × Bool × PSt) (st : PSt) : Int × Bool × PSt :=
  if (atomP t ex st).2.1 = true then
    (if markK (peekP t (atomP t ex st).2.2.at_) = 0 then ((atomP t ex st).1, true, (atomP t ex st).2.2)
     else (((atomP t ex st).2.2.nodes.length : Int), true, addN (markK (peekP t (atomP t ex st).2.2.at_), (atomP t ex st).1, 0) (adv (atomP t ex st).2.2)))
  else (0, false, (atomP t ex st).2.2)
def altLoop (t : ByteArray) (ex : PSt → Int × Bool × PSt) : Nat → Int → Bool → PSt → Int × Bool × PSt
  | 0, whole, _, st => (whole, false, st)
  | n + 1, whole, ok, st =>
    if ok = false then (whole, false, st)
    else if atPieceB t st = false then (whole, true, st)
    else altLoop t ex n ((pieceP t ex st).2.2.nodes.length : Int) (pieceP t ex st).2.1 (addN (1, whole, (pieceP t ex st).1) (pieceP t ex st).2.2)
def altP (t : ByteArray) (ex : PSt → Int × Bool × PSt) (st : PSt) : Int × Bool × PSt :=
  altLoop t ex (t.size + 1) (pieceP t ex st).1 (pieceP t ex st).2.1 (pieceP t ex st).2.2
def exprLoop (t : ByteArray) (ex : PSt → Int × Bool × PSt) : Nat → Int → Bool → PSt → Int × Bool × PSt
  | 0, whole, _, st => (whole, false, st)
  | n + 1, whole, ok, st =>
    if ok = false then (whole, false, st)
    else if nextB t 124 st = false then (whole, true, st)
    else exprLoop t ex n ((altP t ex (adv st)).2.2.nodes.length : Int) (altP t ex (adv st)).2.1 (addN (2, whole, (altP t ex (adv st)).1) (altP t ex (adv st)).2.2)
/-- An expression; the fuel: one more than the bytes ahead serves. -/
def exprP (t : ByteArray) : Nat → PSt → Int × Bool × PSt
  | 0, st => (0, false, st)
  | f + 1, st => exprLoop t (exprP t f) (t.size + 1) (altP t (exprP t f) st).1 (altP t (exprP t f) st).2.1 (altP t (exprP t f) st).2.2

/-- How far the reader goes on, and how much it gathers by that. -/
def Gr (t : ByteArray) (a b : PSt) : Prop := a.at_ ≤ b.at_ ∧ b.at_ ≤ t.size ∧ b.nodes.length + 3 * a.at_ ≤ a.nodes.length + 3 * b.at_ ∧ b.places.length + a.at_ ≤ a.places.length + b.at_
/-- The same, and one node to spare, or nothing was read. -/
def GrS (t : ByteArray) (a b : PSt) : Prop := (b.nodes.length + 1 + 3 * a.at_ ≤ a.nodes.length + 3 * b.at_ ∧ a.at_ < b.at_ ∧ b.at_ ≤ t.size ∧ b.places.length + a.at_ ≤ a.places.length + b.at_) ∨
  (b.nodes.length = a.nodes.length ∧ b.at_ = a.at_ ∧ b.places.length = a.places.length ∧ b.at_ ≤ t.size)

theorem Gr.refl {t : ByteArray} {a : PSt} (h : a.at_ ≤ t.size) : Gr t a a := ⟨Nat.le_refl _, h, Nat.le_refl _, Nat.le_refl _⟩
theorem Gr.trans {t : ByteArray} {a b c : PSt} (h : Gr t a b) (k : Gr t b c) : Gr t a c := by
  obtain ⟨h1, h2, h3, h4⟩ := h
  obtain ⟨k1, k2, k3, k4⟩ := k
  exact ⟨by omega, k2, by omega, by omega⟩
theorem GrS.gr {t : ByteArray} {a b : PSt} (h : GrS t a b) : Gr t a b := by
  rcases h with ⟨h1, h2, h3, h4⟩ | ⟨h1, h2, h3, h4⟩
  · exact ⟨by omega, h3, by omega, h4⟩
  · exact ⟨by omega, h4, by omega, by omega⟩

theorem setLoop_at {t : ByteArray} : ∀ (n : Nat) (f : Nat → Bool) (ok : Bool) (st : PSt), st.at_ ≤ t.size → st.at_ ≤ (setLoop t n f ok st).2.2.at_ ∧ (setLoop t n f ok st).2.2.at_ ≤ t.size := by
  intro n
  induction n with
  | zero => intro f ok st h; exact ⟨Nat.le_refl _, h⟩
  | succ e ih =>
    intro f ok st h
    rw [setLoop]
    split
    · exact ⟨Nat.le_refl _, h⟩
    · split
      · rename_i hn; have := nextB_lt (by omega) hn; simp only [adv_at]; omega
      · have h1 := memberP_at (f := f) h
        have h2 := ih (memberP t f st).1 (memberP t f st).2.1 (memberP t f st).2.2 h1.2
        omega
theorem setR_at {t : ByteArray} {st : PSt} (h : st.at_ ≤ t.size) : st.at_ ≤ (setR t st).2.2.at_ ∧ (setR t st).2.2.at_ ≤ t.size := by
  have h1 := memberP_at (f := zeroF) h
  have h2 := setLoop_at (t := t) (t.size + 1) (memberP t zeroF st).1 (memberP t zeroF st).2.1 (memberP t zeroF st).2.2 h1.2
  unfold setR
  omega
theorem setP_at {t : ByteArray} {st : PSt} (h : st.at_ ≤ t.size) : st.at_ ≤ (setP t st).2.2.at_ ∧ (setP t st).2.2.at_ ≤ t.size := by
  unfold setP
  by_cases h1 : nextB t 94 st = true
  · rw [if_pos h1]
    have hl := nextB_lt (by omega) h1
    have := setR_at (t := t) (st := adv st) (by rw [adv_at]; omega)
    rw [adv_at] at this
    split <;> (simp only; omega)
  · rw [if_neg h1]
    have := setR_at (t := t) h
    split <;> exact this
theorem allowedP_at {t : ByteArray} {st : PSt} (h : st.at_ ≤ t.size) : st.at_ ≤ (allowedP t st).2.2.at_ ∧ (allowedP t st).2.2.at_ ≤ t.size := by
  unfold allowedP
  by_cases h1 : nextB t 91 st = true
  · rw [if_pos h1]
    have hl := nextB_lt (by omega) h1
    have := setP_at (t := t) (st := adv st) (by rw [adv_at]; omega)
    rw [adv_at] at this; omega
  · rw [if_neg h1]
    by_cases h2 : nextB t 46 st = true
    · rw [if_pos h2]; have := nextB_lt (by omega) h2; simp only [adv_at]; omega
    · rw [if_neg h2]
      have := singleP_at (sp := spOut) h
      split <;> exact this
/-- Where a piece begins that is no bracket a place reads a byte at least, even one that is none. -/
theorem allowedP_adv {t : ByteArray} {st : PSt} (hok : atPieceB t st = true) (hn : nextB t 40 st = false) : st.at_ < (allowedP t st).2.2.at_ := by
  unfold allowedP
  by_cases h1 : nextB t 91 st = true
  · rw [if_pos h1]
    have hl := nextB_lt (by omega) h1
    have := setP_at (t := t) (st := adv st) (by rw [adv_at]; omega)
    rw [adv_at] at this; omega
  · rw [if_neg h1]
    by_cases h2 : nextB t 46 st = true
    · rw [if_pos h2]; simp only [adv_at]; omega
    · rw [if_neg h2]
      have h3 : st.at_ < (singleP t spOut st).2.2.at_ := by
        unfold singleP
        by_cases h4 : nextB t 92 st = true
        · rw [if_pos h4]
          have hl := nextB_lt (by omega) h4
          have := escP_at (t := t) (st := adv st) (by rw [adv_at]; omega)
          rw [adv_at] at this; omega
        · rw [if_neg h4]
          have h5 : plainB (peekP t st.at_) spOut = true := by
            unfold atPieceB at hok
            rw [Bool.or_eq_true, decide_eq_true_eq] at hok
            rcases hok with (e | e | e | e) | e
            · unfold nextB at hn; rw [decide_eq_false_iff_not] at hn; exact absurd e hn
            · unfold nextB at h1; rw [decide_eq_true_eq] at h1; exact absurd e h1
            · unfold nextB at h2; rw [decide_eq_true_eq] at h2; exact absurd e h2
            · unfold nextB at h4; rw [decide_eq_true_eq] at h4; exact absurd e h4
            · exact e
          rw [if_pos h5]; simp only [adv_at]; omega
      split <;> exact h3

theorem GrS_same {t : ByteArray} {a b : PSt} (h : sameL a b) (h1 : a.at_ ≤ b.at_) (h2 : b.at_ ≤ t.size) : GrS t a b := by
  have e1 : b.nodes.length = a.nodes.length := by rw [h.2.1]
  have e2 : b.places.length = a.places.length := by rw [h.2.2]
  by_cases e : a.at_ = b.at_
  · exact .inr ⟨e1, e.symm, e2, h2⟩
  · exact .inl ⟨by omega, by omega, h2, by omega⟩

theorem allowedP_adv2 {t : ByteArray} {st : PSt} (hok : (allowedP t st).2.1 = true) : st.at_ < (allowedP t st).2.2.at_ := by
  unfold allowedP at hok ⊢
  by_cases h1 : nextB t 91 st = true
  · rw [if_pos h1]
    have hl := nextB_lt (by omega) h1
    have := setP_at (t := t) (st := adv st) (by rw [adv_at]; omega)
    rw [adv_at] at this; omega
  · rw [if_neg h1] at hok ⊢
    by_cases h2 : nextB t 46 st = true
    · rw [if_pos h2]; simp only [adv_at]; omega
    · rw [if_neg h2] at hok ⊢
      by_cases h3 : (singleP t spOut st).2.1 = true
      · rw [if_pos h3]; exact singleP_adv h3
      · rw [if_neg h3] at hok; simp at hok

theorem placeP_gr {t : ByteArray} {st : PSt} (h : st.at_ ≤ t.size) : GrS t st (placeP t st).2.2 := by
  have h1 := allowedP_at h
  have h2 := allowedP_same t st
  have e1 : (allowedP t st).2.2.nodes.length = st.nodes.length := by rw [h2.2.1]
  have e2 : (allowedP t st).2.2.places.length = st.places.length := by rw [h2.2.2]
  unfold placeP
  by_cases hok : (allowedP t st).2.1 = true
  · have h3 := allowedP_adv2 hok
    rw [if_pos hok]
    left
    refine ⟨?_, h3, h1.2, ?_⟩
    · simp only [addN, addP, List.length_append, List.length_singleton]; omega
    · simp only [addN, addP, List.length_append, List.length_singleton]; omega
  · rw [if_neg hok]; exact GrS_same h2 h1.1 h1.2

/-- What reads the expressions in brackets goes on rightly. -/
def ExOk (t : ByteArray) (ex : PSt → Int × Bool × PSt) : Prop := ∀ st, st.at_ ≤ t.size → Gr t st (ex st).2.2

theorem Gr_adv {t : ByteArray} {a b : PSt} (h : Gr t (adv a) b) : GrS t a b := by
  obtain ⟨h1, h2, h3, h4⟩ := h
  rw [adv_at] at h1 h3 h4
  have e1 : (adv a).nodes = a.nodes := rfl
  have e2 : (adv a).places = a.places := rfl
  rw [e1] at h3
  rw [e2] at h4
  exact .inl ⟨by omega, by omega, h2, by omega⟩

theorem atomP_gr {t : ByteArray} {ex : PSt → Int × Bool × PSt} (hx : ExOk t ex) {st : PSt} (h : st.at_ ≤ t.size) : GrS t st (atomP t ex st).2.2 := by
  unfold atomP
  by_cases h1 : nextB t 40 st = true
  · rw [if_pos h1]
    have hl := nextB_lt (by omega) h1
    have hg := hx (adv st) (by rw [adv_at]; omega)
    split
    · rename_i hc
      have hl2 := nextB_lt (by omega) hc.2
      refine Gr_adv (hg.trans ⟨by rw [adv_at]; omega, by rw [adv_at]; omega, ?_, ?_⟩)
      · show (ex (adv st)).2.2.nodes.length + 3 * (ex (adv st)).2.2.at_ ≤ (ex (adv st)).2.2.nodes.length + 3 * (adv (ex (adv st)).2.2).at_; rw [adv_at]; omega
      · show (ex (adv st)).2.2.places.length + (ex (adv st)).2.2.at_ ≤ (ex (adv st)).2.2.places.length + (adv (ex (adv st)).2.2).at_; rw [adv_at]; omega
    · exact Gr_adv hg
  · rw [if_neg h1]; exact placeP_gr h

theorem markK_lt {t : ByteArray} {a : Nat} (h : markK (peekP t a) ≠ 0) : a < t.size := by
  rcases Nat.lt_or_ge a t.size with h1 | h1
  · exact h1
  · rw [peekP_end h1] at h; exact absurd rfl h

theorem pieceP_gr {t : ByteArray} {ex : PSt → Int × Bool × PSt} (hx : ExOk t ex) {st : PSt} (h : st.at_ ≤ t.size) : GrS t st (pieceP t ex st).2.2 := by
  have hg := atomP_gr hx h
  unfold pieceP
  split
  · split
    · exact hg
    · rename_i hm
      have hl := markK_lt hm
      left
      have e1 : (addN (markK (peekP t (atomP t ex st).2.2.at_), (atomP t ex st).1, 0) (adv (atomP t ex st).2.2)).nodes.length = (atomP t ex st).2.2.nodes.length + 1 := by simp [addN, adv]
      have e2 : (addN (markK (peekP t (atomP t ex st).2.2.at_), (atomP t ex st).1, 0) (adv (atomP t ex st).2.2)).places = (atomP t ex st).2.2.places := rfl
      have e3 : (addN (markK (peekP t (atomP t ex st).2.2.at_), (atomP t ex st).1, 0) (adv (atomP t ex st).2.2)).at_ = (atomP t ex st).2.2.at_ + 1 := rfl
      simp only [e1, e2, e3]
      rcases hg with ⟨g1, g2, g3, g4⟩ | ⟨g1, g2, g3, g4⟩
      · exact ⟨by omega, by omega, by omega, by omega⟩
      · exact ⟨by omega, by omega, by omega, by omega⟩
  · exact hg

theorem pieceP_adv {t : ByteArray} {ex : PSt → Int × Bool × PSt} (hx : ExOk t ex) {st : PSt} (hp : atPieceB t st = true) : st.at_ < (pieceP t ex st).2.2.at_ := by
  have ha : st.at_ < (atomP t ex st).2.2.at_ := by
    unfold atomP
    by_cases h1 : nextB t 40 st = true
    · rw [if_pos h1]
      have hl := nextB_lt (by omega) h1
      have hg := (hx (adv st) (by rw [adv_at]; omega)).1
      rw [adv_at] at hg
      split
      · simp only [adv_at]; omega
      · simp only; omega
    · rw [if_neg h1]
      have h2 := allowedP_adv hp (by simpa using h1)
      unfold placeP
      split
      · exact h2
      · exact h2
  unfold pieceP
  split
  · split
    · exact ha
    · show st.at_ < (atomP t ex st).2.2.at_ + 1; omega
  · exact ha

theorem altLoop_gr {t : ByteArray} {ex : PSt → Int × Bool × PSt} (hx : ExOk t ex) : ∀ (n : Nat) (whole : Int) (ok : Bool) (st : PSt), st.at_ ≤ t.size → Gr t st (altLoop t ex n whole ok st).2.2 := by
  intro n
  induction n with
  | zero => intro whole ok st h; exact Gr.refl h
  | succ e ih =>
    intro whole ok st h
    rw [altLoop]
    split
    · exact Gr.refl h
    · split
      · exact Gr.refl h
      · rename_i hp
        have hp : atPieceB t st = true := by simpa using hp
        have ha := pieceP_adv hx hp
        have hg := pieceP_gr hx h
        have h1 : Gr t st (addN (1, whole, (pieceP t ex st).1) (pieceP t ex st).2.2) := by
          rcases hg with ⟨g1, g2, g3, g4⟩ | ⟨g1, g2, g3, g4⟩
          · exact ⟨by show st.at_ ≤ (pieceP t ex st).2.2.at_; omega, g3, by simp only [addN, List.length_append, List.length_singleton]; omega, g4⟩
          · omega
        exact h1.trans (ih _ _ _ h1.2.1)

theorem altP_gr {t : ByteArray} {ex : PSt → Int × Bool × PSt} (hx : ExOk t ex) {st : PSt} (h : st.at_ ≤ t.size) : Gr t st (altP t ex st).2.2 := by
  have hg := (pieceP_gr hx h).gr
  exact hg.trans (altLoop_gr hx _ _ _ _ hg.2.1)

theorem exprLoop_gr {t : ByteArray} {ex : PSt → Int × Bool × PSt} (hx : ExOk t ex) : ∀ (n : Nat) (whole : Int) (ok : Bool) (st : PSt), st.at_ ≤ t.size → Gr t st (exprLoop t ex n whole ok st).2.2 := by
  intro n
  induction n with
  | zero => intro whole ok st h; exact Gr.refl h
  | succ e ih =>
    intro whole ok st h
    rw [exprLoop]
    split
    · exact Gr.refl h
    · split
      · exact Gr.refl h
      · rename_i hp
        have hl := nextB_lt (by omega) (show nextB t 124 st = true by simpa using hp)
        have hg := Gr_adv (altP_gr hx (st := adv st) (by rw [adv_at]; omega))
        have h1 : Gr t st (addN (2, whole, (altP t ex (adv st)).1) (altP t ex (adv st)).2.2) := by
          have ha := (altP_gr hx (st := adv st) (by rw [adv_at]; omega)).1
          rw [adv_at] at ha
          rcases hg with ⟨g1, g2, g3, g4⟩ | ⟨g1, g2, g3, g4⟩
          · exact ⟨by show st.at_ ≤ (altP t ex (adv st)).2.2.at_; omega, g3, by simp only [addN, List.length_append, List.length_singleton]; omega, g4⟩
          · omega
        exact h1.trans (ih _ _ _ h1.2.1)

theorem exprP_ok (t : ByteArray) : ∀ f, ExOk t (exprP t f) := by
  intro f
  induction f with
  | zero => intro st h; exact Gr.refl h
  | succ e ih =>
    intro st h
    have hg := altP_gr ih h
    exact hg.trans (exprLoop_gr ih _ _ _ _ hg.2.1)

theorem altLoop_false (t : ByteArray) (ex : PSt → Int × Bool × PSt) (n : Nat) (whole : Int) (st : PSt) : altLoop t ex n whole false st = (whole, false, st) := by cases n <;> rfl
theorem altLoop_done {t : ByteArray} {ex : PSt → Int × Bool × PSt} {n : Nat} {whole : Int} {st : PSt} (h : atPieceB t st = false) : altLoop t ex (n + 1) whole true st = (whole, true, st) := by
  rw [altLoop, if_neg (by decide), if_pos h]
theorem altLoop_more {t : ByteArray} {ex : PSt → Int × Bool × PSt} {n : Nat} {whole : Int} {st : PSt} (h : atPieceB t st = true) :
    altLoop t ex (n + 1) whole true st = altLoop t ex n ((pieceP t ex st).2.2.nodes.length : Int) (pieceP t ex st).2.1 (addN (1, whole, (pieceP t ex st).1) (pieceP t ex st).2.2) := by
  rw [altLoop, if_neg (by decide), if_neg (by rw [h]; decide)]
theorem exprLoop_false (t : ByteArray) (ex : PSt → Int × Bool × PSt) (n : Nat) (whole : Int) (st : PSt) : exprLoop t ex n whole false st = (whole, false, st) := by cases n <;> rfl
theorem exprLoop_done {t : ByteArray} {ex : PSt → Int × Bool × PSt} {n : Nat} {whole : Int} {st : PSt} (h : nextB t 124 st = false) : exprLoop t ex (n + 1) whole true st = (whole, true, st) := by
  rw [exprLoop, if_neg (by decide), if_pos h]
theorem exprLoop_more {t : ByteArray} {ex : PSt → Int × Bool × PSt} {n : Nat} {whole : Int} {st : PSt} (h : nextB t 124 st = true) :
    exprLoop t ex (n + 1) whole true st = exprLoop t ex n ((altP t ex (adv st)).2.2.nodes.length : Int) (altP t ex (adv st)).2.1 (addN (2, whole, (altP t ex (adv st)).1) (altP t ex (adv st)).2.2) := by
  rw [exprLoop, if_neg (by decide), if_neg (by rw [h]; decide)]
end Go.Stn

