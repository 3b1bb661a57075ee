/- Texts put together: StMerge, RfSteps, RfPure2, RfSingle, RfMember. -/
import Derived.Test.YtgjgjgihceijnaaG08
import Derived.Test.YtgjgjgihceijnaaG02
import Derived.Test.YtgjgjgihceijnaaG01
namespace Go.Proofs.Ytgjgjgihceijnaa
open Go.RowKit Go.Stn

theorem madeInt_n (n : Nat) : (madeCells (Value.int .i64 0).cells (n * 1)).toList = (List.replicate n (0 : Nat)).map (fun (_ : Nat) => Value.int .i64 0) := by
  have h : ∀ i : Nat, (Value.int .i64 0).cells[i % (Value.int .i64 0).cells.size]! = Value.int .i64 0 := by
    intro i
    have e : i % (Value.int .i64 0).cells.size = 0 := by simp [Value.cells, Nat.mod_one]
    rw [e]; simp [Value.cells]
  unfold madeCells
  rw [Nat.mul_one]
  simp only [h, Array.toList_map, Array.toList_range]
  rw [List.map_replicate, List.eq_replicate_iff]
  exact ⟨by simp, by intro b hb; simp at hb; exact hb.2.symm⟩
theorem sin_top {w : World} {top top' g n K : Nat} {zb tk : Nat → Nat} {nx : Nat → Nat → Int} (h : SIn w top g n K zb tk nx) (ht : top ≤ top') : SIn w top' g n K zb tk nx :=
  ⟨h.tkc, h.nxc, h.ldc, Nat.lt_of_lt_of_le h.bg ht, fun s hs => Nat.lt_of_lt_of_le (h.bz s hs) ht⟩

/-- What merge comes to. -/
def MergeOut (w : World) (K : Nat) : Option (List (Nat × List Int)) → Ending → World → Prop
  | none, e, w' => e = .returned (.tuple #[.slice none 0 0, .bool false]) ∧ Below w.heap.size w w'
  | some l, e, w' => ∃ v, StatesOut w K l (.returned v) w' ∧ e = .returned (.tuple #[v, .bool true])

set_option maxRecDepth 100000 in
set_option maxHeartbeats 1000000 in
theorem smerge_any (g n cap K : Nat) (zb tk : Nat → Nat) (nx : Nat → Nat → Int) (w : World) (hn : n ≤ 2000) (hK : K ≤ 300)
    (hr : ∀ i k, i < n → k < K → nx i k = -1 ∨ (0 ≤ nx i k ∧ nx i k < n)) (hS : SIn w w.heap.size g n K zb tk nx) :
    Calls Try.prog 65 #[.slice (some ⟨g, 0, none⟩) n cap] w fun e w' => MergeOut w K (mergeP n tk nx K) e w' := by
  obtain ⟨i0, hi0, hz0, hz1, hz2⟩ := info_parts Try.infoInt
  have HI : Hid (Try.prog.info? 3 = some i0 ∧ i0.zero = some (.int .i64 0) ∧ i0.size = 1 ∧ i0.bytes = 8) := ⟨hi0, hz0, hz1, hz2⟩
  clear hi0 hz0 hz1 hz2
  have HS := hidZ hS
  have HR := hidZ hr
  clear hS hr
  go_enter Try.func65, Try.ntmps65
  go_wp2_with (first | (at_make; refine wpList_make_full w rfl _ _ 30 rfl w.heap.size 3 i0 (.int .i64 0) 1 Try.underlying30 HI.out.1 HI.out.2.1 HI.out.2.2.1 .i64 .i64 _ _ n rfl rfl rfl rfl (by rw [HI.out.2.2.2]; omega) (by unfold maxLen; omega) (Nat.le_refl _) ?_; intro w1 hown hg))
  have HN1 : Hid (NIn w1 w.heap.size n (listF (List.replicate n 0))) := fun i hi => by
    have h1 := hown.cells rfl i (.int .i64 0) (by
      rw [madeInt_n, List.getElem?_map, List.getElem?_replicate, if_pos hi]; rfl)
    have e : listF (List.replicate n 0) i = 0 := by unfold listF; rw [List.getD_eq_getElem?_getD, List.getElem?_replicate, if_pos hi]; rfl
    rw [e]
    by_cases hj : i = 0
    · subst hj; simpa [Addr.add] using h1
    · simpa [Addr.add, hj] using h1
  have HB1 : Hid (Below w.heap.size w w1) := ⟨hg.os, hg.tape, hg.output, hg.size, fun k hk => hg.block k hk (by simp)⟩
  have hz1 : w.heap.size < w1.heap.size := (hown.lt w.heap.size rfl).2
  clear hown hg
  obtain ⟨MP, EMP⟩ : ∃ m, mergeL n tk nx K 102 (List.replicate n 0) 0 = m := ⟨_, rfl⟩
  have HMP : Hid (mergeP n tk nx K = MP.map fun x => gatherP tk nx K x.1 x.2) := by unfold Hid mergeP; rw [EMP]
  replace EMP := hidZ EMP
  go_loopg [4, 5] 102 (fun gk pv cv wr => ∃ (parts : List Nat) (count pg pcap : Nat), pv = .slice (some ⟨pg, 0, none⟩) n pcap ∧ cv = .int .i64 (count : Int) ∧ count ≤ 100 ∧ 102 ≤ count + gk ∧ okParts n parts count ∧ MP = mergeL n tk nx K gk parts count ∧
    NIn wr pg n (listF parts) ∧ pg < wr.heap.size ∧ Below w.heap.size w wr)
  case atStart => exact ⟨List.replicate n 0, 0, w.heap.size, n, rfl, rfl, by omega, by omega, ⟨by simp, fun f hf => by omega⟩, EMP.out.symm, HN1.out, hz1, HB1.out⟩
  case round =>
    obtain ⟨parts, count, pg, pcap, rfl, rfl, hc, hcg, hok, heq, hnp, hpg, hb⟩ := hrel
    have HQ := hidZ heq
    have HN := hidZ hnp
    have HB := hidZ hb
    have HOK := hidZ hok
    clear heq hnp hb hok HN1 HB1
    obtain ⟨f, rfl⟩ : ∃ f, gk = f + 1 := ⟨gk - 1, by omega⟩
    have HSr := hidZ (HS.out.below HB.out (Nat.le_refl _))
    have hpc := spart_any (listF parts) g n cap K pg pcap zb tk nx wr hn hK HR.out (sin_top HSr.out HB.out.size) HN.out hpg
    have hpl := partL_len (alikeB (listF parts) tk nx K) n 0 [] []
    have hgrow := fun h => parts_grow (q := alikeB (listF parts) tk nx K) HOK.out (fun s t => alikeB_part) h
    have hnext := fun h => @okParts_next n (alikeB (listF parts) tk nx K) h
    have hinv := fun h => @partP_inv n (alikeB (listF parts) tk nx K) h
    have hml : mergeL n tk nx K (f + 1) parts count = if 100 < (partP n (alikeB (listF parts) tk nx K)).2.length then none
      else if (partP n (alikeB (listF parts) tk nx K)).2.length = count then some (partP n (alikeB (listF parts) tk nx K))
      else mergeL n tk nx K f (partP n (alikeB (listF parts) tk nx K)).1 (partP n (alikeB (listF parts) tk nx K)).2.length := rfl
    have HPL : Hid (partL (alikeB (listF parts) tk nx K) n 0 [] [] = partP n (alikeB (listF parts) tk nx K)) := rfl
    rw [HPL.out] at hpl
    generalize partP n (alikeB (listF parts) tk nx K) = PP at *
    obtain ⟨fin, firsts⟩ := PP
    simp only at *
    have hfl : firsts.length ≤ 2000 := by have := hpl.1; simp at this; omega
    go_wp2_with fail
    refine hpc.mono ?_
    rintro e w3 ⟨g1, c1, g2, c2, rfl, hn1, hn2, hz3, hz4, hz5, hz6, hb3⟩
    have HN1 := hidZ hn1
    have HN2 := hidZ hn2
    have HB3 := hidZ (HB.out.trans (hb3.mono HB.out.size))
    have HS3 := hidZ (sin_top (HSr.out.below hb3 HB.out.size) (Nat.le_trans HB.out.size hb3.size))
    clear hn1 hn2 hb3 hpc hpl
    by_cases h1 : 100 < firsts.length
    · have HE : Hid (MP = none) := by unfold Hid; rw [HQ.out, hml, if_pos h1]
      have hd1 : decide ((100 : Int) < (firsts.length : Int)) = true := by simp; omega
      clear hml hgrow hnext hinv
      go_wp2
      go_ret2
      rw [HMP.out, HE.out]
      exact ⟨rfl, HB3.out⟩
    · have hd1 : decide ((100 : Int) < (firsts.length : Int)) = false := by simp; omega
      rw [if_neg h1] at hml
      have hinv := hinv (by omega)
      have hlen := hinv.len
      by_cases h2 : firsts.length = count
      · rw [if_pos h2] at hml
        have HE : Hid (MP = some (fin, firsts)) := by unfold Hid; rw [HQ.out, hml]
        have hd2 : ((firsts.length : Int) == (count : Int)) = true := by rw [h2]; simp
        have hfn : ∀ x ∈ firsts, x < n := fun x hx => by
          obtain ⟨i, hi, rfl⟩ := List.mem_iff_getElem.1 hx
          have := (hinv.rep i hi).1
          rw [List.getD_eq_getElem?_getD, List.getElem?_eq_getElem hi] at this; exact this
        have hnf : NIn w3 g1 n (listF fin) := by have := HN1.out; rw [hlen] at this; exact this
        have hgc := sgather_any fin firsts g n cap K g1 c1 g2 c2 zb tk nx w3 hK (by omega) hfn HR.out HS3.out hnf hz3 HN2.out hz4
        rw [hlen]
        clear hml hgrow hnext hinv h2 hfn hnf hlen
        go_wp2_with fail
        refine hgc.mono ?_
        rintro e w4 ⟨B, zs, q1, rfl, q3, q4, q5, q6⟩
        have HQ3 := hidZ q3
        have HQ4 := hidZ q4
        have HQ5 := hidZ q5
        have HQ6 := hidZ (HB3.out.trans (q6.mono HB3.out.size))
        have hq1 : w.heap.size ≤ B := Nat.le_trans HB3.out.size q1
        clear q1 q3 q4 q5 q6 hgc
        go_wp2
        go_ret2
        rw [HMP.out, HE.out]
        exact ⟨.slice (some ⟨B, 0, none⟩) zs.length zs.length, ⟨B, zs, hq1, rfl, HQ3.out, HQ4.out, HQ5.out, HQ6.out⟩, rfl⟩
      · rw [if_neg h2] at hml
        have HE : Hid (MP = mergeL n tk nx K f fin firsts.length) := HQ.out.trans hml
        have hd2 : ((firsts.length : Int) == (count : Int)) = false := by rw [beq_eq_false_iff_ne]; omega
        have hg2 := hgrow (by omega)
        have HOK2 := hidZ (hnext (by omega))
        have HNF : Hid (NIn w3 g1 n (listF fin)) := by have := HN1.out; rw [hlen] at this; exact this
        rw [hlen]
        clear hml hgrow hnext hinv hlen
        go_wp2
        go_roundg f
        case measure => omega
        case rel => exact ⟨fin, firsts.length, g1, c1, rfl, rfl, by omega, by omega, HOK2.out, HE.out, HNF.out, hz3, HB3.out⟩
end Go.Proofs.Ytgjgjgihceijnaa

namespace Go.Stn
def skipP (t : ByteArray) (b : Int) (st : PSt) : PSt := if nextB t b st = true then adv st else st
theorem skipP_yes {t : ByteArray} {b : Int} {st : PSt} (h : nextB t b st = true) : skipP t b st = adv st := by unfold skipP; rw [if_pos h]
theorem skipP_no {t : ByteArray} {b : Int} {st : PSt} (h : nextB t b st = false) : skipP t b st = st := by unfold skipP; rw [if_neg (by rw [h]; decide)]
end Go.Stn
namespace Go.Proofs.Ytgjgjgihceijnaa
open Go.RowKit Go.Stn

/-- What a step of the reader leaves: the reader in a new state; no block but its own is turned. -/
def RdTo (w : World) (rb base : Nat) (t : ByteArray) (vr vn vp : Value) (st : PSt) (w' : World) : Prop := w.grownBy w' (some rb) ∧ Rd w' rb base w'.heap.size t st vr vn vp

set_option maxRecDepth 100000 in
theorem skip_any (t : ByteArray) (st : PSt) (b : Int) (rb base : Nat) (vr vn vp : Value) (w : World) (ht : t.size ≤ 120) (hat : st.at_ ≤ t.size) (h : Rd w rb base w.heap.size t st vr vn vp) :
    Calls Try.prog 89 #[.pointer (some ⟨rb, 0, none⟩), .int .i64 b] w fun e w' => e = .returned (.bool (nextB t b st)) ∧ RdTo w rb base t vr vn vp (skipP t b st) w' := by
  cases hb : nextB t b st with
  | true =>
    rw [skipP_yes hb]
    have hbq : (peekP t st.at_ != b) = false := by unfold nextB at hb; rw [decide_eq_true_eq] at hb; rw [hb]; simp
    go_enter Try.func89, Try.ntmps89
    go_wp2_with fail
    refine (peek_any t st rb base w.heap.size vr vn vp _ h).mono ?_
    rintro e w1 ⟨rfl, q, rfl⟩
    have HR := hidK (h.drewN q).raise
    have HB : Hid (w.grownBy (w.drewN q) (some rb)) := grown_drewN (World.grownBy.refl _ _) q
    generalize w.drewN q = w1 at *
    clear h
    have c1 := HR.out.c1
    have f1 := HR.out.fz 1
    go_wp2
    go_ret
    exact ⟨rfl, grown_set HB.out _ _, HR.out.adv.raise⟩
  | false =>
    rw [skipP_no hb]
    have hbq : (peekP t st.at_ != b) = true := by unfold nextB at hb; rw [decide_eq_false_iff_not] at hb; rw [bne_iff_ne]; exact hb
    go_enter Try.func89, Try.ntmps89
    go_wp2_with fail
    refine (peek_any t st rb base w.heap.size vr vn vp _ h).mono ?_
    rintro e w1 ⟨rfl, q, rfl⟩
    go_wp2
    go_ret
    exact ⟨rfl, grown_drewN (World.grownBy.refl _ _) q, (h.drewN q).raise⟩


theorem adv_ok {t : ByteArray} {st : PSt} (h : st.at_ < t.size) : (adv st).at_ ≤ t.size := h

set_option maxRecDepth 100000 in
theorem esc_any (t : ByteArray) (st : PSt) (rb base : Nat) (vr vn vp : Value) (w : World) (ht : t.size ≤ 120) (hat : st.at_ ≤ t.size) (h : Rd w rb base w.heap.size t st vr vn vp) :
    Calls Try.prog 155 #[.pointer (some ⟨rb, 0, none⟩)] w fun e w' => e = .returned (.tuple #[.int .i64 (escP t st).1, .bool (escP t st).2.1]) ∧ RdTo w rb base t vr vn vp (escP t st).2.2 w' := by
  cases h1 : nextB t 110 st with
  | true =>
    have HE : Hid (escP t st = (10, true, adv st)) := by unfold Hid escP; rw [if_pos h1]
    go_enter Try.func155, Try.ntmps155
    go_wp2_with fail
    refine (skip_any t st 110 rb base vr vn vp _ ht hat h).mono ?_
    rintro e w1 ⟨rfl, hr⟩
    rw [skipP_yes h1] at hr
    rw [h1]
    go_wp2
    go_ret2
    rw [HE.out]
    exact ⟨rfl, hr⟩
  | false =>
    have n1 : ¬ (nextB t 110 st = true) := by rw [h1]; decide
    have HS1 := hidK h1
    go_enter Try.func155, Try.ntmps155
    go_wp2_with fail
    refine (skip_any t st 110 rb base vr vn vp _ ht hat h).mono ?_
    rintro e w1 ⟨rfl, hb1, hr1⟩
    rw [skipP_no h1] at hr1
    rw [h1]
    have HB1 := hidK hb1
    clear h hb1
    go_wp2_with fail
    refine (skip_any t st 115 rb base vr vn vp _ ht hat hr1).mono ?_
    rintro e w2 ⟨rfl, hb2, hr2⟩
    cases h2 : nextB t 115 st with
    | true =>
      have HE : Hid (escP t st = (32, true, adv st)) := by unfold Hid escP; rw [if_neg n1, if_pos h2]
      rw [skipP_yes h2] at hr2
      have HR2 := hidK hr2
      have HB2 := hidK (grown_trans HB1.out hb2)
      clear hr2 hb2 hr1 HB1
      go_wp2
      go_ret2
      rw [HE.out]
      exact ⟨rfl, HB2.out, HR2.out⟩
    | false =>
      have n2 : ¬ (nextB t 115 st = true) := by rw [h2]; decide
      rw [skipP_no h2] at hr2
      have HB2 := hidK (grown_trans HB1.out hb2)
      clear hb2 hr1 HB1
      go_wp2_with fail
      refine (peek_any t st rb base _ vr vn vp _ hr2).mono ?_
      rintro e w3 ⟨rfl, q, rfl⟩
      have HR3 := hidK (hr2.drewN q).raise
      have HB3 := hidK (grown_drewN HB2.out q)
      clear HB2 hr2
      generalize w2.drewN q = w3 at *
      have c1 := HR3.out.c1
      have f1 := HR3.out.fz 1
      cases hv : visB (peekP t st.at_) with
      | false =>
        have HE : Hid (escP t st = (0, false, st)) := by unfold Hid escP; rw [if_neg n1, if_neg n2, if_neg (by rw [hv]; simp)]
        clear n1 n2
        go_wp2_with (go_at_call 147; refine (visible_any _ _).mono ?_; rintro e w3 ⟨rfl, rfl⟩)
        go_ret2
        rw [HE.out]
        exact ⟨rfl, HB3.out, HR3.out⟩
      | true =>
        cases hl : lodB (peekP t st.at_) with
        | true =>
          have HE : Hid (escP t st = (0, false, st)) := by unfold Hid escP; rw [if_neg n1, if_neg n2, if_neg (by rw [hl]; simp)]
          clear n1 n2
          go_wp2_with (first | (go_at_call 147; refine (visible_any _ _).mono ?_; rintro e w3 ⟨rfl, rfl⟩) | (go_at_call 156; refine (lod_any _ _).mono ?_; rintro e w3 ⟨rfl, rfl⟩))
          go_ret2
          rw [HE.out]
          exact ⟨rfl, HB3.out, HR3.out⟩
        | false =>
          have HE : Hid (escP t st = (peekP t st.at_, true, adv st)) := by unfold Hid escP; rw [if_neg n1, if_neg n2, if_pos ⟨hv, hl⟩]
          clear n1 n2
          go_wp2_with (first | (go_at_call 147; refine (visible_any _ _).mono ?_; rintro e w3 ⟨rfl, rfl⟩) | (go_at_call 156; refine (lod_any _ _).mono ?_; rintro e w3 ⟨rfl, rfl⟩))
          go_ret2
          rw [HE.out]
          exact ⟨rfl, grown_set HB3.out _ _, HR3.out.adv.raise⟩

end Go.Proofs.Ytgjgjgihceijnaa

namespace Go.Stn
theorem vis_lt {t : ByteArray} {a : Nat} (h : visB (peekP t a) = true) : a < t.size := by
  unfold visB at h; rw [decide_eq_true_eq] at h
  rcases Nat.lt_or_ge a t.size with h1 | h1
  · exact h1
  · rw [peekP_end h1] at h; omega
theorem plain_lt {t sp : ByteArray} {a : Nat} (h : plainB (peekP t a) sp = true) : a < t.size := by
  unfold plainB at h; rw [Bool.and_eq_true] at h; exact vis_lt h.1
theorem adv_at (st : PSt) : (adv st).at_ = st.at_ + 1 := rfl

theorem escP_at {t : ByteArray} {st : PSt} (h : st.at_ ≤ t.size) : st.at_ ≤ (escP t st).2.2.at_ ∧ (escP t st).2.2.at_ ≤ t.size := by
  unfold escP
  by_cases h1 : nextB t 110 st = true
  · rw [if_pos h1]; have := nextB_lt (by omega) h1; simp only [adv_at]; omega
  · rw [if_neg h1]
    by_cases h2 : nextB t 115 st = true
    · rw [if_pos h2]; have := nextB_lt (by omega) h2; simp only [adv_at]; omega
    · rw [if_neg h2]
      by_cases h3 : visB (peekP t st.at_) = true ∧ lodB (peekP t st.at_) = false
      · rw [if_pos h3]; have := vis_lt h3.1; simp only [adv_at]; omega
      · rw [if_neg h3]; exact ⟨Nat.le_refl _, h⟩

theorem singleP_at {t sp : ByteArray} {st : PSt} (h : st.at_ ≤ t.size) : st.at_ ≤ (singleP t sp st).2.2.at_ ∧ (singleP t sp st).2.2.at_ ≤ t.size := by
  unfold singleP
  by_cases h1 : nextB t 92 st = true
  · rw [if_pos h1]; have := nextB_lt (by omega) h1; have := escP_at (t := t) (st := adv st) (by rw [adv_at]; omega); rw [adv_at] at this; omega
  · rw [if_neg h1]
    by_cases h2 : plainB (peekP t st.at_) sp = true
    · rw [if_pos h2]; have := plain_lt h2; simp only [adv_at]; omega
    · rw [if_neg h2]; exact ⟨Nat.le_refl _, h⟩

theorem escP_adv {t : ByteArray} {st : PSt} (h : (escP t st).2.1 = true) : st.at_ < (escP t st).2.2.at_ := by
  unfold escP at h ⊢
  by_cases h1 : nextB t 110 st = true
  · rw [if_pos h1]; simp only [adv_at]; omega
  · rw [if_neg h1] at h ⊢
    by_cases h2 : nextB t 115 st = true
    · rw [if_pos h2]; simp only [adv_at]; omega
    · rw [if_neg h2] at h ⊢
      by_cases h3 : visB (peekP t st.at_) = true ∧ lodB (peekP t st.at_) = false
      · rw [if_pos h3]; simp only [adv_at]; omega
      · rw [if_neg h3] at h; simp at h
theorem singleP_adv {t sp : ByteArray} {st : PSt} (h : (singleP t sp st).2.1 = true) : st.at_ < (singleP t sp st).2.2.at_ := by
  unfold singleP at h ⊢
  by_cases h1 : nextB t 92 st = true
  · rw [if_pos h1] at h ⊢; have := escP_adv h; rw [adv_at] at this; omega
  · rw [if_neg h1] at h ⊢
    by_cases h2 : plainB (peekP t st.at_) sp = true
    · rw [if_pos h2]; simp only [adv_at]; omega
    · rw [if_neg h2] at h; simp at h
theorem memberP_at {t : ByteArray} {f : Nat → Bool} {st : PSt} (h : st.at_ ≤ t.size) : st.at_ ≤ (memberP t f st).2.2.at_ ∧ (memberP t f st).2.2.at_ ≤ t.size := by
  have h1 := singleP_at (sp := spIn) h
  obtain ⟨b1, ok1, s1, hS1⟩ : ∃ b ok s, singleP t spIn st = (b, ok, s) := ⟨_, _, _, rfl⟩
  rw [hS1] at h1
  cases ok1 with
  | false => rw [memberP_no1 hS1]; exact h1
  | true =>
    cases hn : nextB t 45 s1 with
    | false => rw [memberP_one hS1 hn]; exact h1
    | true =>
      have hlt := nextB_lt (by omega) hn
      have h2 := singleP_at (sp := spIn) (st := adv s1) (t := t) (by rw [adv_at]; omega)
      obtain ⟨b2, ok2, s2, hS2⟩ : ∃ b ok s, singleP t spIn (adv s1) = (b, ok, s) := ⟨_, _, _, rfl⟩
      rw [hS2, adv_at] at h2
      simp only at h1 h2
      by_cases hb : ok2 = false ∨ b2 < b1
      · rw [memberP_no2 hS1 hn hS2 hb]; simp only; omega
      · have ho : ok2 = true := by cases ok2 <;> simp_all
        subst ho
        rw [memberP_two hS1 hn hS2 (by simp at hb; omega)]; simp only; omega
theorem memberP_adv {t : ByteArray} {f : Nat → Bool} {st : PSt} (h : (memberP t f st).2.1 = true) : st.at_ < (memberP t f st).2.2.at_ := by
  have h1 := @singleP_adv t spIn st
  obtain ⟨b1, ok1, s1, hS1⟩ : ∃ b ok s, singleP t spIn st = (b, ok, s) := ⟨_, _, _, rfl⟩
  rw [hS1] at h1
  cases ok1 with
  | false => rw [memberP_no1 hS1] at h; simp at h
  | true =>
    have h1 := h1 rfl
    cases hn : nextB t 45 s1 with
    | false => rw [memberP_one hS1 hn]; exact h1
    | true =>
      have hlt := nextB_lt (by omega) hn
      have h2 := singleP_at (sp := spIn) (st := adv s1) (t := t) (by rw [adv_at]; omega)
      obtain ⟨b2, ok2, s2, hS2⟩ : ∃ b ok s, singleP t spIn (adv s1) = (b, ok, s) := ⟨_, _, _, rfl⟩
      rw [hS2, adv_at] at h2
      simp only at h1 h2
      by_cases hb : ok2 = false ∨ b2 < b1
      · rw [memberP_no2 hS1 hn hS2 hb] at h; simp at h
      · have ho : ok2 = true := by cases ok2 <;> simp_all
        subst ho
        rw [memberP_two hS1 hn hS2 (by simp at hb; omega)]; simp only; omega

theorem letterP_at {t : ByteArray} {st : PSt} (h : st.at_ ≤ t.size) : st.at_ ≤ (letterP t st).2.2.at_ ∧ (letterP t st).2.2.at_ ≤ t.size := by
  unfold letterP
  by_cases h1 : 65 ≤ peekP t st.at_ ∧ peekP t st.at_ < 69
  · rw [if_pos h1]
    have : st.at_ < t.size := by
      rcases Nat.lt_or_ge st.at_ t.size with h2 | h2
      · exact h2
      · rw [peekP_end h2] at h1; omega
    simp only [adv_at]; omega
  · rw [if_neg h1]; exact ⟨Nat.le_refl _, h⟩

theorem behindP_at {t : ByteArray} {st : PSt} (h : st.at_ ≤ t.size) : st.at_ ≤ (behindP t st).2.2.at_ ∧ (behindP t st).2.2.at_ ≤ t.size := by
  unfold behindP
  by_cases h1 : nextB t 46 st = true
  · rw [if_pos h1]; have := nextB_lt (by omega) h1; simp only [adv_at]; omega
  · rw [if_neg h1]
    by_cases h2 : nextB t 45 st = true
    · rw [if_pos h2]; have := nextB_lt (by omega) h2; simp only [adv_at]; omega
    · rw [if_neg h2]
      have := letterP_at h
      split <;> exact this
end Go.Stn

namespace Go.Proofs.Ytgjgjgihceijnaa
open Go.RowKit Go.Stn

set_option maxRecDepth 100000 in
theorem single_any (t sp : ByteArray) (st : PSt) (rb base : Nat) (vr vn vp : Value) (w : World) (ht : t.size ≤ 120) (hsp : sp.size ≤ 100) (hat : st.at_ ≤ t.size) (h : Rd w rb base w.heap.size t st vr vn vp) :
    Calls Try.prog 152 #[.pointer (some ⟨rb, 0, none⟩), .string sp] w fun e w' => e = .returned (.tuple #[.int .i64 (singleP t sp st).1, .bool (singleP t sp st).2.1]) ∧ RdTo w rb base t vr vn vp (singleP t sp st).2.2 w' := by
  cases h1 : nextB t 92 st with
  | true =>
    have HE : Hid (singleP t sp st = escP t (adv st)) := by unfold Hid singleP; rw [if_pos h1]
    have hlt := nextB_lt (by omega) h1
    go_enter Try.func152, Try.ntmps152
    go_wp2_with fail
    refine (skip_any t st 92 rb base vr vn vp _ ht hat h).mono ?_
    rintro e w1 ⟨rfl, hb1, hr1⟩
    rw [skipP_yes h1] at hr1
    rw [h1]
    go_wp2_with fail
    refine (esc_any t (adv st) rb base vr vn vp _ ht (adv_ok hlt) hr1).mono ?_
    rintro e w2 ⟨rfl, hb2, hr2⟩
    go_wp2
    go_ret2
    rw [HE.out]
    exact ⟨rfl, grown_trans hb1 hb2, hr2⟩
  | false =>
    have n1 : ¬ (nextB t 92 st = true) := by rw [h1]; decide
    go_enter Try.func152, Try.ntmps152
    go_wp2_with fail
    refine (skip_any t st 92 rb base vr vn vp _ ht hat h).mono ?_
    rintro e w1 ⟨rfl, hb1, hr1⟩
    rw [skipP_no h1] at hr1
    rw [h1]
    have HB1 := hidK hb1
    clear h hb1
    go_wp2_with fail
    refine (peek_any t st rb base _ vr vn vp _ hr1).mono ?_
    rintro e w2 ⟨rfl, q, rfl⟩
    have HR2 := hidK (hr1.drewN q).raise
    have HB2 := hidK (grown_drewN HB1.out q)
    clear HB1 hr1
    generalize w1.drewN q = w2 at *
    have c1 := HR2.out.c1
    have f1 := HR2.out.fz 1
    cases hp : plainB (peekP t st.at_) sp with
    | true =>
      have HE : Hid (singleP t sp st = (peekP t st.at_, true, adv st)) := by unfold Hid singleP; rw [if_neg n1, if_pos hp]
      clear n1
      go_wp2_with (go_at_call 141; refine (plain_any _ _ _ hsp).mono ?_; rintro e w2 ⟨rfl, rfl⟩)
      go_ret2
      rw [HE.out]
      exact ⟨rfl, grown_set HB2.out _ _, HR2.out.adv.raise⟩
    | false =>
      have HE : Hid (singleP t sp st = (0, false, st)) := by unfold Hid singleP; rw [if_neg n1, if_neg (by rw [hp]; decide)]
      clear n1
      go_wp2_with (go_at_call 141; refine (plain_any _ _ _ hsp).mono ?_; rintro e w2 ⟨rfl, rfl⟩)
      go_ret2
      rw [HE.out]
      exact ⟨rfl, HB2.out, HR2.out⟩

set_option maxRecDepth 100000 in
theorem letter_any (t : ByteArray) (st : PSt) (rb base : Nat) (vr vn vp : Value) (w : World) (ht : t.size ≤ 120) (hat : st.at_ ≤ t.size) (h : Rd w rb base w.heap.size t st vr vn vp) :
    Calls Try.prog 129 #[.pointer (some ⟨rb, 0, none⟩)] w fun e w' => e = .returned (.tuple #[.int .i64 (letterP t st).1, .bool (letterP t st).2.1]) ∧ RdTo w rb base t vr vn vp (letterP t st).2.2 w' := by
  have hpb := peekP_bound t st.at_
  go_enter Try.func129, Try.ntmps129
  go_wp2_with fail
  refine (peek_any t st rb base _ vr vn vp _ h).mono ?_
  rintro e w2 ⟨rfl, q, rfl⟩
  have HR2 := hidK (h.drewN q).raise
  have HB2 : Hid (w.grownBy (w.drewN q) (some rb)) := grown_drewN (World.grownBy.refl _ _) q
  clear h
  generalize w.drewN q = w2 at *
  have c1 := HR2.out.c1
  have f1 := HR2.out.fz 1
  by_cases h1 : 65 ≤ peekP t st.at_
  · by_cases h2 : peekP t st.at_ < 69
    · have HE : Hid (letterP t st = (peekP t st.at_ - 65, true, adv st)) := by unfold Hid letterP; rw [if_pos ⟨h1, h2⟩]
      go_wp2
      go_ret2
      rw [HE.out]
      exact ⟨rfl, grown_set HB2.out _ _, HR2.out.adv.raise⟩
    · have HE : Hid (letterP t st = (0, false, st)) := by unfold Hid letterP; rw [if_neg (by omega)]
      go_wp2
      go_ret2
      rw [HE.out]
      exact ⟨rfl, HB2.out, HR2.out⟩
  · have HE : Hid (letterP t st = (0, false, st)) := by unfold Hid letterP; rw [if_neg (by omega)]
    go_wp2
    go_ret2
    rw [HE.out]
    exact ⟨rfl, HB2.out, HR2.out⟩

theorem letterP_bound (t : ByteArray) (st : PSt) : 0 ≤ (letterP t st).1 ∧ (letterP t st).1 ≤ 3 := by
  unfold letterP
  split
  · simp only; omega
  · simp

set_option maxRecDepth 100000 in
theorem behind_any (t : ByteArray) (st : PSt) (rb base : Nat) (vr vn vp : Value) (w : World) (ht : t.size ≤ 120) (hat : st.at_ ≤ t.size) (h : Rd w rb base w.heap.size t st vr vn vp) :
    Calls Try.prog 116 #[.pointer (some ⟨rb, 0, none⟩)] w fun e w' => e = .returned (.tuple #[.int .i64 (behindP t st).1, .bool (behindP t st).2.1]) ∧ RdTo w rb base t vr vn vp (behindP t st).2.2 w' := by
  cases h1 : nextB t 46 st with
  | true =>
    have HE : Hid (behindP t st = (0, true, adv st)) := by unfold Hid behindP; rw [if_pos h1]
    go_enter Try.func116, Try.ntmps116
    go_wp2_with fail
    refine (skip_any t st 46 rb base vr vn vp _ ht hat h).mono ?_
    rintro e w1 ⟨rfl, hr⟩
    rw [skipP_yes h1] at hr
    rw [h1]
    go_wp2
    go_ret2
    rw [HE.out]
    exact ⟨rfl, hr⟩
  | false =>
    have n1 : ¬ (nextB t 46 st = true) := by rw [h1]; decide
    go_enter Try.func116, Try.ntmps116
    go_wp2_with fail
    refine (skip_any t st 46 rb base vr vn vp _ ht hat h).mono ?_
    rintro e w1 ⟨rfl, hb1, hr1⟩
    rw [skipP_no h1] at hr1
    rw [h1]
    have HB1 := hidK hb1
    clear h hb1
    go_wp2_with fail
    refine (skip_any t st 45 rb base vr vn vp _ ht hat hr1).mono ?_
    rintro e w2 ⟨rfl, hb2, hr2⟩
    cases h2 : nextB t 45 st with
    | true =>
      have HE : Hid (behindP t st = (1, true, adv st)) := by unfold Hid behindP; rw [if_neg n1, if_pos h2]
      rw [skipP_yes h2] at hr2
      have HR2 := hidK hr2
      have HB2 := hidK (grown_trans HB1.out hb2)
      clear hr2 hb2 hr1 HB1
      go_wp2
      go_ret2
      rw [HE.out]
      exact ⟨rfl, HB2.out, HR2.out⟩
    | false =>
      have n2 : ¬ (nextB t 45 st = true) := by rw [h2]; decide
      rw [skipP_no h2] at hr2
      have HB2 := hidK (grown_trans HB1.out hb2)
      clear hb2 hr1 HB1
      have hlb := letterP_bound t st
      go_wp2_with fail
      refine (letter_any t st rb base vr vn vp _ ht hat hr2).mono ?_
      rintro e w3 ⟨rfl, hb3, hr3⟩
      have HR3 := hidK hr3
      have HB3 := hidK (grown_trans HB2.out hb3)
      clear hr2 HB2 hr3 hb3
      cases hl : (letterP t st).2.1 with
      | true =>
        have HE : Hid (behindP t st = ((letterP t st).1 + 2, true, (letterP t st).2.2)) := by unfold Hid behindP; rw [if_neg n1, if_neg n2, if_pos hl]
        clear n1 n2
        generalize letterP t st = L at *
        go_wp2
        go_ret2
        rw [HE.out]
        exact ⟨rfl, HB3.out, HR3.out⟩
      | false =>
        have HE : Hid (behindP t st = (0, false, (letterP t st).2.2)) := by unfold Hid behindP; rw [if_neg n1, if_neg n2, if_neg (by rw [hl]; decide)]
        clear n1 n2
        generalize letterP t st = L at *
        go_wp2
        go_ret2
        rw [HE.out]
        exact ⟨rfl, HB3.out, HR3.out⟩
end Go.Proofs.Ytgjgjgihceijnaa

namespace Go.Proofs.Ytgjgjgihceijnaa
open Go.RowKit Go.Stn

theorem spIn_size : spIn.size ≤ 100 := by decide
theorem singleP_fits (t sp : ByteArray) (st : PSt) : 0 ≤ (singleP t sp st).1 ∧ (singleP t sp st).1 ≤ 255 := by
  have hp := peekP_bound t st.at_
  have hp2 := peekP_bound t (adv st).at_
  unfold singleP
  by_cases h1 : nextB t 92 st = true
  · rw [if_pos h1]
    unfold escP
    by_cases a1 : nextB t 110 (adv st) = true
    · rw [if_pos a1]; simp
    · rw [if_neg a1]
      by_cases a2 : nextB t 115 (adv st) = true
      · rw [if_pos a2]; simp
      · rw [if_neg a2]
        by_cases a3 : visB (peekP t (adv st).at_) = true ∧ lodB (peekP t (adv st).at_) = false
        · rw [if_pos a3]
          have := a3.1
          unfold visB at this
          rw [decide_eq_true_eq] at this
          simp only; omega
        · rw [if_neg a3]; simp
  · rw [if_neg h1]
    by_cases h2 : plainB (peekP t st.at_) sp = true
    · rw [if_pos h2]
      unfold plainB at h2
      rw [Bool.and_eq_true] at h2
      have := h2.1
      unfold visB at this
      rw [decide_eq_true_eq] at this
      simp only; omega
    · rw [if_neg h2]; simp

theorem fin_store {w X : World} {rb base : Nat} {t : ByteArray} {st st' : PSt} {vr vn vp : Value} (h : Rd w rb base w.heap.size t st vr vn vp) (hr : Rd X rb base X.heap.size t st' vr vn vp) (hg : w.grownBy X (some rb)) (b o : Nat) (vs : List Value) (hb : w.heap.size ≤ b) :
    RdTo w rb base t vr vn vp st' (X.setCells b o vs) :=
  ⟨grown_setCells hg b o vs hb, ((h.retop hr hg.size).below (below_setCells vs o X b (Below.refl _ _) hb)).raise⟩

/-- The world of member's beginning: its argument and its result are boxed. -/
theorem boxed (f : Nat → Bool) (t : ByteArray) (st : PSt) (rb base : Nat) (vr vn vp : Value) (w : World) (h : Rd w rb base w.heap.size t st vr vn vp) :
    Hid (Rd ((w.alloc (.cells (bitL f).toArray 187)).alloc (.cells Try.zeroCells187 187)) rb base ((w.alloc (.cells (bitL f).toArray 187)).alloc (.cells Try.zeroCells187 187)).heap.size t st vr vn vp) ∧
    Hid (((w.alloc (.cells (bitL f).toArray 187)).alloc (.cells Try.zeroCells187 187)).rangeAt w.heap.size 0 (bitL f)) ∧
    Hid (((w.alloc (.cells (bitL f).toArray 187)).alloc (.cells Try.zeroCells187 187)).there (w.heap.size + 1) 0 256) ∧
    Hid (w.grownBy ((w.alloc (.cells (bitL f).toArray 187)).alloc (.cells Try.zeroCells187 187)) (some rb)) ∧
    ((w.alloc (.cells (bitL f).toArray 187)).alloc (.cells Try.zeroCells187 187)).heap.size = w.heap.size + 2 := by
  refine ⟨?_, World.rangeAt_alloc (rangeAt_newL w (bitL f) 187) _, there_newA _ Try.zeroCells187 187 _ 256 Try.bytesZero (by simp), grown_alloc2 (grown_alloc2 (World.grownBy.refl _ _) _) _, by simp⟩
  exact (h.below (((Below.refl _ _).alloc (Nat.le_refl _) _).alloc (by simp) _)).raise

set_option maxRecDepth 100000 in
set_option maxHeartbeats 1000000 in
theorem member_any (t : ByteArray) (f : Nat → Bool) (st : PSt) (rb base : Nat) (vr vn vp : Value) (w : World) (ht : t.size ≤ 120) (hat : st.at_ ≤ t.size) (h : Rd w rb base w.heap.size t st vr vn vp) :
    Calls Try.prog 154 #[.pointer (some ⟨rb, 0, none⟩), .agg (bitL f).toArray] w fun e w' =>
      e = .returned (.tuple #[.agg (bitL (memberP t f st).1).toArray, .bool (memberP t f st).2.1]) ∧ RdTo w rb base t vr vn vp (memberP t f st).2.2 w' := by
  obtain ⟨HR0, HF0, HZ0, HG0, hsz0⟩ := boxed f t st rb base vr vn vp w h
  have hrb : rb < w.heap.size := by have := h.hb; have := h.hbt; omega
  go_enter Try.func154, Try.ntmps154
  go_wp2_with fail
  generalize (w.alloc (.cells (bitL f).toArray 187)).alloc (.cells Try.zeroCells187 187) = W0 at *
  obtain ⟨b1, ok1, st1, hS1⟩ : ∃ b ok s, singleP t spIn st = (b, ok, s) := ⟨_, _, _, rfl⟩
  have hfit1 := singleP_fits t spIn st
  have hat1 := (singleP_at (t := t) (sp := spIn) hat).2
  have hc1 := single_any t spIn st rb base vr vn vp W0 ht spIn_size hat HR0.out
  rw [hS1] at hc1 hfit1 hat1
  have HS1 := hidK hS1
  clear hS1
  simp only at hc1 hfit1 hat1
  refine hc1.mono ?_
  rintro e w1 ⟨rfl, hg1, hr1⟩
  have HR1 := hidK hr1
  have HG1 := hidK (grown_trans HG0.out hg1)
  have HF1 := hidK (rangeAt_block HF0.out (hg1.block w.heap.size (by omega) (by intro e; injection e; omega)))
  have HZ1 := hidK (there_block HZ0.out (hg1.block (w.heap.size + 1) (by omega) (by intro e; injection e; omega)))
  have hsz1 : w.heap.size + 2 ≤ w1.heap.size := by have := hg1.size; omega
  clear hr1 hg1 HR0 HF0 HZ0 HG0 hsz0 hc1
  cases ok1 with
  | false =>
    have HE : Hid (memberP t f st = (f, false, st1)) := memberP_no1 HS1.out
    go_wp2_with (first | (refine wpList_load_mid rfl 187 (.tmp 3) rfl w.heap.size 0 rfl (bitL f) _ HF1.out Try.underlying187 rfl (by rw [bitL_len]; exact Try.bytesSize) ?_) | (refine wpList_store_mid rfl 187 (.tmp 4) (.tmp 16) rfl (w.heap.size + 1) 0 (bitL f).toArray rfl rfl (by rw [bitL_size]; exact HZ1.out) (by rw [bitL_size]; exact Try.bytesSize) (all_oneCell_toArray (bitL_one _)) ?_))
    refine ret_cell2 Try.results154 (w.heap.size + 1) 0 (bitL f) _ (.bool false) rfl rfl ?_ Try.underlying187 rfl (by rw [bitL_len]; exact Try.bytesSize) rfl ?_
    · exact World.rangeAt_setCells_same _ _ _ _ (by rw [bitL_len]; exact HZ1.out)
    · rw [HE.out]
      exact ⟨rfl, fin_store h HR1.out HG1.out _ _ _ (by omega)⟩
  | true =>
    go_wp2_with fail
    refine (skip_any t st1 45 rb base vr vn vp _ ht hat1 HR1.out).mono ?_
    rintro e w2 ⟨rfl, hg2, hr2⟩
    have HG2 := hidK (grown_trans HG1.out hg2)
    have HF2 := hidK (rangeAt_block HF1.out (hg2.block w.heap.size (by omega) (by intro e; injection e; omega)))
    have HZ2 := hidK (there_block HZ1.out (hg2.block (w.heap.size + 1) (by omega) (by intro e; injection e; omega)))
    have hsz2 : w.heap.size + 2 ≤ w2.heap.size := by have := hg2.size; omega
    clear HR1 HG1 HF1 HZ1 hg2 hsz1
    cases hn : nextB t 45 st1 with
    | false =>
      rw [skipP_no hn] at hr2
      have HR2 := hidK hr2
      clear hr2
      have HE : Hid (memberP t f st = (withB f b1 b1, true, st1)) := memberP_one HS1.out hn
      go_wp2_with (first | (refine wpList_load_mid rfl 187 (.tmp 3) rfl w.heap.size 0 rfl (bitL f) _ HF2.out Try.underlying187 rfl (by rw [bitL_len]; exact Try.bytesSize) ?_) | fail)
      refine (with_any f b1 b1 _).mono ?_
      rintro e w9 ⟨rfl, hb9⟩
      have HR9 := hidK (((HR2.out).below (hb9.mono (Nat.le_refl _))).raise)
      have HG9 := hidK (grown_trans HG2.out (grown_of_below hb9 (Nat.le_refl _) (some rb)))
      have HZ9 := hidK (there_below HZ2.out hb9 (by omega))
      have hsz9 := hb9.size
      clear hb9 HR2 HG2 HZ2 HF2
      go_wp2_with (first | (refine wpList_store_mid rfl 187 (.tmp 4) (.tmp 23) rfl (w.heap.size + 1) 0 (bitL (withB f b1 b1)).toArray rfl rfl (by rw [bitL_size]; exact HZ9.out) (by rw [bitL_size]; exact Try.bytesSize) (all_oneCell_toArray (bitL_one _)) ?_))
      refine ret_cell2 Try.results154 (w.heap.size + 1) 0 (bitL (withB f b1 b1)) _ (.bool true) rfl rfl ?_ Try.underlying187 rfl (by rw [bitL_len]; exact Try.bytesSize) rfl ?_
      · exact World.rangeAt_setCells_same _ _ _ _ (by rw [bitL_len]; exact HZ9.out)
      · rw [HE.out]
        exact ⟨rfl, fin_store h HR9.out HG9.out _ _ _ (by omega)⟩
    | true =>
      rw [skipP_yes hn] at hr2
      have hlt := nextB_lt (by omega) hn
      have hat2 : (adv st1).at_ ≤ t.size := adv_ok hlt
      obtain ⟨b2, ok2, st2, hS2⟩ : ∃ b ok s, singleP t spIn (adv st1) = (b, ok, s) := ⟨_, _, _, rfl⟩
      have hfit2 := singleP_fits t spIn (adv st1)
      have hc2 := single_any t spIn (adv st1) rb base vr vn vp w2 ht spIn_size hat2 hr2
      rw [hS2] at hc2 hfit2
      have HS2 := hidK hS2
      clear hS2
      simp only at hc2 hfit2
      go_wp2_with fail
      refine hc2.mono ?_
      rintro e w3 ⟨rfl, hg3, hr3⟩
      have HR3 := hidK hr3
      have HG3 := hidK (grown_trans HG2.out hg3)
      have HF3 := hidK (rangeAt_block HF2.out (hg3.block w.heap.size (by omega) (by intro e; injection e; omega)))
      have HZ3 := hidK (there_block HZ2.out (hg3.block (w.heap.size + 1) (by omega) (by intro e; injection e; omega)))
      have hsz3 : w.heap.size + 2 ≤ w3.heap.size := by have := hg3.size; omega
      clear hr3 hg3 hr2 HG2 HF2 HZ2 hsz2 hc2
      cases ok2 with
      | false =>
        have HE : Hid (memberP t f st = (f, false, st2)) := memberP_no2 HS1.out hn HS2.out (.inl rfl)
        go_wp2_with (first | (refine wpList_load_mid rfl 187 (.tmp 3) rfl w.heap.size 0 rfl (bitL f) _ HF3.out Try.underlying187 rfl (by rw [bitL_len]; exact Try.bytesSize) ?_) | (refine wpList_store_mid rfl 187 (.tmp 4) (.tmp 36) rfl (w.heap.size + 1) 0 (bitL f).toArray rfl rfl (by rw [bitL_size]; exact HZ3.out) (by rw [bitL_size]; exact Try.bytesSize) (all_oneCell_toArray (bitL_one _)) ?_))
        refine ret_cell2 Try.results154 (w.heap.size + 1) 0 (bitL f) _ (.bool false) rfl rfl ?_ Try.underlying187 rfl (by rw [bitL_len]; exact Try.bytesSize) rfl ?_
        · exact World.rangeAt_setCells_same _ _ _ _ (by rw [bitL_len]; exact HZ3.out)
        · rw [HE.out]
          exact ⟨rfl, fin_store h HR3.out HG3.out _ _ _ (by omega)⟩
      | true =>
        by_cases hlo : b2 < b1
        · have HE : Hid (memberP t f st = (f, false, st2)) := memberP_no2 HS1.out hn HS2.out (.inr hlo)
          go_wp2_with (first | (refine wpList_load_mid rfl 187 (.tmp 3) rfl w.heap.size 0 rfl (bitL f) _ HF3.out Try.underlying187 rfl (by rw [bitL_len]; exact Try.bytesSize) ?_) | (refine wpList_store_mid rfl 187 (.tmp 4) (.tmp 36) rfl (w.heap.size + 1) 0 (bitL f).toArray rfl rfl (by rw [bitL_size]; exact HZ3.out) (by rw [bitL_size]; exact Try.bytesSize) (all_oneCell_toArray (bitL_one _)) ?_))
          refine ret_cell2 Try.results154 (w.heap.size + 1) 0 (bitL f) _ (.bool false) rfl rfl ?_ Try.underlying187 rfl (by rw [bitL_len]; exact Try.bytesSize) rfl ?_
          · exact World.rangeAt_setCells_same _ _ _ _ (by rw [bitL_len]; exact HZ3.out)
          · rw [HE.out]
            exact ⟨rfl, fin_store h HR3.out HG3.out _ _ _ (by omega)⟩
        · have HE : Hid (memberP t f st = (withB f b1 b2, true, st2)) := memberP_two HS1.out hn HS2.out hlo
          go_wp2_with (first | (refine wpList_load_mid rfl 187 (.tmp 3) rfl w.heap.size 0 rfl (bitL f) _ HF3.out Try.underlying187 rfl (by rw [bitL_len]; exact Try.bytesSize) ?_) | fail)
          refine (with_any f b1 b2 _).mono ?_
          rintro e w9 ⟨rfl, hb9⟩
          have HR9 := hidK (((HR3.out).below (hb9.mono (Nat.le_refl _))).raise)
          have HG9 := hidK (grown_trans HG3.out (grown_of_below hb9 (Nat.le_refl _) (some rb)))
          have HZ9 := hidK (there_below HZ3.out hb9 (by omega))
          have hsz9 := hb9.size
          clear hb9 HR3 HG3 HZ3 HF3
          go_wp2_with (first | (refine wpList_store_mid rfl 187 (.tmp 4) (.tmp 40) rfl (w.heap.size + 1) 0 (bitL (withB f b1 b2)).toArray rfl rfl (by rw [bitL_size]; exact HZ9.out) (by rw [bitL_size]; exact Try.bytesSize) (all_oneCell_toArray (bitL_one _)) ?_))
          refine ret_cell2 Try.results154 (w.heap.size + 1) 0 (bitL (withB f b1 b2)) _ (.bool true) rfl rfl ?_ Try.underlying187 rfl (by rw [bitL_len]; exact Try.bytesSize) rfl ?_
          · exact World.rangeAt_setCells_same _ _ _ _ (by rw [bitL_len]; exact HZ9.out)
          · rw [HE.out]
            exact ⟨rfl, fin_store h HR9.out HG9.out _ _ _ (by omega)⟩
end Go.Proofs.Ytgjgjgihceijnaa

