/- Texts put together: TkCond, WdPure. -/
import Derived.Test.YtgjgjgihceijnaaG36
import Derived.Test.YtgjgjgihceijnaaG27
import Derived.Test.YtgjgjgihceijnaaG21
import Derived.Test.YtgjgjgihceijnaaG01
import Derived.Test.YtgjgjgihceijnaaG02
import Derived.Test.YtgjgjgihceijnaaG03
import Derived.Test.YtgjgjgihceijnaaG04
import Derived.Deep.QuietTactic
import Derived.BigQuiet
import Derived.Test.YtgjgjgihceijnaaChecked
import Derived.WalkKit
import Derived.WalkSpells
import Derived.WalkLawsBesides
namespace Go.Stn
open Go.Proofs.Ytgjgjgihceijnaa (netN netF netL fileSt)
theorem runA_congr {n L : Nat} {tr tr' : Nat → Nat → Int} (h : Auto n L tr) (he : ∀ p b, p < n → b < L → tr p b = tr' p b) : ∀ (w : List Nat) (p : Nat), p < n → lets L w → runA tr p w = runA tr' p w
  | [], _, _, _ => rfl
  | b :: w, p, hp, hl => by
    have hb := hl b List.mem_cons_self
    rw [runA, runA, ← he p b hp hb]
    split
    · rfl
    · rename_i hn
      have := h.rng p b hp hb
      exact runA_congr h he w _ (by omega) (fun c hc => hl c (List.mem_cons_of_mem _ hc))
theorem obsA_congr {n L : Nat} {mk mk' : Nat → Nat} {tr tr' : Nat → Nat → Int} (h : Auto n L tr) (hm : ∀ p, p < n → mk p = mk' p) (he : ∀ p b, p < n → b < L → tr p b = tr' p b) (w : List Nat) (p : Nat) (hp : p < n) (hl : lets L w) : obsA mk tr p w = obsA mk' tr' p w := by
  unfold obsA
  rw [← runA_congr h he w p hp hl]
  cases e : runA tr p w with
  | none => rfl
  | some q => exact hm q (runA_lt h w p q hp hl e)
theorem Canon.congr {n L : Nat} {mk mk' : Nat → Nat} {tr tr' : Nat → Nat → Int} (h : Canon n L mk tr) (hm : ∀ p, p < n → mk p = mk' p) (he : ∀ p b, p < n → b < L → tr p b = tr' p b) : Canon n L mk' tr' := by
  have ho := fun w p hp hl => obsA_congr (mk := mk) (mk' := mk') h.au hm he w p hp hl
  refine ⟨⟨h.au.pos, fun p b hp hb => by rw [← he p b hp hb]; exact h.au.rng p b hp hb⟩, ⟨fun p b q hp hb hq hle => ?_, fun q hq hqn => ?_⟩, fun p b hp hb hne => ?_, fun p q hp hq hne => ?_⟩
  · rw [← he p b hp hb] at hle
    obtain ⟨p', b', h1, h2, h3⟩ := h.od.d1 p b q hp hb hq hle
    exact ⟨p', b', h1, h2, by rw [← he p' b' (by omega) h1]; exact h3⟩
  · obtain ⟨p, b, h1, h2, h3⟩ := h.od.d2 q hq hqn
    exact ⟨p, b, h1, h2, by rw [← he p b (by omega) h2]; exact h3⟩
  · rw [← he p b hp hb] at hne ⊢
    obtain ⟨z, hz, h1⟩ := h.li p b hp hb hne
    have := h.au.rng p b hp hb
    exact ⟨z, hz, by rw [← ho z _ (by omega) hz]; exact h1⟩
  · obtain ⟨z, hz, h1⟩ := h.ap p q hp hq hne
    exact ⟨z, hz, by rw [← ho z p hp hz, ← ho z q hq hz]; exact h1⟩
theorem Eqv.congr {n K : Nat} {tk tk' : Nat → Nat} {nx nx' : Nat → Nat → Int} (h : Auto n K nx) (hm : ∀ p, p < n → tk p = tk' p) (he : ∀ p b, p < n → b < K → nx p b = nx' p b) : ∀ (r s t : Nat), s < n → t < n → Eqv tk nx K r s t → Eqv tk' nx' K r s t
  | 0, _, _, _, _, _ => trivial
  | r + 1, s, t, hs, ht, hE => by
    refine ⟨Eqv.congr h hm he r s t hs ht hE.1, by rw [← hm s hs, ← hm t ht]; exact hE.2.1, fun g hg => ?_⟩
    rw [← he s g hs hg, ← he t g ht hg]
    obtain ⟨h1, h2⟩ := hE.2.2 g hg
    refine ⟨h1, fun e => ?_⟩
    have r1 := h.rng s g hs hg
    have r2 := h.rng t g ht hg
    have : nx t g ≠ -1 := fun e2 => e (h1.2 e2)
    exact Eqv.congr h hm he r _ _ (by omega) (by omega) (h2 e)

/-- merge's rounds, as one. -/
def mergeM (n : Nat) (tk : Nat → Nat) (nx : Nat → Nat → Int) (K : Nat) : Option (List Nat × List Nat) := mergeL n tk nx K 102 (List.replicate n 0) 0
theorem mergeP_M (n : Nat) (tk : Nat → Nat) (nx : Nat → Nat → Int) (K : Nat) : mergeP n tk nx K = (mergeM n tk nx K).map fun x => gatherP tk nx K x.1 x.2 := by unfold mergeP mergeM; rfl
theorem mergeM_start {n : Nat} {tk : Nat → Nat} {nx : Nat → Nat → Int} {K : Nat} (hn : 0 < n) (hrng : ∀ s g, s < n → g < K → nx s g = -1 ∨ (0 ≤ nx s g ∧ nx s g < (n : Int))) :
    (∀ x, mergeM n tk nx K = some x → ∃ r', Merged n tk nx K x.1 x.2 r') ∧ (mergeM n tk nx K = none → Many n tk nx K) := by
  unfold mergeM; exact mergeL_start hn hrng

theorem condSt_raw (next : Nat → Int) (begin : Int) (G la : List Int) : condSt next begin G la = mergeP (rawN next begin G) (rawT next begin la G) (rawX next begin G) G.length := by
  unfold condSt rawOf rawN rawT rawX rawS
  dsimp only

/-- Bytes for groups. -/
theorem obsA_map (mk : Nat → Nat) (tr : Nat → Nat → Int) (of_ : Nat → Nat) : ∀ (w : List Nat) (p : Nat), obsA mk (fun p b => tr p (of_ b)) p w = obsA mk tr p (w.map of_)
  | [], _ => rfl
  | b :: w, p => by
    rw [List.map_cons]
    by_cases e : tr p (of_ b) = -1
    · rw [obsA_none e, obsA_none (tr := fun p b => tr p (of_ b)) e]
    · rw [obsA_cons e, obsA_cons (tr := fun p b => tr p (of_ b)) e]
      exact obsA_map mk tr of_ w _
theorem Canon.bytes {n K : Nat} {mk : Nat → Nat} {tr : Nat → Nat → Int} (h : Canon n K mk tr) {of_ : Nat → Nat} (h1 : ∀ b, b < 256 → of_ b < K) {lo : Nat → Nat} (h2 : ∀ g, g < K → lo g < 256 ∧ of_ (lo g) = g) (h3 : ∀ g g', g < g' → g' < K → lo g < lo g') (h4 : ∀ b, b < 256 → lo (of_ b) ≤ b) :
    Canon n 256 mk (fun p b => tr p (of_ b)) := by
  have hz : ∀ z, lets K z → ∃ w, lets 256 w ∧ w.map of_ = z := fun z hz => by
    refine ⟨z.map lo, fun b hb => ?_, ?_⟩
    · rw [List.mem_map] at hb
      obtain ⟨g, hg, rfl⟩ := hb
      exact (h2 g (hz g hg)).1
    · rw [List.map_map]
      have : ∀ g ∈ z, (of_ ∘ lo) g = g := fun g hg => (h2 g (hz g hg)).2
      rw [List.map_congr_left this, List.map_id']
  have hlo : ∀ g g', g ≤ g' → g' < K → lo g ≤ lo g' := fun g g' hle hg => by
    by_cases e : g = g'
    · rw [e]; exact Nat.le_refl _
    · exact Nat.le_of_lt (h3 g g' (by omega) hg)
  refine ⟨⟨h.au.pos, fun p b hp hb => h.au.rng p (of_ b) hp (h1 b hb)⟩, ⟨fun p b q hp hb hq hle => ?_, fun q hq hqn => ?_⟩, fun p b hp hb hne => ?_, fun p q hp hq hne => ?_⟩
  · obtain ⟨p', g', a1, a2, a3⟩ := h.od.d1 p (of_ b) q hp (h1 b hb) hq hle
    refine ⟨p', lo g', (h2 g' a1).1, ?_, by simp only [(h2 g' a1).2]; exact a3⟩
    rcases a2 with a2 | ⟨a2, a4⟩
    · exact .inl a2
    · exact .inr ⟨a2, Nat.le_trans (hlo g' (of_ b) a4 (h1 b hb)) (h4 b hb)⟩
  · obtain ⟨p, g, a1, a2, a3⟩ := h.od.d2 q hq hqn
    exact ⟨p, lo g, a1, (h2 g a2).1, by simp only [(h2 g a2).2]; exact a3⟩
  · obtain ⟨z, hzK, hne2⟩ := h.li p (of_ b) hp (h1 b hb) hne
    obtain ⟨w, hw, e⟩ := hz z hzK
    exact ⟨w, hw, by rw [obsA_map, e]; exact hne2⟩
  · obtain ⟨z, hzK, hne2⟩ := h.ap p q hp hq hne
    obtain ⟨w, hw, e⟩ := hz z hzK
    exact ⟨w, hw, by rw [obsA_map mk tr of_ w p, obsA_map mk tr of_ w q, e]; exact hne2⟩

/-- The groups of a file: each byte's. -/
def ofB (l : List RuleX) (b : Nat) : Nat := (grpP (fnsOf l)).1.getD b 0
def grpG (l : List RuleX) : List Int := (grpP (fnsOf l)).2
def begC4 (l : List RuleX) (c : Nat) : Int := beginL (fun r => (netF (putRules st0 l).nodes (putRules st0 l).rules).getD r 0) c (putRules st0 l).rules 0 0

theorem fnsOf_good : ∀ (l : List RuleX), (∀ x ∈ l, RuleOk x) → ∀ f ∈ fnsOf l, FnOk f
  | [], _, f, hf => absurd hf List.not_mem_nil
  | x :: l, h, f, hf => by
    rcases List.mem_append.1 hf with h1 | h1
    · exact (h x List.mem_cons_self).g f h1
    · exact fnsOf_good l (fun y hy => h y (List.mem_cons_of_mem _ hy)) f h1
theorem fnsOf_len : ∀ (l : List RuleX), (fnsOf l).length = sumNp l
  | [] => rfl
  | x :: l => by show (x.2.2.fns ++ fnsOf l).length = x.2.2.np + sumNp l; rw [List.length_append, Rx.fns_len, fnsOf_len l]

theorem cond_net (l : List RuleX) (hl : ∀ x ∈ l, RuleOk x) (hn : sumNp l ≤ 10) (c : Nat) (hc : c < 4) :
    CondNet l c (plA (fnsOf l)) (netN (putRules st0 l).nodes) (begC4 l c) (netL (putRules st0 l).nodes (putRules st0 l).rules) (grpG l) (ofB l) := by
  obtain ⟨hnet, hru⟩ := net_ok l hn
  have hgrp := grp_ok (fnsOf l)
  have hpl : (fnsOf l).length ≤ 10 := by rw [fnsOf_len]; exact hn
  have hrl : (putRules st0 l).rules.length = l.length := by rw [putRules_len]; show 0 + l.length = l.length; omega
  have hal := fun b => alwP_in hpl b
  obtain ⟨lo, lo1, lo2, lo3⟩ := hgrp.lo
  have hGset : ∀ g, g < (grpG l).length → isSet ((grpG l).getD g 0) := fun g hg => by
    obtain ⟨h1, h2⟩ := lo1 g hg
    have := hgrp.al (lo g) h1
    rw [h2] at this
    show isSet ((grpP (fnsOf l)).2.getD g 0)
    rw [this]; exact (hal _).1
  have hbeg := beginL_in (fun r => (netF (putRules st0 l).nodes (putRules st0 l).rules).getD r 0) c (putRules st0 l).rules 0 0 isSet_zero (fun i hi => by
    rw [Nat.zero_add]
    have hi2 : i < (netF (putRules st0 l).nodes (putRules st0 l).rules).length := by rw [hnet.fl, ← hrl]; exact hi
    refine hnet.fs _ ?_
    rw [List.getD_eq_getElem?_getD, List.getElem?_eq_getElem hi2]
    exact List.getElem_mem hi2)
  refine ⟨hn, hnet.s, hnet.f, hbeg.1, fun q => ?_, hnet.ll, hnet.ls, hnet.lf, hGset, hgrp.lt, fun b hb p => ?_, fun g hg => ⟨lo g, (lo1 g hg).1, (lo1 g hg).2⟩, fun y hy => ?_, fun p hp => ?_, fun p b hb hA => ?_⟩
  · show inS (beginL _ c _ 0 0) q = true ↔ _
    rw [hbeg.2, inS_zero]
    constructor
    · rintro (h | ⟨i, x, h1, h2, h3⟩)
      · cases h
      · have hi : i < l.length := by rw [← hrl]; exact (List.getElem?_eq_some_iff.1 h1).1
        have hbl : i < (bases 0 l).length := by rw [bases_len]; exact hi
        refine ⟨i, l[i], (bases 0 l)[i], List.getElem?_eq_getElem hi, List.getElem?_eq_getElem hbl, ?_, ?_⟩
        · have := congrArg (fun m => m[i]?) hru
          simp only [List.getElem?_map, h1, List.getElem?_eq_getElem hi, Option.map_some] at this
          injection this with this
          injection this with this _
          rw [← this]; exact h2.2
        · rw [Nat.zero_add] at h3
          exact (hnet.ff i _ (List.getElem?_eq_getElem hbl) q).1 h3
    · rintro ⟨r, x, y, h1, h2, h3, h4⟩
      have hr : r < (putRules st0 l).rules.length := by rw [hrl]; exact (List.getElem?_eq_some_iff.1 h1).1
      refine .inr ⟨r, (putRules st0 l).rules[r], List.getElem?_eq_getElem hr, ⟨hc, ?_⟩, ?_⟩
      · have := congrArg (fun m => m[r]?) hru
        simp only [List.getElem?_map, h1, List.getElem?_eq_getElem hr, Option.map_some] at this
        injection this with this
        injection this with this _
        rw [this]; exact h3
      · rw [Nat.zero_add]; exact (hnet.ff r y h2 q).2 h4
  · have := hgrp.al b hb
    show inS ((grpP (fnsOf l)).2.getD ((grpP (fnsOf l)).1.getD b 0) 0) p = true ↔ _
    rw [this]
    exact (hal b).2 p
  · have := bases_says l [] y hy
    rw [List.nil_append] at this
    exact this
  · have hp2 : p < (fnsOf l).length := by rw [fnsOf_len]; exact hp
    obtain ⟨b, h1, h2⟩ := fnsOf_good l hl _ (List.getElem_mem hp2)
    refine ⟨b, h1, ?_⟩
    unfold plA
    rw [List.getD_eq_getElem?_getD, List.getElem?_eq_getElem hp2]
    exact h2
  · rw [← fnsOf_len]
    apply Classical.byContradiction
    intro hcon
    unfold plA at hA
    rw [List.getD_eq_getElem?_getD, List.getElem?_eq_none (by omega)] at hA
    cases hA

/-- A condition's table. -/
structure TabOk (l : List RuleX) (c : Nat) (tab : List (Nat × List Int)) : Prop where
  cn : Canon tab.length (grpG l).length (fun s => (tab.getD s (0, [])).1) (fun s g => (tab.getD s (0, [])).2.getD g 0)
  few : tab.length ≤ 100
  apr : ∃ r, r ≤ tab.length ∧ ∀ p q, p < tab.length → q < tab.length → p ≠ q → ¬ Eqv (fun s => (tab.getD s (0, [])).1) (fun s g => (tab.getD s (0, [])).2.getD g 0) (grpG l).length r p q
  z : (tab.getD 0 (0, [])).1 = 0
  tok : ∀ b u, lets 256 (b :: u) → isTok l c (b :: u) (obsA (fun s => (tab.getD s (0, [])).1) (fun s g => (tab.getD s (0, [])).2.getD g 0) 0 ((b :: u).map (ofB l)))
  len : ∀ x ∈ tab, x.2.length = (grpG l).length
  rul : ∀ x ∈ tab, x.1 ≤ l.length
/-- So many texts of a condition that no two are alike. -/
def TooMany (l : List RuleX) (c : Nat) : Prop := Many (rawN (netN (putRules st0 l).nodes) (begC4 l c) (grpG l)) (rawT (netN (putRules st0 l).nodes) (begC4 l c) (netL (putRules st0 l).nodes (putRules st0 l).rules) (grpG l)) (rawX (netN (putRules st0 l).nodes) (begC4 l c) (grpG l)) (grpG l).length

theorem fileSt_ok (l : List RuleX) (hl : ∀ x ∈ l, RuleOk x) (hn : sumNp l ≤ 10) (c : Nat) (hc : c < 4) :
    (∀ tab, fileSt (putRules st0 l).nodes (putRules st0 l).rules (grpG l) c = some tab → TabOk l c tab) ∧ (fileSt (putRules st0 l).nodes (putRules st0 l).rules (grpG l) c = none → TooMany l c) := by
  have hcn := cond_net l hl hn c hc
  have hau := raw_auto (netN (putRules st0 l).nodes) (begC4 l c) (grpG l)
  have hor := raw_order (netN (putRules st0 l).nodes) (begC4 l c) (grpG l)
  have hms := mergeM_start (tk := rawT (netN (putRules st0 l).nodes) (begC4 l c) (netL (putRules st0 l).nodes (putRules st0 l).rules) (grpG l)) hau.pos hau.rng
  have hst : fileSt (putRules st0 l).nodes (putRules st0 l).rules (grpG l) c = mergeP (rawN (netN (putRules st0 l).nodes) (begC4 l c) (grpG l)) (rawT (netN (putRules st0 l).nodes) (begC4 l c) (netL (putRules st0 l).nodes (putRules st0 l).rules) (grpG l)) (rawX (netN (putRules st0 l).nodes) (begC4 l c) (grpG l)) (grpG l).length := by
    unfold Go.Proofs.Ytgjgjgihceijnaa.fileSt
    rw [condSt_raw]
    unfold begC4
    rfl
  rw [mergeP_M] at hst
  rw [hst]
  have hli := hcn.lively
  have htk := hcn.tok
  have hzz := hcn.zero
  have hrul : ∀ s, rawT (netN (putRules st0 l).nodes) (begC4 l c) (netL (putRules st0 l).nodes (putRules st0 l).rules) (grpG l) s ≤ l.length := fun s => by
    show tokL _ _ 0 ≤ _
    have : ∀ (m : List Int) (pl : Int) (k : Nat), tokL m pl k ≤ k + m.length := by
      intro m
      induction m with
      | nil => intro pl k; exact Nat.zero_le _
      | cons a m ih =>
        intro pl k
        rw [tokL]
        split
        · have := ih pl (k + 1); simp only [List.length_cons]; omega
        · simp only [List.length_cons]; omega
    have h1 := this (netL (putRules st0 l).nodes (putRules st0 l).rules) (rawS (netN (putRules st0 l).nodes) (begC4 l c) (grpG l) s) 0
    rw [hcn.ll] at h1
    omega
  unfold TooMany
  generalize rawN (netN (putRules st0 l).nodes) (begC4 l c) (grpG l) = n at *
  generalize rawT (netN (putRules st0 l).nodes) (begC4 l c) (netL (putRules st0 l).nodes (putRules st0 l).rules) (grpG l) = tk at *
  generalize rawX (netN (putRules st0 l).nodes) (begC4 l c) (grpG l) = nx at *
  refine ⟨fun tab ht => ?_, fun ht => ?_⟩
  · cases hm : mergeM n tk nx (grpG l).length with
    | none => rw [hm] at ht; cases ht
    | some x =>
      rw [hm] at ht
      obtain ⟨r, hM⟩ := hms.1 x hm
      injection ht with ht
      subst ht
      have hz := hM.zero hau.pos
      have hlen : (gatherP tk nx (grpG l).length x.1 x.2).length = x.2.length := by simp [gatherP]
      have hget : ∀ p, p < x.2.length → (gatherP tk nx (grpG l).length x.1 x.2).getD p (0, []) = (tk (x.2.getD p 0), (List.range (grpG l).length).map fun g => prtP (listF x.1) (nx (x.2.getD p 0) g)) := fun p hp => by
        unfold gatherP
        rw [List.getD_eq_getElem?_getD, List.getElem?_map, List.getElem?_eq_getElem hp, List.getD_eq_getElem?_getD, List.getElem?_eq_getElem hp]
        rfl
      have hm1 : ∀ p, p < x.2.length → qmk tk x.2 p = ((gatherP tk nx (grpG l).length x.1 x.2).getD p (0, [])).1 := fun p hp => by rw [hget p hp]; rfl
      have hm2 : ∀ p g, p < x.2.length → g < (grpG l).length → qtr nx x.1 x.2 p g = ((gatherP tk nx (grpG l).length x.1 x.2).getD p (0, [])).2.getD g 0 := fun p g hp hg => by
        rw [hget p hp]
        dsimp only
        rw [List.getD_eq_getElem?_getD, List.getElem?_map, List.getElem?_range hg]
        rfl
      have hcan := hM.canon hau hor hli
      refine ⟨?_, by rw [hlen]; exact hM.few, ⟨r, by rw [hlen]; exact hM.rd, fun p q hp hq hne hE => ?_⟩, ?_, fun b u hw => ?_, fun y hy => ?_, fun y hy => ?_⟩
      · rw [hlen]; exact hcan.congr hm1 hm2
      · rw [hlen] at hp hq
        refine hM.qapart hau hp hq hne ?_
        refine Eqv.congr (n := x.2.length) ?_ (fun p hp => (hm1 p hp).symm) (fun p g hp hg => (hm2 p g hp hg).symm) r p q hp hq hE
        have := (hcan.congr hm1 hm2).au
        exact this
      · rw [hget 0 hz.1, hz.2]; exact hzz
      · have h1 := htk b u hw
        have h2 : lets (grpG l).length ((b :: u).map (ofB l)) := fun d hd => by
          rw [List.mem_map] at hd
          obtain ⟨e, he, rfl⟩ := hd
          exact hcn.gl e (hw e he)
        have h3 := hM.qobs hau ((b :: u).map (ofB l)) 0 hz.1 h2
        rw [hz.2] at h3
        rw [← obsA_congr hcan.au hm1 hm2 _ 0 hz.1 h2, h3]
        exact h1
      · unfold gatherP at hy
        rw [List.mem_map] at hy
        obtain ⟨s, _, rfl⟩ := hy
        simp
      · unfold gatherP at hy
        rw [List.mem_map] at hy
        obtain ⟨s, _, rfl⟩ := hy
        exact hrul s
  · cases hm : mergeM n tk nx (grpG l).length with
    | none => exact hms.2 hm
    | some x => rw [hm] at ht; cases ht
end Go.Stn

namespace Go.Stn
theorem PJ.new {q : Nat → Nat → Bool} {s : Nat} {fin firsts : List Nat} (h : PJ q s fin firsts) (hf : firstP q firsts s firsts.length = firsts.length) : PJ q (s + 1) (fin ++ [firsts.length]) (firsts ++ [s]) := by
  have hno := firstP_none (q := q) (l := firsts) (s := s) firsts.length (Nat.le_refl _) hf
  have hlen := h.pi.len
  have hend : (fin ++ [firsts.length]).getD s 0 = firsts.length := by have := @getD_app_end fin firsts.length; rw [hlen] at this; exact this
  refine ⟨⟨by simp [hlen], fun x hx => ?_, fun f hff => ?_⟩, fun x hx => ?_, fun f f' hff hf' => ?_, fun f f' hff hf' => ?_, fun _ => ?_⟩
  · by_cases e : x = s
    · subst e
      rw [hend]
      exact ⟨by simp, .inl getD_app_end⟩
    · have hx' : x < s := by omega
      obtain ⟨h1, h2⟩ := h.pi.cl x hx'
      rw [getD_app_lt (l := fin) (by rw [hlen]; exact hx'), getD_app_lt h1]
      exact ⟨Nat.lt_of_lt_of_le h1 (by simp), h2⟩
  · simp at hff
    by_cases e : f = firsts.length
    · subst e
      rw [getD_app_end, hend]
      exact ⟨by omega, rfl⟩
    · have hf' : f < firsts.length := by omega
      obtain ⟨h1, h2⟩ := h.pi.rep f hf'
      rw [getD_app_lt hf', getD_app_lt (by rw [hlen]; exact h1)]
      exact ⟨by omega, h2⟩
  · by_cases e : x = s
    · subst e
      rw [hend, getD_app_end]
      exact Nat.le_refl _
    · have hx' : x < s := by omega
      rw [getD_app_lt (l := fin) (by rw [hlen]; exact hx'), getD_app_lt (h.pi.cl x hx').1]
      exact h.le x hx'
  · simp at hf'
    by_cases e : f' = firsts.length
    · subst e
      rw [getD_app_end, getD_app_lt hff]
      exact (h.pi.rep f hff).1
    · rw [getD_app_lt (by omega), getD_app_lt (by omega)]
      exact h.mono f f' hff (by omega)
  · simp at hf'
    by_cases e : f' = firsts.length
    · subst e
      rw [getD_app_end, getD_app_lt hff]
      exact hno f (by omega) hff
    · rw [getD_app_lt (by omega), getD_app_lt (by omega)]
      exact h.no f f' hff (by omega)
  · refine ⟨by simp, ?_⟩
    by_cases e : s = 0
    · subst e
      have : firsts = [] := by
        cases firsts with
        | nil => rfl
        | cons a r => have := (h.pi.rep 0 (by simp)).1; omega
      rw [this]; rfl
    · have := h.zero (by omega)
      rw [getD_app_lt this.1]; exact this.2
theorem PJ.old {q : Nat → Nat → Bool} {s : Nat} {fin firsts : List Nat} (h : PJ q s fin firsts) (hf : ¬ firstP q firsts s firsts.length = firsts.length) : PJ q (s + 1) (fin ++ [firstP q firsts s firsts.length]) firsts := by
  have hlen := h.pi.len
  have hlt : firstP q firsts s firsts.length < firsts.length := by have := firstP_le q firsts s firsts.length; omega
  have hq := firstP_q _ (Nat.le_refl _) hlt
  have hend : (fin ++ [firstP q firsts s firsts.length]).getD s 0 = firstP q firsts s firsts.length := by have := @getD_app_end fin (firstP q firsts s firsts.length); rw [hlen] at this; exact this
  refine ⟨⟨by simp [hlen], fun x hx => ?_, fun f hff => ?_⟩, fun x hx => ?_, h.mono, h.no, fun _ => ?_⟩
  · by_cases e : x = s
    · subst e
      rw [hend]
      exact ⟨hlt, .inr hq⟩
    · have hx' : x < s := by omega
      rw [getD_app_lt (l := fin) (by rw [hlen]; exact hx')]
      exact h.pi.cl x hx'
  · obtain ⟨h1, h2⟩ := h.pi.rep f hff
    rw [getD_app_lt (by rw [hlen]; exact h1)]
    exact ⟨by omega, h2⟩
  · by_cases e : x = s
    · subst e
      rw [hend]
      exact Nat.le_of_lt (h.pi.rep _ hlt).1
    · have hx' : x < s := by omega
      rw [getD_app_lt (l := fin) (by rw [hlen]; exact hx')]
      exact h.le x hx'
  · have : 0 < s := by have := (h.pi.rep _ hlt).1; omega
    exact h.zero this
theorem clsL_PJ {q : Nat → Nat → Bool} : ∀ d s fin firsts, PJ q s fin firsts → PJ q (s + d) (clsL q d s fin firsts).1 (clsL q d s fin firsts).2 := by
  intro d
  induction d with
  | zero => intro s fin firsts h; exact h
  | succ k ih =>
    intro s fin firsts h
    rw [clsL, show s + (k + 1) = s + 1 + k by omega]
    by_cases hf : firstP q firsts s firsts.length = firsts.length
    · rw [if_pos hf]; exact ih _ _ _ (h.new hf)
    · rw [if_neg hf]; exact ih _ _ _ (h.old hf)
theorem clsP_PJ (K : Nat) (q : Nat → Nat → Bool) : PJ q K (clsP K q).1 (clsP K q).2 := by
  have := clsL_PJ (q := q) K 0 [] [] ⟨⟨rfl, fun x hx => by omega, fun f hf => by simp at hf⟩, fun x hx => by omega, fun f f' _ hf => by simp at hf, fun f f' _ hf => by simp at hf, fun h => by omega⟩
  rw [Nat.zero_add] at this
  exact this

/-- The classes of the groups. -/
structure ClsOk (K k : Nat) (q : Nat → Nat → Bool) (cls fi : Nat → Nat) : Prop where
  pos : 0 < K → 0 < k
  le : k ≤ K
  lt : ∀ g, g < K → cls g < k
  eq : ∀ g g', g < K → g' < K → (cls g = cls g' ↔ q g g' = true)
  fi1 : ∀ j, j < k → fi j < K ∧ cls (fi j) = j
  fi2 : ∀ g, g < K → fi (cls g) ≤ g
  fi3 : ∀ j j', j < j' → j' < k → fi j < fi j'
theorem cls_ok (K : Nat) (q : Nat → Nat → Bool) (hr : ∀ x, q x x = true) (hs : ∀ x y, q x y = true → q y x = true) (ht : ∀ x y z, q x y = true → q y z = true → q x z = true) :
    ClsOk K (clsP K q).2.length q (fun g => (clsP K q).1.getD g 0) (fun j => (clsP K q).2.getD j 0) := by
  have h := clsP_PJ K q
  have hf := clsP_facts q K
  exact ⟨hf.2.2.2.2, hf.2.1, fun g hg => (h.pi.cl g hg).1, fun g g' hg hg' => h.part hr hs ht hg hg', fun j hj => h.pi.rep j hj, fun g hg => h.le g hg, fun j j' => h.mono j j'⟩
theorem samB_refl (ns : Nat → Nat) (nx : Nat → Nat → Nat → Int) (n g : Nat) : samB ns nx n g g = true := samB_yes (fun _ _ _ _ => rfl)
theorem samB_iff {ns : Nat → Nat} {nx : Nat → Nat → Nat → Int} {n g h : Nat} : samB ns nx n g h = true ↔ ∀ c, c < n → ∀ s, s < ns c → nx c s g = nx c s h := by unfold samB; rw [decide_eq_true_eq]
theorem sam_cls (K : Nat) (ns : Nat → Nat) (nx : Nat → Nat → Nat → Int) (n : Nat) : ClsOk K (clsP K (samB ns nx n)).2.length (samB ns nx n) (fun g => (clsP K (samB ns nx n)).1.getD g 0) (fun j => (clsP K (samB ns nx n)).2.getD j 0) :=
  cls_ok K _ (samB_refl ns nx n) (fun _ _ h => samB_iff.2 (fun c hc s hs => (samB_iff.1 h c hc s hs).symm)) (fun _ _ _ h k => samB_iff.2 (fun c hc s hs => (samB_iff.1 h c hc s hs).trans (samB_iff.1 k c hc s hs)))

theorem flr_len {m : Nat} {f : Nat → List UInt8} : ∀ n, (∀ i, i < n → (f i).length = m) → (flr n f).length = n * m
  | 0, _ => by simp [flr]
  | n + 1, h => by
    rw [flr_succ, List.length_append, flr_len n (fun i hi => h i (by omega)), h n (by omega), Nat.succ_mul]
theorem flr_get {m : Nat} {f : Nat → List UInt8} : ∀ n i j, (∀ i, i < n → (f i).length = m) → i < n → j < m → (flr n f).getD (i * m + j) 0 = (f i).getD j 0
  | 0, i, j, _, hi, _ => by omega
  | n + 1, i, j, h, hi, hj => by
    have hl := flr_len n (fun i hi => h i (show i < n + 1 by omega))
    rw [flr_succ]
    by_cases e : i < n
    · have : i * m + j < (flr n f).length := by
        rw [hl]
        have := Nat.mul_le_mul_right m (show i + 1 ≤ n from e)
        rw [Nat.succ_mul] at this
        omega
      rw [List.getD_eq_getElem?_getD, List.getElem?_append_left this, ← List.getD_eq_getElem?_getD]
      exact flr_get n i j (fun i hi => h i (by omega)) e hj
    · have e : i = n := by omega
      subst e
      rw [List.getD_eq_getElem?_getD, List.getElem?_append_right (by rw [hl]; omega), hl, ← List.getD_eq_getElem?_getD]
      congr 1
      omega
/-- Where the part of condition c begins. -/
def offC (ns : Nat → Nat) (k : Nat) : Nat → Nat
  | 0 => 0
  | c + 1 => offC ns k c + 1 + ns c * (1 + k)
theorem flr_off {ns : Nat → Nat} {k : Nat} {f : Nat → List UInt8} (h : ∀ c, (f c).length = 1 + ns c * (1 + k)) : ∀ n, (flr n f).length = offC ns k n
  | 0 => rfl
  | n + 1 => by rw [flr_succ, List.length_append, flr_off h n, h n, offC]; omega
theorem offC_mono {ns : Nat → Nat} {k : Nat} {c d : Nat} (h : c ≤ d) : offC ns k c ≤ offC ns k d := by
  induction d with
  | zero => have : c = 0 := by omega
            subst this; exact Nat.le_refl _
  | succ e ih =>
    by_cases hc : c = e + 1
    · subst hc; exact Nat.le_refl _
    · have := ih (by omega)
      rw [offC]; omega
theorem flr_off_get {ns : Nat → Nat} {k : Nat} {f : Nat → List UInt8} (h : ∀ c, (f c).length = 1 + ns c * (1 + k)) : ∀ n c j, c < n → j < 1 + ns c * (1 + k) → (flr n f).getD (offC ns k c + j) 0 = (f c).getD j 0
  | 0, c, j, hc, _ => by omega
  | n + 1, c, j, hc, hj => by
    have hl := flr_off h n
    rw [flr_succ]
    by_cases e : c < n
    · have : offC ns k c + j < (flr n f).length := by
        rw [hl]
        have := offC_mono (ns := ns) (k := k) (show c + 1 ≤ n from e)
        rw [offC] at this
        omega
      rw [List.getD_eq_getElem?_getD, List.getElem?_append_left this, ← List.getD_eq_getElem?_getD]
      exact flr_off_get h n c j e hj
    · have e : c = n := by omega
      subst e
      rw [List.getD_eq_getElem?_getD, List.getElem?_append_right (by rw [hl]; omega), hl, ← List.getD_eq_getElem?_getD]
      congr 1
      omega

theorem getD_r {A B : List UInt8} {n i : Nat} (h : A.length = n) : (A ++ B).getD (n + i) 0 = B.getD i 0 := by
  rw [List.getD_eq_getElem?_getD, List.getElem?_append_right (by omega), ← List.getD_eq_getElem?_getD, h]
  congr 1
  omega
theorem getD_l {A B : List UInt8} {i : Nat} (h : i < A.length) : (A ++ B).getD i 0 = A.getD i 0 := by
  rw [List.getD_eq_getElem?_getD, List.getElem?_append_left h, ← List.getD_eq_getElem?_getD]
theorem ofNat_small {x : Nat} (h : x < 256) : (UInt8.ofNat x).toNat = x := by
  rw [UInt8.toNat_ofNat']; exact Nat.mod_eq_of_lt h

/-- What an image that is written reads as. -/
structure WrOk (s : ByteArray) (R n k : Nat) (beh cls : Nat → Nat) (ns : Nat → Nat) (tk : Nat → Nat → Nat) (ld : Nat → Nat → Nat → Nat) : Prop where
  ok : imgOk s = true
  fr : iR s = R
  fm : iM s = n
  fk : iK s = k
  fb : ∀ i, i < R → thenB s i = beh i
  fc : ∀ b, b < 256 → clsN s b = cls b
  fn : ∀ c, c < n → nSt s c = ns c
  ft : ∀ c st, c < n → st < ns c → markN s c st = tk c st
  fl : ∀ c st j, c < n → st < ns c → j < k → bt s (rwAt s c st + 1 + j) = ld c st j
  fz : s.size = 262 + R + offC ns k n

theorem written_ok (rules : List ((Nat → Bool) × Int × Int)) (n K : Nat) (ofs ns : Nat → Nat) (tk : Nat → Nat → Nat) (nx : Nat → Nat → Nat → Int)
    (hR1 : 1 ≤ rules.length) (hR8 : rules.length ≤ 8) (hn1 : 1 ≤ n) (hn4 : n ≤ 4) (hK1 : 0 < K) (hK : K ≤ 256) (hbe : ∀ i, i < rules.length → behF rules i ≤ 1 + n) (hof : ∀ b, b < 256 → ofs b < K) (hns : ∀ c, c < n → 1 ≤ ns c ∧ ns c ≤ 100) (htk : ∀ c st, c < n → st < ns c → tk c st ≤ rules.length)
    (hnx : ∀ c st g, c < n → st < ns c → g < K → nx c st g = -1 ∨ (0 ≤ nx c st g ∧ nx c st g < (ns c : Int))) :
    WrOk ⟨(wrL rules n K ofs ns tk nx).toArray⟩ rules.length n (clsP K (samB ns nx n)).2.length (behF rules) (fun b => (clsP K (samB ns nx n)).1.getD (ofs b) 0) ns tk (fun c st j => ldB (nx c st ((clsP K (samB ns nx n)).2.getD j 0))) := by
  have hcls := sam_cls K ns nx n
  obtain ⟨fi, hfi⟩ : ∃ fi, fi = (clsP K (samB ns nx n)).2 := ⟨_, rfl⟩
  obtain ⟨cs, hcs⟩ : ∃ cs, cs = (clsP K (samB ns nx n)).1 := ⟨_, rfl⟩
  have hL : wrL rules n K ofs ns tk nx = (imgHB rules ++ flr rules.length (fun k => [UInt8.ofNat (behF rules k)]) ++ [UInt8.ofNat n, UInt8.ofNat (fi.length - 1)] ++ flr 256 (fun b => [UInt8.ofNat (cs.getD (ofs b) 0)])) ++ flr n (fun c => [UInt8.ofNat (ns c)] ++ flr (ns c) (stB tk nx fi c)) := by
    rw [hfi, hcs]; rfl
  rw [hL]
  rw [← hfi, ← hcs] at hcls ⊢
  clear hL hfi hcs
  have hk0 := hcls.pos hK1
  have hkK := hcls.le
  obtain ⟨R, hR⟩ : ∃ R, rules.length = R := ⟨_, rfl⟩
  rw [hR] at hR1 hR8 hbe htk ⊢
  obtain ⟨k, hk⟩ : ∃ k, fi.length = k := ⟨_, rfl⟩
  rw [hk] at hcls hk0 hkK ⊢
  have l1 : (imgHB rules).length = 4 := rfl
  have l2 : (flr R (fun k => [UInt8.ofNat (behF rules k)])).length = R := by have := flr_len (m := 1) (f := fun k => [UInt8.ofNat (behF rules k)]) R (fun _ _ => rfl); omega
  have l4 : (flr 256 (fun b => [UInt8.ofNat (cs.getD (ofs b) 0)])).length = 256 := by have := flr_len (m := 1) (f := fun b => [UInt8.ofNat (cs.getD (ofs b) 0)]) 256 (fun _ _ => rfl); omega
  have hst : ∀ c st, (stB tk nx fi c st).length = 1 + k := fun c st => by
    unfold stB
    rw [List.length_append, flr_len (m := 1) fi.length (fun _ _ => rfl), hk]
    simp
  have hc : ∀ c, ([UInt8.ofNat (ns c)] ++ flr (ns c) (stB tk nx fi c)).length = 1 + ns c * (1 + k) := fun c => by
    rw [List.length_append, flr_len (ns c) (fun st _ => hst c st)]; simp
  have lH : (imgHB rules ++ flr R (fun k => [UInt8.ofNat (behF rules k)]) ++ [UInt8.ofNat n, UInt8.ofNat (k - 1)] ++ flr 256 (fun b => [UInt8.ofNat (cs.getD (ofs b) 0)])).length = 262 + R := by
    simp only [List.length_append, l1, l2, l4, List.length_cons, List.length_nil]; omega
  obtain ⟨s, hs⟩ : ∃ s : ByteArray, s = ⟨((imgHB rules ++ flr R (fun k => [UInt8.ofNat (behF rules k)]) ++ [UInt8.ofNat n, UInt8.ofNat (k - 1)] ++ flr 256 (fun b => [UInt8.ofNat (cs.getD (ofs b) 0)])) ++ flr n (fun c => [UInt8.ofNat (ns c)] ++ flr (ns c) (stB tk nx fi c))).toArray⟩ := ⟨_, rfl⟩
  rw [← hs]
  have hbt : ∀ i, bt s i = (((imgHB rules ++ flr R (fun k => [UInt8.ofNat (behF rules k)]) ++ [UInt8.ofNat n, UInt8.ofNat (k - 1)] ++ flr 256 (fun b => [UInt8.ofNat (cs.getD (ofs b) 0)])) ++ flr n (fun c => [UInt8.ofNat (ns c)] ++ flr (ns c) (stB tk nx fi c))).getD i 0).toNat := fun i => by
    rw [hs]; rfl
  have hsize : s.size = 262 + R + offC ns k n := by
    rw [hs]
    show (List.toArray _).size = _
    rw [List.size_toArray, List.length_append, lH, flr_off hc]
  have b0 : bt s 0 = 83 ∧ bt s 1 = 84 ∧ bt s 2 = 1 ∧ bt s 3 = R := by
    refine ⟨?_, ?_, ?_, ?_⟩
    all_goals
      rw [hbt]
      rw [getD_l (by rw [lH]; omega), getD_l (by simp only [List.length_append, l1, l2, List.length_cons, List.length_nil]; omega), getD_l (by simp only [List.length_append, l1, l2]; omega), getD_l (by rw [l1]; omega)]
    · rfl
    · rfl
    · rfl
    · show (UInt8.ofNat rules.length).toNat = R
      rw [hR]; exact ofNat_small (by omega)
  have hiR : iR s = R := b0.2.2.2
  have bbe : ∀ i, i < R → bt s (4 + i) = behF rules i := fun i hi => by
    rw [hbt, getD_l (by rw [lH]; omega), getD_l (by simp only [List.length_append, l1, l2, List.length_cons, List.length_nil]; omega), getD_l (by simp only [List.length_append, l1, l2]; omega), getD_r l1]
    have := flr_get (m := 1) (f := fun k => [UInt8.ofNat (behF rules k)]) R i 0 (fun _ _ => rfl) hi (by omega)
    rw [Nat.mul_one, Nat.add_zero] at this
    rw [this]
    show (UInt8.ofNat (behF rules i)).toNat = _
    exact ofNat_small (by have := hbe i hi; omega)
  have l12 : (imgHB rules ++ flr R (fun k => [UInt8.ofNat (behF rules k)])).length = 4 + R := by rw [List.length_append, l1, l2]
  have bM : bt s (4 + R) = n := by
    rw [hbt, getD_l (by rw [lH]; omega), getD_l (by rw [List.length_append, l12]; simp)]
    have := getD_r (i := 0) (B := [UInt8.ofNat n, UInt8.ofNat (k - 1)]) l12
    rw [Nat.add_zero] at this
    rw [this]
    exact ofNat_small (by omega)
  have bK : bt s (5 + R) = k - 1 := by
    rw [hbt, getD_l (by rw [lH]; omega), getD_l (by rw [List.length_append, l12]; simp; omega)]
    have := getD_r (i := 1) (B := [UInt8.ofNat n, UInt8.ofNat (k - 1)]) l12
    rw [show 5 + R = 4 + R + 1 by omega, this]
    exact ofNat_small (by omega)
  have l123 : (imgHB rules ++ flr R (fun k => [UInt8.ofNat (behF rules k)]) ++ [UInt8.ofNat n, UInt8.ofNat (k - 1)]).length = 6 + R := by rw [List.length_append, l12]; simp; omega
  have bC : ∀ b, b < 256 → bt s (6 + R + b) = cs.getD (ofs b) 0 := fun b hb => by
    rw [hbt, getD_l (by rw [lH]; omega), getD_r l123]
    have := flr_get (m := 1) (f := fun b => [UInt8.ofNat (cs.getD (ofs b) 0)]) 256 b 0 (fun _ _ => rfl) hb (by omega)
    rw [Nat.mul_one, Nat.add_zero] at this
    rw [this]
    show (UInt8.ofNat (cs.getD (ofs b) 0)).toNat = _
    exact ofNat_small (by have := hcls.lt (ofs b) (hof b hb); omega)
  have bT : ∀ c j, c < n → j < 1 + ns c * (1 + k) → bt s (262 + R + (offC ns k c + j)) = (([UInt8.ofNat (ns c)] ++ flr (ns c) (stB tk nx fi c)).getD j 0).toNat := fun c j hcn hj => by
    rw [hbt, getD_r lH, flr_off_get hc n c j hcn hj]
  have bN : ∀ c, c < n → bt s (262 + R + offC ns k c) = ns c := fun c hcn => by
    have := bT c 0 hcn (by omega)
    rw [Nat.add_zero] at this
    rw [this]
    exact ofNat_small (by have := (hns c hcn).2; omega)
  have bS : ∀ c st j, c < n → st < ns c → j < 1 + k → bt s (262 + R + offC ns k c + 1 + st * (1 + k) + j) = ((stB tk nx fi c st).getD j 0).toNat := fun c st j hcn hst' hj => by
    have hlt : st * (1 + k) + j < ns c * (1 + k) := by
      have := Nat.mul_le_mul_right (1 + k) (show st + 1 ≤ ns c from hst')
      rw [Nat.succ_mul] at this
      omega
    have := bT c (1 + (st * (1 + k) + j)) hcn (by omega)
    rw [show 262 + R + offC ns k c + 1 + st * (1 + k) + j = 262 + R + (offC ns k c + (1 + (st * (1 + k) + j))) by omega, this, getD_r (by rfl), flr_get (ns c) st j (fun st _ => hst c st) hst' hj]
  have bMk : ∀ c st, c < n → st < ns c → bt s (262 + R + offC ns k c + 1 + st * (1 + k)) = tk c st := fun c st hcn hst' => by
    have := bS c st 0 hcn hst' (by omega)
    rw [Nat.add_zero] at this
    rw [this]
    show (UInt8.ofNat (tk c st)).toNat = _
    exact ofNat_small (by have := htk c st hcn hst'; omega)
  have bLd : ∀ c st j, c < n → st < ns c → j < k → bt s (262 + R + offC ns k c + 1 + st * (1 + k) + (j + 1)) = ldB (nx c st (fi.getD j 0)) := fun c st j hcn hst' hj => by
    have := bS c st (j + 1) hcn hst' (by omega)
    rw [this]
    unfold stB
    rw [Nat.add_comm j 1, getD_r (by rfl)]
    have := flr_get (m := 1) (f := fun i => [UInt8.ofNat (ldB (nx c st (fi.getD i 0)))]) fi.length j 0 (fun _ _ => rfl) (by omega) (by omega)
    rw [Nat.mul_one, Nat.add_zero] at this
    rw [this]
    show (UInt8.ofNat (ldB (nx c st (fi.getD j 0)))).toNat = _
    refine ofNat_small ?_
    unfold ldB
    split
    · omega
    · exact Nat.mod_lt _ (by omega)
  have hldv : ∀ c st j, c < n → st < ns c → j < k → ldB (nx c st (fi.getD j 0)) < ns c ∨ ldB (nx c st (fi.getD j 0)) = 255 := fun c st j hcn hst' hj => by
    unfold ldB
    have h100 := (hns c hcn).2
    rcases hnx c st (fi.getD j 0) hcn hst' (hcls.fi1 j hj).1 with e | e
    · rw [if_pos e]; exact .inr rfl
    · rw [if_neg (by omega)]
      left
      rw [Nat.mod_eq_of_lt (by omega)]; omega
  have hiM : iM s = n := by unfold iM; rw [hiR]; exact bM
  have hiK : iK s = k := by unfold iK; rw [hiR, bK]; omega
  have hat : ∀ c, c ≤ n → iAt s c = 262 + R + offC ns k c ∧ (c < n → stOk s R k (iAt s c) = true) := by
    intro c
    induction c with
    | zero =>
      intro _
      have e0 : iAt s 0 = 262 + R + offC ns k 0 := by show 262 + iR s = 262 + R + 0; omega
      refine ⟨e0, fun hc0 => ?_⟩
      rw [e0]
      have hoff := offC_mono (ns := ns) (k := k) (show 0 + 1 ≤ n from hc0)
      rw [offC] at hoff
      rw [stOk_iff, bN 0 hc0, hsize]
      have := hns 0 hc0
      refine ⟨by omega, by omega, by omega, by omega, fun st hst' => ?_⟩
      rw [rowOk_iff]
      refine ⟨by rw [bMk 0 st hc0 hst']; exact htk 0 st hc0 hst', fun j hj => ?_⟩
      rw [bLd 0 st j hc0 hst' hj]
      exact hldv 0 st j hc0 hst' hj
    | succ d ih =>
      intro hd
      obtain ⟨h1, h2⟩ := ih (by omega)
      have h2 := h2 (by omega)
      have e1 : iAt s (d + 1) = 262 + R + offC ns k (d + 1) := by
        show stNext s (iR s) (iK s) (iAt s d) = _
        rw [hiR, hiK, (st_yes h2).2, h1, bN d (by omega), offC]
        omega
      refine ⟨e1, fun hc0 => ?_⟩
      rw [e1]
      have hoff := offC_mono (ns := ns) (k := k) (show d + 1 + 1 ≤ n from hc0)
      rw [offC] at hoff
      rw [stOk_iff, bN (d + 1) hc0, hsize]
      have := hns (d + 1) hc0
      refine ⟨by omega, by omega, by omega, by omega, fun st hst' => ?_⟩
      rw [rowOk_iff]
      refine ⟨by rw [bMk (d + 1) st hc0 hst']; exact htk (d + 1) st hc0 hst', fun j hj => ?_⟩
      rw [bLd (d + 1) st j hc0 hst' hj]
      exact hldv (d + 1) st j hc0 hst' hj
  have hrw : ∀ c st, c < n → rwAt s c st = 262 + R + offC ns k c + 1 + st * (1 + k) := fun c st hcn => by
    unfold rwAt; rw [(hat c (by omega)).1, hiK]
  refine ⟨?_, hiR, hiM, hiK, bbe, fun b hb => by unfold clsN; rw [hiR]; exact bC b hb, fun c hcn => by unfold nSt; rw [(hat c (by omega)).1]; exact bN c hcn, fun c st hcn hst' => by unfold markN; rw [hrw c st hcn]; exact bMk c st hcn hst', fun c st j hcn hst' hj => ?_, hsize⟩
  · rw [imgOk_iff, headA_iff]
    unfold headB headC headD
    rw [hiR, hiM, hiK]
    refine ⟨⟨by omega, ⟨b0.1, b0.2.1, b0.2.2.1⟩, hR1, hR8⟩, ?_, ?_, ?_, fun c hcn => (hat c (by omega)).2 hcn, by rw [(hat n (Nat.le_refl _)).1, hsize]⟩
    · rw [Bool.and_eq_true, decide_eq_true_eq]
      refine ⟨belowB_yes (by omega) (fun j hj => ?_), by omega⟩
      have : j = 0 := by omega
      subst this
      rw [Nat.add_zero, bM]; omega
    · rw [Bool.and_eq_true]
      refine ⟨belowB_yes (by omega) (fun j hj => ?_), belowB_yes (by omega) (fun j hj => ?_)⟩
      · rw [bbe j hj]; have := hbe j hj; omega
      · have := bt_lt s (5 + R + j); omega
    · refine belowB_yes (by omega) (fun j hj => ?_)
      rw [bC j hj]
      have := hcls.lt (ofs j) (hof j hj)
      omega
  · rw [hrw c st hcn, show 262 + R + offC ns k c + 1 + st * (1 + k) + 1 + j = 262 + R + offC ns k c + 1 + st * (1 + k) + (j + 1) by omega]
    exact bLd c st j hcn hst' hj
end Go.Stn

