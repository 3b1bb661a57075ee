/- Texts put together: TkComp, AkImg, AkMany. -/
import Derived.Test.YtgjgjgihceijnaaG37
import Derived.Test.YtgjgjgihceijnaaG03
namespace Go.Stn
open Go.Proofs.Ytgjgjgihceijnaa (netN netF netL fileSt compP)
theorem cntC_ge (f : Nat → Bool) : ∀ k c, c ≤ cntC f k c ∧ cntC f k c ≤ max c k ∧ ∀ j, j < k → f j = true → j + 1 ≤ cntC f k c
  | 0, c => ⟨Nat.le_refl _, by rw [cntC]; omega, fun j hj => by omega⟩
  | k + 1, c => by
    obtain ⟨h1, h2, h3⟩ := cntC_ge f k c
    rw [cntC]
    split
    · rename_i h
      exact ⟨by omega, by omega, fun j hj _ => by omega⟩
    · rename_i h
      refine ⟨h1, by omega, fun j hj hf => ?_⟩
      by_cases e : j = k
      · subst e
        apply Classical.byContradiction
        intro hc
        exact h ⟨hf, by omega⟩
      · exact h3 j (by omega) hf
theorem cntR_ge (x : (Nat → Bool) × Int × Int) (c : Nat) : c ≤ cntR x c ∧ (x.2.1 ≤ 5 → cntR x c ≤ max c 4) ∧ x.2.1 ≤ 1 + (cntR x c : Int) ∧ ∀ j, j < 4 → x.1 j = true → j + 1 ≤ cntR x c := by
  obtain ⟨h1, h2, h3⟩ := cntC_ge x.1 4 c
  unfold cntR
  split
  · exact ⟨by omega, fun h => by omega, by omega, fun j hj hf => by have := h3 j hj hf; omega⟩
  · exact ⟨h1, fun _ => h2, by omega, h3⟩
theorem fileConds_ge : ∀ (l : List ((Nat → Bool) × Int × Int)) (c : Nat), c ≤ fileConds l c ∧ ((∀ x ∈ l, x.2.1 ≤ 5) → fileConds l c ≤ max c 4) ∧ ∀ x ∈ l, x.2.1 ≤ 1 + (fileConds l c : Int) ∧ ∀ j, j < 4 → x.1 j = true → j + 1 ≤ fileConds l c
  | [], c => ⟨Nat.le_refl _, fun _ => by rw [fileConds]; omega, fun x hx => absurd hx List.not_mem_nil⟩
  | x :: l, c => by
    obtain ⟨h1, h2, h3, h4⟩ := cntR_ge x c
    obtain ⟨k1, k2, k3⟩ := fileConds_ge l (cntR x c)
    rw [fileConds]
    refine ⟨by omega, fun h => ?_, fun y hy => ?_⟩
    · have := h2 (h x List.mem_cons_self)
      have := k2 (fun y hy => h y (List.mem_cons_of_mem _ hy))
      omega
    · rcases List.mem_cons.1 hy with e | e
      · rw [e]
        exact ⟨by omega, fun j hj hf => by have := h4 j hj hf; omega⟩
      · exact k3 y e

theorem allL_spec (cs : Nat → Option (List (Nat × List Int))) : ∀ (d c : Nat) (acc : List (List (Nat × List Int))), (∀ ls, allL cs d c acc = some ls → ∃ L, ls = acc ++ L ∧ L.length = d ∧ ∀ i, i < d → cs (c + i) = some (L.getD i [])) ∧ (allL cs d c acc = none → ∃ i, i < d ∧ cs (c + i) = none)
  | 0, c, acc => ⟨fun ls h => by rw [allL] at h; injection h with h; exact ⟨[], by rw [h, List.append_nil], rfl, fun i hi => by omega⟩, fun h => by rw [allL] at h; cases h⟩
  | d + 1, c, acc => by
    cases e : cs c with
    | none =>
      refine ⟨fun ls h => ?_, fun _ => ⟨0, by omega, by rw [Nat.add_zero]; exact e⟩⟩
      rw [allL, e] at h; cases h
    | some x =>
      obtain ⟨h1, h2⟩ := allL_spec cs d (c + 1) (acc ++ [x])
      refine ⟨fun ls h => ?_, fun h => ?_⟩
      · rw [allL, e] at h
        obtain ⟨L, a1, a2, a3⟩ := h1 ls h
        refine ⟨x :: L, by rw [a1, List.append_assoc]; rfl, by simp [a2], fun i hi => ?_⟩
        cases i with
        | zero => rw [Nat.add_zero]; exact e
        | succ j =>
          have := a3 j (by omega)
          rw [show c + (j + 1) = c + 1 + j by omega, this]
          rfl
      · rw [allL, e] at h
        obtain ⟨i, a1, a2⟩ := h2 h
        exact ⟨i + 1, by omega, by rw [show c + (i + 1) = c + 1 + i by omega]; exact a2⟩

/-- The number of a file's conditions. -/
def nConds (l : List RuleX) : Nat := fileConds (putRules st0 l).rules 1
theorem nConds_ok (l : List RuleX) (hl : ∀ x ∈ l, RuleOk x) (hn : sumNp l ≤ 10) : 1 ≤ nConds l ∧ nConds l ≤ 4 ∧ (∀ x ∈ l, x.2.1 ≤ 1 + (nConds l : Int)) ∧ ∀ x ∈ l, ∀ c, x.1 c = true → c < nConds l := by
  obtain ⟨h1, h2, h3⟩ := fileConds_ge (putRules st0 l).rules 1
  have hok := putRules_ok l st0 st0_ok hl (by show 0 + sumNp l ≤ 10; omega)
  have hru := (net_ok l hn).2
  have hmem : ∀ x ∈ l, ∃ y ∈ (putRules st0 l).rules, (y.1, y.2.1) = (x.1, x.2.1) := fun x hx => by
    have : (x.1, x.2.1) ∈ l.map (fun x => (x.1, x.2.1)) := List.mem_map.2 ⟨x, hx, rfl⟩
    rw [← hru, List.mem_map] at this
    exact this
  refine ⟨h1, ?_, fun x hx => ?_, fun x hx c hc => ?_⟩
  · have := h2 (fun x hx => (hok.be x hx).2)
    unfold nConds; omega
  · obtain ⟨y, hy, e⟩ := hmem x hx
    injection e with e1 e2
    have := (h3 y hy).1
    rw [e2] at this
    exact this
  · obtain ⟨y, hy, e⟩ := hmem x hx
    injection e with e1 e2
    have h4 : c < 4 := by
      apply Classical.byContradiction
      intro hcon
      have := (hl x hx).c4 c (by omega)
      rw [this] at hc; cases hc
    have := (h3 y hy).2 c h4 (by rw [e1]; exact hc)
    unfold nConds; omega

/-- What Compile's tables are. -/
structure Tabs (l : List RuleX) (ls : List (List (Nat × List Int))) : Prop where
  len : ls.length = nConds l
  tab : ∀ c, c < nConds l → TabOk l c (ls.getD c [])
theorem comp_tabs {t : ByteArray} (h : parseC t = 0) {l : List RuleX} (hl : fileX t = some l) :
    (∀ ls, allL (fileSt (parsedP t).nodes (parsedP t).rules (grpP (parsedP t).places).2) (fileConds (parsedP t).rules 1) 0 [] = some ls → Tabs l ls) ∧
    (allL (fileSt (parsedP t).nodes (parsedP t).rules (grpP (parsedP t).places).2) (fileConds (parsedP t).rules 1) 0 [] = none → ∃ c, c < nConds l ∧ TooMany l c) := by
  obtain ⟨hs, l', hl', hn, e1, e2, e3⟩ := parse_ok h
  rw [hl] at hl'
  injection hl' with hl'
  subst hl'
  have hok := (fileX_ok hl).1
  have hm := nConds_ok l hok hn
  have ep : (putRules st0 l).places = fnsOf l := by rw [putRules_fns]; rfl
  rw [e1, e2, e3, ep]
  obtain ⟨a1, a2⟩ := allL_spec (fileSt (putRules st0 l).nodes (putRules st0 l).rules (grpP (fnsOf l)).2) (fileConds (putRules st0 l).rules 1) 0 []
  refine ⟨fun ls hls => ?_, fun hls => ?_⟩
  · obtain ⟨L, b1, b2, b3⟩ := a1 ls hls
    rw [List.nil_append] at b1
    subst b1
    refine ⟨b2, fun c hc => ?_⟩
    have := b3 c hc
    rw [Nat.zero_add] at this
    exact (fileSt_ok l hok hn c (by omega)).1 _ this
  · obtain ⟨c, b1, b2⟩ := a2 hls
    rw [Nat.zero_add] at b2
    exact ⟨c, b1, (fileSt_ok l hok hn c (by show c < 4; have : c < nConds l := b1; omega)).2 b2⟩

theorem grpG_le (l : List RuleX) : 0 < (grpG l).length ∧ (grpG l).length ≤ 256 := by
  obtain ⟨g0, g1, _⟩ := grpP_facts (fnsOf l)
  exact ⟨g0, g1⟩
theorem conds_ok {l : List RuleX} {ls : List (List (Nat × List Int))} (h : Tabs l ls) (hl : l.length ≤ 8) (hm : nConds l ≤ 4) : CondsOk (grpG l).length ls := by
  have hmem : ∀ x ∈ ls, ∃ c, c < nConds l ∧ x = ls.getD c [] := fun x hx => by
    obtain ⟨c, hc, e⟩ := List.getElem_of_mem hx
    exact ⟨c, by rw [← h.len]; exact hc, by rw [List.getD_eq_getElem?_getD, List.getElem?_eq_getElem hc, ← e]; rfl⟩
  refine ⟨by rw [h.len]; omega, fun x hx => ?_, fun x hx z hz => ?_, fun x hx z hz => ?_, fun x hx z hz y hy => ?_⟩
  · obtain ⟨c, hc, rfl⟩ := hmem x hx
    have := (h.tab c hc).few; omega
  · obtain ⟨c, hc, rfl⟩ := hmem x hx
    have := (h.tab c hc).rul z hz; omega
  · obtain ⟨c, hc, rfl⟩ := hmem x hx
    exact (h.tab c hc).len z hz
  · obtain ⟨c, hc, rfl⟩ := hmem x hx
    have ht := h.tab c hc
    obtain ⟨s, hs, e⟩ := List.getElem_of_mem hz
    obtain ⟨g, hg, e2⟩ := List.getElem_of_mem hy
    have hgl : g < (grpG l).length := by rw [← ht.len z hz]; exact hg
    have := ht.cn.au.rng s g hs hgl
    have e3 : ((ls.getD c []).getD s (0, [])).2.getD g 0 = y := by
      rw [show (ls.getD c []).getD s (0, []) = z by rw [List.getD_eq_getElem?_getD, List.getElem?_eq_getElem hs, ← e]; rfl]
      rw [List.getD_eq_getElem?_getD, List.getElem?_eq_getElem hg, ← e2]; rfl
    simp only [e3] at this
    have := ht.few
    omega

/-- What Compile comes to, case by case. -/
theorem comp_cases (t : ByteArray) : (parseC t ≠ 0 ∧ compP t = ([], parseC t)) ∨ (parseC t = 0 ∧ ∃ l, fileX t = some l ∧ sumNp l ≤ 10 ∧
    ((compP t = ([], 4) ∧ ∃ c, c < nConds l ∧ TooMany l c) ∨
     ∃ ls, Tabs l ls ∧ compP t = (wrL (putRules st0 l).rules (nConds l) (grpG l).length (ofB l) (nsF ls) (tkF ls) (nxF ls), 0))) := by
  by_cases h : parseC t = 0
  · right
    obtain ⟨hs, l, hl, hn, e1, e2, e3⟩ := parse_ok h
    have ep : (putRules st0 l).places = fnsOf l := by rw [putRules_fns]; rfl
    refine ⟨h, l, hl, hn, ?_⟩
    obtain ⟨a1, a2⟩ := comp_tabs h hl
    have hc : ∀ X, allL (fileSt (parsedP t).nodes (parsedP t).rules (grpP (parsedP t).places).2) (fileConds (parsedP t).rules 1) 0 [] = X → compP t = match X with
        | none => ([], 4)
        | some ls => (wrL (parsedP t).rules ls.length (grpP (parsedP t).places).2.length (fun b => (grpP (parsedP t).places).1.getD b 0) (nsF ls) (tkF ls) (nxF ls), 0) := fun X hX => by
      unfold Go.Proofs.Ytgjgjgihceijnaa.compP
      rw [if_pos h, hX]
      cases X <;> rfl
    cases e : allL (fileSt (parsedP t).nodes (parsedP t).rules (grpP (parsedP t).places).2) (fileConds (parsedP t).rules 1) 0 [] with
    | none => exact .inl ⟨hc _ e, a2 e⟩
    | some ls =>
      have ht := a1 ls e
      refine .inr ⟨ls, ht, ?_⟩
      rw [hc _ e]
      simp only
      rw [ht.len, e1, e3, ep]
      rfl
  · left
    refine ⟨h, ?_⟩
    unfold Go.Proofs.Ytgjgjgihceijnaa.compP
    rw [if_neg h]

/-- The image of a file. -/
structure ImgFile (l : List RuleX) (s : ByteArray) : Prop where
  ok : imgOk s = true
  sz : s.size ≤ 120000
  fr : iR s = l.length
  fm : iM s = nConds l
  fb : ∀ (i : Nat) (x : RuleX), l[i]? = some x → (thenB s i : Int) = x.2.1
  cn : ∀ c, c < nConds l → Canon (nSt s c) 256 (markN s c) (fun p b => leadI (leadN s c p b))
  z : ∀ c, c < nConds l → markN s c 0 = 0
  tok : ∀ c, c < nConds l → ∀ b u, lets 256 (b :: u) → isTok l c (b :: u) (obsA (markN s c) (fun p b => leadI (leadN s c p b)) 0 (b :: u))
  apr : ∀ c, c < nConds l → ∃ r, r ≤ nSt s c ∧ ∀ p q, p < nSt s c → q < nSt s c → p ≠ q → ¬ Eqv (markN s c) (fun p j => leadI (bt s (rwAt s c p + 1 + j))) (iK s) r p q
  cl : ∃ fb : Nat → Nat, (∀ j, j < iK s → fb j < 256 ∧ clsN s (fb j) = j) ∧ (∀ b, b < 256 → fb (clsN s b) ≤ b) ∧ (∀ j j', j < j' → j' < iK s → fb j < fb j')
  ca : ∀ j j', j < iK s → j' < iK s → j ≠ j' → ∃ c p, c < nConds l ∧ p < nSt s c ∧ bt s (rwAt s c p + 1 + j) ≠ bt s (rwAt s c p + 1 + j')

theorem leadI_ldB {x : Int} {n : Nat} (hn : n ≤ 100) (h : x = -1 ∨ (0 ≤ x ∧ x < (n : Int))) : leadI (ldB x) = x := by
  unfold leadI ldB
  rcases h with h | h
  · rw [if_pos h, if_pos rfl, h]
  · have h1 : ¬ x = -1 := by omega
    have h2 : x.toNat < 256 := by omega
    have h3 : ¬ x.toNat = 255 := by omega
    rw [if_neg h1, Nat.mod_eq_of_lt h2, if_neg h3]; omega
theorem Eqv.letters {n K k : Nat} {tk : Nat → Nat} {nx nx' : Nat → Nat → Int} (ha : Auto n K nx) (h : ∀ g, g < K → ∃ j, j < k ∧ ∀ p, p < n → nx p g = nx' p j) : ∀ (r s t : Nat), s < n → t < n → Eqv tk nx' k r s t → Eqv tk nx K r s t
  | 0, _, _, _, _, _ => trivial
  | r + 1, s, t, hs, ht, hE => by
    refine ⟨Eqv.letters ha h r s t hs ht hE.1, hE.2.1, fun g hg => ?_⟩
    obtain ⟨j, hj, e⟩ := h g hg
    obtain ⟨h1, h2⟩ := hE.2.2 j hj
    rw [← e s hs, ← e t ht] at h1 h2
    refine ⟨h1, fun hne => ?_⟩
    have r1 := ha.rng s g hs hg
    have r2 := ha.rng t g ht hg
    have : nx t g ≠ -1 := fun e2 => hne (h1.2 e2)
    exact Eqv.letters ha h r _ _ (by omega) (by omega) (h2 hne)

theorem img_file {l : List RuleX} {ls : List (List (Nat × List Int))} (hok : ∀ x ∈ l, RuleOk x) (h1 : 0 < l.length) (h8 : l.length ≤ 8) (hn : sumNp l ≤ 10) (h : Tabs l ls) :
    ImgFile l ⟨(wrL (putRules st0 l).rules (nConds l) (grpG l).length (ofB l) (nsF ls) (tkF ls) (nxF ls)).toArray⟩ := by
  obtain ⟨m1, m4, mb, _⟩ := nConds_ok l hok hn
  have hrl : (putRules st0 l).rules.length = l.length := by rw [putRules_len]; show 0 + l.length = l.length; omega
  have hru := (net_ok l hn).2
  have hgrp := grp_ok (fnsOf l)
  obtain ⟨lo, lo1, lo2, lo3⟩ := hgrp.lo
  have hK := grpG_le l
  have hbeh : ∀ (i : Nat) (x : RuleX), l[i]? = some x → (behF (putRules st0 l).rules i : Int) = x.2.1 := fun i x hx => by
    have hi : i < (putRules st0 l).rules.length := by rw [hrl]; exact (List.getElem?_eq_some_iff.1 hx).1
    have e := congrArg (fun m => m[i]?) hru
    simp only [List.getElem?_map, hx, List.getElem?_eq_getElem hi, Option.map_some] at e
    injection e with e
    injection e with _ e2
    unfold behF
    rw [List.getD_eq_getElem?_getD, List.getElem?_map, List.getElem?_eq_getElem hi]
    simp only [Option.map_some, Option.getD_some]
    rw [e2]
    have := (hok x (List.mem_of_getElem? hx)).b0
    omega
  have hnx : ∀ c st g, c < nConds l → st < nsF ls c → g < (grpG l).length → nxF ls c st g = -1 ∨ (0 ≤ nxF ls c st g ∧ nxF ls c st g < (nsF ls c : Int)) := fun c st g hc hst hg => (h.tab c hc).cn.au.rng st g hst hg
  have hns : ∀ c, c < nConds l → 1 ≤ nsF ls c ∧ nsF ls c ≤ 100 := fun c hc => ⟨(h.tab c hc).cn.au.pos, (h.tab c hc).few⟩
  have hw := written_ok (putRules st0 l).rules (nConds l) (grpG l).length (ofB l) (nsF ls) (tkF ls) (nxF ls) (by omega) (by omega) m1 m4 hK.1 hK.2 (fun i hi => by
      have hi2 : i < l.length := by omega
      have e := hbeh i l[i] (List.getElem?_eq_getElem hi2)
      have := mb l[i] (List.getElem_mem hi2)
      omega) hgrp.lt hns (fun c st hc hst => by
      rw [hrl]
      refine (h.tab c hc).rul _ ?_
      have hst : st < (ls.getD c []).length := hst
      show (ls.getD c []).getD st (0, []) ∈ ls.getD c []
      generalize ls.getD c [] = tab at *
      rw [List.getD_eq_getElem?_getD, List.getElem?_eq_getElem hst]
      exact List.getElem_mem hst) hnx
  have hcls := sam_cls (grpG l).length (nsF ls) (nxF ls) (nConds l)
  generalize (⟨(wrL (putRules st0 l).rules (nConds l) (grpG l).length (ofB l) (nsF ls) (tkF ls) (nxF ls)).toArray⟩ : ByteArray) = s at *
  generalize hk : (clsP (grpG l).length (samB (nsF ls) (nxF ls) (nConds l))).2.length = k at *
  generalize (clsP (grpG l).length (samB (nsF ls) (nxF ls) (nConds l))).2 = fi at *
  generalize (clsP (grpG l).length (samB (nsF ls) (nxF ls) (nConds l))).1 = cs at *
  have hsame : ∀ c st g, c < nConds l → st < nsF ls c → g < (grpG l).length → nxF ls c st (fi.getD (cs.getD g 0) 0) = nxF ls c st g := fun c st g hc hst hg => by
    have hj := hcls.lt g hg
    obtain ⟨f1, f2⟩ := hcls.fi1 _ hj
    have := (hcls.eq _ g f1 hg).1 f2
    exact samB_iff.1 this c hc st hst
  have hofl : ∀ b, b < 256 → ofB l b < (grpG l).length := fun b hb => hgrp.lt b hb
  have hlead : ∀ c st b, c < nConds l → st < nsF ls c → b < 256 → leadI (leadN s c st b) = nxF ls c st (ofB l b) := fun c st b hc hst hb => by
    unfold leadN
    rw [hw.fc b hb, hw.fl c st _ hc hst (hcls.lt _ (hofl b hb)), hsame c st _ hc hst (hofl b hb)]
    exact leadI_ldB (hns c hc).2 (hnx c st _ hc hst (hofl b hb))
  have hcb : ∀ c, c < nConds l → Canon (nsF ls c) 256 (tkF ls c) (fun p b => nxF ls c p (ofB l b)) := fun c hc => (h.tab c hc).cn.bytes hofl lo1 lo2 lo3
  have hauto : ∀ c, c < nConds l → ∀ b u, lets 256 (b :: u) → obsA (markN s c) (fun p b => leadI (leadN s c p b)) 0 (b :: u) = obsA (tkF ls c) (nxF ls c) 0 ((b :: u).map (ofB l)) := fun c hc b u hw2 => by
    rw [← obsA_map]
    exact (obsA_congr (hcb c hc).au (fun p hp => (hw.ft c p hc hp).symm) (fun p b hp hb => (hlead c p b hc hp hb).symm) (b :: u) 0 (hns c hc).1 hw2).symm
  refine ⟨hw.ok, ?_, by rw [hw.fr, hrl], hw.fm, fun i x hx => ?_, fun c hc => ?_, fun c hc => ?_, fun c hc b u hl2 => ?_, fun c hc => ?_, ?_, fun j j' hj hj' hne => ?_⟩
  · rw [hw.fz, hrl]
    have : ∀ d, d ≤ nConds l → offC (nsF ls) k d ≤ d * 25801 := by
      intro d
      induction d with
      | zero => intro _; exact Nat.zero_le _
      | succ e ih =>
        intro he
        have h1 := ih (by omega)
        have h2 := Nat.mul_le_mul (hns e (by omega)).2 (show 1 + k ≤ 257 by have := hcls.le; omega)
        rw [offC, Nat.succ_mul]
        omega
    have h2 := this (nConds l) (Nat.le_refl _)
    have h3 := Nat.mul_le_mul_right 25801 m4
    omega
  · rw [hw.fb i (by rw [hrl]; exact (List.getElem?_eq_some_iff.1 hx).1)]
    exact hbeh i x hx
  · rw [hw.fn c hc]
    exact (hcb c hc).congr (fun p hp => (hw.ft c p hc hp).symm) (fun p b hp hb => (hlead c p b hc hp hb).symm)
  · rw [hw.ft c 0 hc (hns c hc).1]; exact (h.tab c hc).z
  · rw [hauto c hc b u hl2]
    exact (h.tab c hc).tok b u hl2
  · obtain ⟨r, hr, hap⟩ := (h.tab c hc).apr
    rw [hw.fn c hc]
    refine ⟨r, hr, fun p q hp hq hne hE => hap p q hp hq hne ?_⟩
    have hcan := (h.tab c hc).cn
    refine Eqv.letters (nx' := fun p j => nxF ls c p (fi.getD j 0)) (k := k) hcan.au (fun g hg => ⟨cs.getD g 0, hcls.lt g hg, fun p hp => (hsame c p g hc hp hg).symm⟩) r p q hp hq ?_
    rw [hw.fk] at hE
    have hcl : Auto (nsF ls c) k (fun p j => leadI (bt s (rwAt s c p + 1 + j))) := ⟨(hns c hc).1, fun p j hp hj => by
      rw [hw.fl c p j hc hp hj, leadI_ldB (hns c hc).2 (hnx c p _ hc hp (hcls.fi1 j hj).1)]
      exact hnx c p _ hc hp (hcls.fi1 j hj).1⟩
    exact Eqv.congr hcl (fun p hp => hw.ft c p hc hp) (fun p j hp hj => by rw [hw.fl c p j hc hp hj, leadI_ldB (hns c hc).2 (hnx c p _ hc hp (hcls.fi1 j hj).1)]) r p q hp hq hE
  · refine ⟨fun j => lo (fi.getD j 0), fun j hj => ?_, fun b hb => ?_, fun j j' hj hj' => ?_⟩
    · rw [hw.fk] at hj
      obtain ⟨f1, f2⟩ := hcls.fi1 j hj
      obtain ⟨g1, g2⟩ := lo1 _ f1
      refine ⟨g1, ?_⟩
      rw [hw.fc _ g1]
      show cs.getD (ofB l (lo (fi.getD j 0))) 0 = j
      rw [show ofB l (lo (fi.getD j 0)) = fi.getD j 0 from g2]
      exact f2
    · rw [hw.fc b hb]
      have h1 := hcls.fi2 (ofB l b) (hofl b hb)
      have h2 := lo3 b hb
      have h3 : lo (fi.getD (cs.getD (ofB l b) 0) 0) ≤ lo (ofB l b) := by
        by_cases e : fi.getD (cs.getD (ofB l b) 0) 0 = ofB l b
        · rw [e]; exact Nat.le_refl _
        · exact Nat.le_of_lt (lo2 _ _ (by omega) (hofl b hb))
      exact Nat.le_trans h3 h2
    · rw [hw.fk] at hj'
      exact lo2 _ _ (hcls.fi3 j j' hj hj') (hcls.fi1 j' hj').1
  · rw [hw.fk] at hj hj'
    obtain ⟨f1, f2⟩ := hcls.fi1 j hj
    obtain ⟨f3, f4⟩ := hcls.fi1 j' hj'
    have hno : ¬ samB (nsF ls) (nxF ls) (nConds l) (fi.getD j 0) (fi.getD j' 0) = true := fun e => by
      have := (hcls.eq _ _ f1 f3).2 e
      exact hne (f2.symm.trans (this.trans f4))
    apply Classical.byContradiction
    intro hcon
    refine hno (samB_iff.2 (fun c hc p hp => ?_))
    apply Classical.byContradiction
    intro hne2
    refine hcon ⟨c, p, hc, by rw [hw.fn c hc]; exact hp, fun e => hne2 ?_⟩
    rw [hw.fl c p j hc hp hj, hw.fl c p j' hc hp hj'] at e
    have e := congrArg leadI e
    rw [leadI_ldB (hns c hc).2 (hnx c p _ hc hp f1), leadI_ldB (hns c hc).2 (hnx c p _ hc hp f3)] at e
    exact e
end Go.Stn
namespace Go.Proofs.Ytgjgjgihceijnaa
open Go.RowKit Go.Stn
/-- Compile, of any text. -/
theorem comp_any (t : ByteArray) (w : World) : Calls Try.prog 17 #[.string t] w fun e w' => e = .returned (.tuple #[.string ⟨(compP t).1.toArray⟩, .int .i64 (compP t).2]) ∧ Below w.heap.size w w' := by
  refine pcomp_any t w (fun h => file_ok h) (fun h ls hls => ?_)
  obtain ⟨hs, l, hl, hn, e1, e2, e3⟩ := parse_ok h
  have ep : (putRules st0 l).places = fnsOf l := by rw [putRules_fns]; rfl
  have hok := fileX_ok hl
  have := conds_ok ((comp_tabs h hl).1 ls hls) hok.2.2 (nConds_ok l hok.1 hn).2.1
  rw [e3, ep]
  exact this
end Go.Proofs.Ytgjgjgihceijnaa

namespace Go.Stn
open Go.Proofs.Ytgjgjgihceijnaa (netN netF netL fileSt compP)
/-- Classes numbered by their lowest bytes are told by which bytes go together. -/
theorem cls_half {cls cls' : Nat → Nat} {K K' : Nat} {fb fb' : Nat → Nat}
    (h1 : ∀ j, j < K → fb j < 256 ∧ cls (fb j) = j) (h2 : ∀ b, b < 256 → fb (cls b) ≤ b) (h3 : ∀ j j', j < j' → j' < K → fb j < fb j') (h4 : ∀ b, b < 256 → cls b < K)
    (k1 : ∀ j, j < K' → fb' j < 256 ∧ cls' (fb' j) = j) (k2 : ∀ b, b < 256 → fb' (cls' b) ≤ b) (k3 : ∀ j j', j < j' → j' < K' → fb' j < fb' j') (k4 : ∀ b, b < 256 → cls' b < K')
    (he : ∀ b b', b < 256 → b' < 256 → (cls b = cls b' ↔ cls' b = cls' b')) : ∀ j, j < K → j < K' ∧ fb j = fb' j := by
  intro j
  induction j using Nat.strongRecOn with
  | ind j ih =>
    intro hj
    obtain ⟨x1, x2⟩ := h1 j hj
    have hn : ∀ i, i < j → cls' (fb j) ≠ i := fun i hi e => by
      obtain ⟨i1, i2⟩ := ih i hi (by omega)
      obtain ⟨y1, y2⟩ := h1 i (by omega)
      obtain ⟨z1, z2⟩ := k1 i i1
      have : cls' (fb i) = cls' (fb j) := by rw [e, i2, z2]
      have := (he _ _ y1 x1).2 this
      omega
    have hge : j ≤ cls' (fb j) := by
      apply Classical.byContradiction
      intro hc
      exact hn _ (by omega) rfl
    have hlt := k4 (fb j) x1
    have hjK : j < K' := by omega
    refine ⟨hjK, ?_⟩
    obtain ⟨y1, y2⟩ := k1 j hjK
    have a1 : fb' j ≤ fb j := by
      have := k2 (fb j) x1
      by_cases e : j = cls' (fb j)
      · rw [← e] at this; exact this
      · have := k3 j _ (by omega) hlt; omega
    have a2 : fb j ≤ fb' j := by
      have b1 := h2 (fb' j) y1
      have b2 := h4 (fb' j) y1
      by_cases e : cls (fb' j) < j
      · obtain ⟨i1, i2⟩ := ih _ e b2
        obtain ⟨c1, c2⟩ := h1 _ b2
        have := (he _ _ c1 y1).1 c2
        rw [i2, (k1 _ i1).2, y2] at this
        omega
      · by_cases e2 : j = cls (fb' j)
        · rw [← e2] at b1; exact b1
        · have := h3 j _ (by omega) b2; omega
    omega
theorem cls_same {cls cls' : Nat → Nat} {K K' : Nat} {fb fb' : Nat → Nat}
    (h1 : ∀ j, j < K → fb j < 256 ∧ cls (fb j) = j) (h2 : ∀ b, b < 256 → fb (cls b) ≤ b) (h3 : ∀ j j', j < j' → j' < K → fb j < fb j') (h4 : ∀ b, b < 256 → cls b < K)
    (k1 : ∀ j, j < K' → fb' j < 256 ∧ cls' (fb' j) = j) (k2 : ∀ b, b < 256 → fb' (cls' b) ≤ b) (k3 : ∀ j j', j < j' → j' < K' → fb' j < fb' j') (k4 : ∀ b, b < 256 → cls' b < K')
    (he : ∀ b b', b < 256 → b' < 256 → (cls b = cls b' ↔ cls' b = cls' b')) : K = K' ∧ (∀ b, b < 256 → cls b = cls' b) ∧ ∀ j, j < K → fb j = fb' j := by
  have a := cls_half h1 h2 h3 h4 k1 k2 k3 k4 he
  have b := cls_half k1 k2 k3 k4 h1 h2 h3 h4 (fun x y hx hy => (he x y hx hy).symm)
  refine ⟨?_, fun x hx => ?_, fun j hj => (a j hj).2⟩
  · rcases Nat.lt_trichotomy K K' with h | h | h
    · have := (b K h).1; omega
    · exact h
    · have := (a K' h).1; omega
  · obtain ⟨a1, a2⟩ := a _ (h4 x hx)
    obtain ⟨c1, c2⟩ := h1 _ (h4 x hx)
    have := (he _ _ c1 hx).1 c2
    rw [a2, (k1 _ a1).2] at this
    exact this

/-- The same rules, but for how they are spelled. -/
structure SameTok (l l' : List RuleX) : Prop where
  len : l.length = l'.length
  cn : nConds l = nConds l'
  be : ∀ (i : Nat) (x x' : RuleX), l[i]? = some x → l'[i]? = some x' → x.2.1 = x'.2.1
  tok : ∀ c w v, isTok l c w v ↔ isTok l' c w v
theorem SameTok.symm {l l' : List RuleX} (h : SameTok l l') : SameTok l' l := ⟨h.len.symm, h.cn.symm, fun i x x' a b => (h.be i x' x b a).symm, fun c w v => (h.tok c w v).symm⟩
theorem leadI_inj {x y : Nat} (h : leadI x = leadI y) : x = y := by
  unfold leadI at h
  split at h <;> split at h <;> omega
theorem bytes_ext {s s' : ByteArray} (hz : s.size = s'.size) (h : ∀ i, i < s.size → bt s i = bt s' i) : s = s' := by
  obtain ⟨d⟩ := s
  obtain ⟨d'⟩ := s'
  congr 1
  have hz : d.size = d'.size := hz
  refine Array.ext hz (fun i h1 h2 => ?_)
  have := h i h1
  unfold bt at this
  simp only at this
  rw [List.getD_eq_getElem?_getD, List.getD_eq_getElem?_getD, List.getElem?_eq_getElem (by simpa using h1), List.getElem?_eq_getElem (by simpa using h2)] at this
  simp only [Option.getD_some, Array.getElem_toList] at this
  exact UInt8.toNat_inj.1 this
theorem img_same {l l' : List RuleX} {s s' : ByteArray} (hs : SameTok l l') (h : ImgFile l s) (h' : ImgFile l' s') : s = s' := by
  have hR : iR s = iR s' := by rw [h.fr, h'.fr, hs.len]
  have hM : iM s = iM s' := by rw [h.fm, h'.fm, hs.cn]
  have hst : ∀ c, c < nConds l → nSt s c = nSt s' c ∧ (∀ p, p < nSt s c → markN s c p = markN s' c p) ∧ ∀ p b, p < nSt s c → b < 256 → leadN s c p b = leadN s' c p b := fun c hc => by
    have hc' : c < nConds l' := by rw [← hs.cn]; exact hc
    obtain ⟨a1, a2, a3⟩ := canon_unique (h.cn c hc) (h'.cn c hc') (fun w hw => by
      cases w with
      | nil => exact (h.z c hc).trans (h'.z c hc').symm
      | cons b u => exact isTok_one (h.tok c hc b u hw) ((hs.tok _ _ _).2 (h'.tok c hc' b u hw)))
    exact ⟨a1, a2, fun p b hp hb => leadI_inj (a3 p b hp hb)⟩
  have hMl : iM s = nConds l := h.fm
  obtain ⟨_, _, _, _, _, g6⟩ := imgOk_iff.1 h.ok
  obtain ⟨_, _, _, _, _, k6⟩ := imgOk_iff.1 h'.ok
  have ga := headA_iff.1 (imgOk_iff.1 h.ok).1
  have ka := headA_iff.1 (imgOk_iff.1 h'.ok).1
  have hst' : ∀ c p, c < nConds l → p < nSt s c → p < nSt s' c := fun c p hc hp => by rw [← (hst c hc).1]; exact hp
  obtain ⟨fb, f1, f2, f3⟩ := h.cl
  obtain ⟨fb', f1', f2', f3'⟩ := h'.cl
  have tog : ∀ (l : List RuleX) (s : ByteArray), ImgFile l s → ∀ b b', b < 256 → b' < 256 → (clsN s b = clsN s b' ↔ ∀ c p, c < nConds l → p < nSt s c → leadN s c p b = leadN s c p b') := fun l s h b b' hb hb' => by
    constructor
    · intro e c p _ _
      unfold leadN; rw [e]
    · intro e
      apply Classical.byContradiction
      intro hne
      obtain ⟨c, p, hc, hp, hh⟩ := h.ca _ _ (cls_lt h.ok b hb) (cls_lt h.ok b' hb') hne
      exact hh (e c p hc hp)
  obtain ⟨hK, hc1, hfb⟩ := cls_same f1 f2 f3 (cls_lt h.ok) f1' f2' f3' (cls_lt h'.ok) (fun b b' hb hb' => by
    rw [tog l s h b b' hb hb', tog l' s' h' b b' hb hb']
    constructor
    · intro e c p hc hp
      have hc2 : c < nConds l := by rw [hs.cn]; exact hc
      have hp2 : p < nSt s c := by rw [(hst c hc2).1]; exact hp
      rw [← (hst c hc2).2.2 p b hp2 hb, ← (hst c hc2).2.2 p b' hp2 hb']
      exact e c p hc2 hp2
    · intro e c p hc hp
      rw [(hst c hc).2.2 p b hp hb, (hst c hc).2.2 p b' hp hb']
      exact e c p (by rw [← hs.cn]; exact hc) (hst' c p hc hp))
  have hat : ∀ c, c ≤ iM s → iAt s c = iAt s' c := by
    intro c
    induction c with
    | zero => intro _; show 262 + iR s = 262 + iR s'; rw [hR]
    | succ c ih =>
      intro hc
      have e := ih (by omega)
      rw [(iAt_step (img_st h.ok (by omega))).1, (iAt_step (img_st h'.ok (by omega))).1]
      have : bt s (iAt s c) = bt s' (iAt s' c) := (hst c (by omega)).1
      rw [this, e, hK]
  have hrw : ∀ c p, c < iM s → rwAt s c p = rwAt s' c p := fun c p hc => by unfold rwAt; rw [hat c (by omega), hK]
  have hz : s.size = s'.size := by rw [← g6, ← k6, ← hM, hat _ (Nat.le_refl _)]
  have hrow : ∀ c p j, c < iM s → p < nSt s c → j < iK s → bt s (rwAt s c p + 1 + j) = bt s' (rwAt s' c p + 1 + j) := fun c p j hc hp hj => by
    obtain ⟨a1, a2⟩ := f1 j hj
    have := (hst c (by omega)).2.2 p (fb j) hp a1
    unfold leadN at this
    rw [← hc1 (fb j) a1, a2] at this
    exact this
  have hpart : ∀ d, d ≤ iM s → ∀ i, i < iAt s d → bt s i = bt s' i := by
    intro d
    induction d with
    | zero =>
      intro _ i hi
      have hi : i < 262 + iR s := hi
      by_cases h1 : i < 4
      · have e3 : bt s 3 = bt s' 3 := hR
        obtain ⟨_, ⟨a0, a1, a2⟩, _⟩ := ga
        obtain ⟨_, ⟨b0, b1, b2⟩, _⟩ := ka
        have : i = 0 ∨ i = 1 ∨ i = 2 ∨ i = 3 := by omega
        rcases this with e | e | e | e <;> subst e <;> omega
      · by_cases h2 : i < 4 + iR s
        · obtain ⟨k, rfl⟩ : ∃ k, i = 4 + k := ⟨i - 4, by omega⟩
          have hk : k < l.length := by have := h.fr; omega
          have hk' : k < l'.length := by rw [← hs.len]; exact hk
          have e1 := h.fb k _ (List.getElem?_eq_getElem hk)
          have e2 := h'.fb k _ (List.getElem?_eq_getElem hk')
          have e3 := hs.be k _ _ (List.getElem?_eq_getElem hk) (List.getElem?_eq_getElem hk')
          unfold thenB at e1 e2
          omega
        · by_cases h3 : i = 4 + iR s
          · have e : bt s (4 + iR s) = bt s' (4 + iR s') := hM
            rw [h3, e, hR]
          · by_cases h4 : i = 5 + iR s
            · have e : bt s (5 + iR s) + 1 = bt s' (5 + iR s') + 1 := hK
              rw [h4]
              rw [hR] at e ⊢
              omega
            · obtain ⟨k, rfl⟩ : ∃ k, i = 6 + iR s + k := ⟨i - 6 - iR s, by omega⟩
              have := hc1 k (by omega)
              unfold clsN at this
              rw [this, hR]
    | succ d ih =>
      intro hd i hi
      by_cases h1 : i < iAt s d
      · exact ih (by omega) i h1
      · rw [(iAt_step (img_st h.ok (by omega))).1] at hi
        by_cases h2 : i = iAt s d
        · have e : bt s (iAt s d) = bt s' (iAt s' d) := (hst d (by omega)).1
          rw [h2, e, hat d (by omega)]
        · obtain ⟨k, rfl⟩ : ∃ k, i = iAt s d + 1 + k := ⟨i - iAt s d - 1, by omega⟩
          have hk : k < bt s (iAt s d) * (1 + iK s) := by omega
          have hp : k / (1 + iK s) < nSt s d := (Nat.div_lt_iff_lt_mul (by omega)).2 hk
          have hdm := Nat.div_add_mod k (1 + iK s)
          have hml := Nat.mod_lt k (show 0 < 1 + iK s by omega)
          rw [Nat.mul_comm] at hdm
          by_cases h3 : k % (1 + iK s) = 0
          · have e := (hst d (by omega)).2.1 _ hp
            unfold markN at e
            rw [← hrw d _ (by omega)] at e
            rw [show iAt s d + 1 + k = rwAt s d (k / (1 + iK s)) by unfold rwAt; omega]
            exact e
          · have e := hrow d _ (k % (1 + iK s) - 1) (by omega) hp (by omega)
            rw [← hrw d _ (by omega)] at e
            rw [show iAt s d + 1 + k = rwAt s d (k / (1 + iK s)) + 1 + (k % (1 + iK s) - 1) by unfold rwAt; omega]
            exact e
  exact bytes_ext hz (fun i hi => hpart (iM s) (Nat.le_refl _) i (by rw [g6]; exact hi))
end Go.Stn

namespace Go.Stn
open Go.Proofs.Ytgjgjgihceijnaa (netN netF netL fileSt compP)
theorem pigeon2 : ∀ (m n : Nat) (f : Nat → Nat), (∀ i, i < n → f i < m) → m < n → ∃ i j, i < j ∧ j < n ∧ f i = f j := by
  intro m
  induction m with
  | zero => intro n f h hn; have := h 0 hn; omega
  | succ m ih =>
    intro n f h hn
    obtain ⟨k, rfl⟩ : ∃ k, n = k + 1 := ⟨n - 1, by omega⟩
    by_cases e : ∃ i, i < k ∧ f i = f k
    · obtain ⟨i, h1, h2⟩ := e
      exact ⟨i, k, h1, by omega, h2⟩
    · obtain ⟨i, j, h1, h2, h3⟩ := ih k (fun i => if f i = m then f k else f i) (fun i hi => by
        have hi1 := h i (by omega)
        have hk1 := h k (by omega)
        have hne : f i ≠ f k := fun hh => e ⟨i, hi, hh⟩
        show (if f i = m then f k else f i) < m
        split <;> omega) (by omega)
      refine ⟨i, j, h1, by omega, ?_⟩
      have hi : f i ≠ f k := fun hh => e ⟨i, by omega, hh⟩
      have hj : f j ≠ f k := fun hh => e ⟨j, by omega, hh⟩
      split at h3 <;> split at h3 <;> omega

section
variable {l : List RuleX} {c : Nat} {A : Nat → Nat → Bool} {next : Nat → Int} {begin : Int} {la G : List Int} {of_ : Nat → Nat}
/-- Each raw state has a text. -/
theorem CondNet.text (h : CondNet l c A next begin la G of_) : ∀ q, q < rawN next begin G → ∃ u, lets 256 u ∧ runA (rawX next begin G) 0 (u.map of_) = some q ∧ (q = 0 → u = []) := by
  intro q
  induction q using Nat.strongRecOn with
  | ind q ih =>
    intro hq
    by_cases h0 : q = 0
    · subst h0; exact ⟨[], lets_nil _, rfl, fun _ => rfl⟩
    · obtain ⟨p, g, h1, h2, h3⟩ := (raw_order next begin G).d2 q (by omega) hq
      obtain ⟨u, u1, u2, _⟩ := ih p h1 (by omega)
      obtain ⟨b, b1, b2⟩ := h.gn g h2
      refine ⟨u ++ [b], lets_app u1 (lets_one b1), ?_, fun e => absurd e h0⟩
      rw [List.map_append, List.map_cons, List.map_nil, runA_snoc u2, b2, if_neg (by omega), h3]
      rfl
end
theorem many_other {l l' : List RuleX} {s' : ByteArray} (hl : ∀ x ∈ l, RuleOk x) (hn : sumNp l ≤ 10) (hs : SameTok l l') (h' : ImgFile l' s') {c : Nat} (hc : c < nConds l) : ¬ TooMany l c := by
  intro hm
  have hc4 : c < 4 := by have := (nConds_ok l hl hn).2.1; omega
  have hcn := cond_net l hl hn c hc4
  have hau := raw_auto (netN (putRules st0 l).nodes) (begC4 l c) (grpG l)
  have hor := raw_order (netN (putRules st0 l).nodes) (begC4 l c) (grpG l)
  have hli := hcn.lively
  have htx := hcn.text
  have hob : ∀ w, lets 256 w → obsA (rawT (netN (putRules st0 l).nodes) (begC4 l c) (netL (putRules st0 l).nodes (putRules st0 l).rules) (grpG l)) (rawX (netN (putRules st0 l).nodes) (begC4 l c) (grpG l)) 0 (w.map (ofB l)) = obsA (markN s' c) (fun p b => leadI (leadN s' c p b)) 0 w := fun w hw => by
    have hc' : c < nConds l' := by rw [← hs.cn]; exact hc
    cases w with
    | nil => exact hcn.zero.trans (h'.z c hc').symm
    | cons b u => exact isTok_one (hcn.tok b u hw) ((hs.tok _ _ _).2 (h'.tok c hc' b u hw))
  have hgn := hcn.gn
  have hgl := hcn.gl
  unfold TooMany at hm
  generalize rawT (netN (putRules st0 l).nodes) (begC4 l c) (netL (putRules st0 l).nodes (putRules st0 l).rules) (grpG l) = tk at *
  generalize rawN (netN (putRules st0 l).nodes) (begC4 l c) (grpG l) = n at *
  generalize rawX (netN (putRules st0 l).nodes) (begC4 l c) (grpG l) = nx at *
  have hc' : c < nConds l' := by rw [← hs.cn]; exact hc
  have hcan := h'.cn c hc'
  have hfew := (nSt_le h'.ok (c := c) (by rw [h'.fm]; exact hc')).1
  obtain ⟨f, r, hf, hne⟩ := hm
  have hz : ∀ z, lets (grpG l).length z → ∃ w, lets 256 w ∧ w.map (ofB l) = z := fun z => by
    induction z with
    | nil => intro _; exact ⟨[], lets_nil _, rfl⟩
    | cons g z ih =>
      intro hz
      obtain ⟨w, w1, w2⟩ := ih (fun x hx => hz x (List.mem_cons_of_mem _ hx))
      obtain ⟨b, b1, b2⟩ := hgn g (hz g List.mem_cons_self)
      exact ⟨b :: w, lets_cons b1 w1, by rw [List.map_cons, b2, w2]⟩
  have hrun : ∀ q, q < n → ∃ p, p < nSt s' c ∧ ∀ z, lets 256 z → obsA tk nx q (z.map (ofB l)) = obsA (markN s' c) (fun p b => leadI (leadN s' c p b)) p z := fun q hq => by
    obtain ⟨u, u1, u2, u3⟩ := htx q hq
    cases e : runA (fun p b => leadI (leadN s' c p b)) 0 u with
    | some p =>
      refine ⟨p, runA_lt hcan.au u 0 p hcan.au.pos u1 e, fun z hz => ?_⟩
      have := hob (u ++ z) (lets_app u1 hz)
      rw [List.map_append, obsA_app u2, obsA_app e] at this
      exact this
    | none =>
      exfalso
      by_cases h0 : q = 0
      · rw [u3 h0, runA] at e; cases e
      · obtain ⟨p, g, h1, h2, h3⟩ := hor.d2 q (by omega) hq
        obtain ⟨z, z1, z2⟩ := hli p g (by omega) h2 (by omega)
        rw [h3, Int.toNat_natCast] at z2
        obtain ⟨w, w1, w2⟩ := hz z z1
        have := hob (u ++ w) (lets_app u1 w1)
        rw [List.map_append, obsA_app u2, w2] at this
        have hno : obsA (markN s' c) (fun p b => leadI (leadN s' c p b)) 0 (u ++ w) = 0 := by
          unfold obsA; rw [runA_app, e]
        rw [hno] at this
        exact z2 this
  have hg : ∃ g : Nat → Nat, ∀ q, q < n → g q < nSt s' c ∧ ∀ z, lets 256 z → obsA tk nx q (z.map (ofB l)) = obsA (markN s' c) (fun p b => leadI (leadN s' c p b)) (g q) z :=
    ⟨fun q => if h : q < n then Classical.choose (hrun q h) else 0, fun q hq => by simp only [dif_pos hq]; exact Classical.choose_spec (hrun q hq)⟩
  obtain ⟨g, hg⟩ := hg
  obtain ⟨i, j, h1, h2, h3⟩ := pigeon2 100 101 (fun i => g (f i)) (fun i hi => by have := (hg (f i) (hf i hi)).1; omega) (by omega)
  have hnE := hne i j (by omega) h2 (by omega)
  obtain ⟨z, z1, z2⟩ := told_apart hau hli r (f i) (f j) (hf i (by omega)) (hf j h2) hnE
  obtain ⟨w, w1, w2⟩ := hz z z1
  refine z2 ?_
  rw [← w2, (hg (f i) (hf i (by omega))).2 w w1, (hg (f j) (hf j h2)).2 w w1, h3]
theorem few_sets {l : List RuleX} {c : Nat} {A : Nat → Nat → Bool} {next : Nat → Int} {begin : Int} {la G : List Int} {of_ : Nat → Nat} (h : CondNet l c A next begin la G of_) (hn : sumNp l ≤ 6) {q : Nat} (hq : q < rawN next begin G) : (rawS next begin G q).toNat < 2 ^ 6 := by
  by_cases h0 : q = 0
  · have hz := (spreadP_ok next begin G).1.zero
    have : rawS next begin G q = 0 := by
      unfold rawS; rw [h0, List.getD_eq_getElem?_getD, hz]; rfl
    rw [this]; decide
  · obtain ⟨p, g, h1, h2, h3⟩ := (raw_order next begin G).d2 q (by omega) hq
    have hr := raw_row next begin G (p := p) (g := g) (by omega) h2
    rcases hr with ⟨e, _⟩ | ⟨q', e1, _, e2, _, _⟩
    · omega
    · have eq : q' = q := by omega
      subst eq
      have e3 : rawS next begin G q' = _ := e2
      have hsa : isSet (if p = 0 then begin else behP next (rawS next begin G p)) := by
        split
        · exact h.bs
        · exact behP_set (fun p _ => h.ns p) _
      rw [e3]
      apply Nat.lt_pow_two_of_testBit
      intro i hi
      have hin := inS_and hsa (h.gs g h2) i
      unfold inS at hin
      rw [hin]
      have : inS (G.getD g 0) i = false := by
        cases hh : inS (G.getD g 0) i with
        | false => rfl
        | true =>
          obtain ⟨b, b1, b2⟩ := h.gn g h2
          rw [← b2] at hh
          have := h.far i b b1 ((h.gf b b1 i).1 hh)
          omega
      unfold inS at this
      rw [this, Bool.and_false]
theorem many_few {l : List RuleX} (hl : ∀ x ∈ l, RuleOk x) (hn : sumNp l ≤ 6) {c : Nat} (hc : c < 4) : ¬ TooMany l c := by
  intro hm
  have hcn := cond_net l hl (by omega) c hc
  obtain ⟨f, r, hf, hne⟩ := hm
  obtain ⟨i, j, h1, h2, h3⟩ := pigeon2 (2 ^ 6) 101 (fun i => (rawS (netN (putRules st0 l).nodes) (begC4 l c) (grpG l) (f i)).toNat) (fun i hi => few_sets hcn hn (hf i hi)) (by decide)
  have hij := hne i j (by omega) h2 (by omega)
  have s1 := hcn.state (hf i (by omega))
  have s2 := hcn.state (hf j h2)
  have e : rawS (netN (putRules st0 l).nodes) (begC4 l c) (grpG l) (f i) = rawS (netN (putRules st0 l).nodes) (begC4 l c) (grpG l) (f j) := by
    have := s1.1
    have := s2.1
    omega
  have hnd := (spreadP_ok (netN (putRules st0 l).nodes) (begC4 l c) (grpG l)).1.nd
  have a1 := hf i (by omega)
  have a2 := hf j h2
  have : f i = f j := by
    unfold rawS at e
    unfold rawN at a1 a2
    rw [List.getD_eq_getElem?_getD, List.getD_eq_getElem?_getD, List.getElem?_eq_getElem a1, List.getElem?_eq_getElem a2] at e
    exact (List.getElem_inj hnd).1 e
  rw [this] at hij
  exact hij (Eqv.refl _ _)
end Go.Stn

