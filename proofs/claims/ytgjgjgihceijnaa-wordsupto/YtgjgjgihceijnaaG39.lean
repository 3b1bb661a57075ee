/- Texts put together: AkComp, KtAlikeP, KtPress, ScRun, ScScan, ScProg, ExPure, KpEx, KtAlike. -/
import Derived.Test.YtgjgjgihceijnaaG38
import Derived.Test.YtgjgjgihceijnaaG31
import Derived.Test.YtgjgjgihceijnaaG32
import Derived.Test.YtgjgjgihceijnaaG06
import Derived.Test.YtgjgjgihceijnaaG04
import Derived.Deep.RegionHeld3
import Derived.Deep.RegionWith
import Derived.Test.YtgjgjgihceijnaaG15
import Derived.Test.YtgjgjgihceijnaaG27
import Derived.Test.YtgjgjgihceijnaaG14
namespace Go.Stn
open Go.Proofs.Ytgjgjgihceijnaa (netN netF netL fileSt compP)
theorem cntR_aF {x : (Nat → Bool) × Int × Int} (h1 : x.1 = aF) (h2 : x.2.1 = 0) : cntR x 1 = 1 := by
  obtain ⟨a, b, c⟩ := x
  simp only at h1 h2
  subst h1 h2
  rfl
theorem fileConds_aF : ∀ (l : List ((Nat → Bool) × Int × Int)), (∀ x ∈ l, x.1 = aF ∧ x.2.1 = 0) → fileConds l 1 = 1
  | [], _ => rfl
  | x :: l, h => by
    rw [fileConds, cntR_aF (h x List.mem_cons_self).1 (h x List.mem_cons_self).2]
    exact fileConds_aF l (fun y hy => h y (List.mem_cons_of_mem _ hy))
theorem nConds_tr {o : Bool} {rs : List Tr} (hn : sumNp (rulesOf o rs) ≤ 10) : nConds (rulesOf o rs) = 1 := by
  unfold nConds
  refine fileConds_aF _ (fun x hx => ?_)
  have hru := (net_ok (rulesOf o rs) hn).2
  have : (x.1, x.2.1) ∈ (putRules st0 (rulesOf o rs)).rules.map (fun x => (x.1, x.2.1)) := List.mem_map.2 ⟨x, hx, rfl⟩
  rw [hru, List.mem_map] at this
  obtain ⟨y, hy, e⟩ := this
  unfold rulesOf at hy
  rw [List.mem_map] at hy
  obtain ⟨r, _, rfl⟩ := hy
  injection e with e1 e2
  exact ⟨e1.symm, e2.symm⟩
theorem tok_tr {rs : List Tr} (hg : ∀ r ∈ rs, r.good) {c : Nat} {w : List Nat} {v : Nat} (h : isTok (rulesOf false rs) c w v) : isTok (rulesOf true rs) c w v := by
  have hget : ∀ (o : Bool) (r : Nat) (x : RuleX), (rulesOf o rs)[r]? = some x → ∃ q, rs[r]? = some q ∧ x = ruleOfT o q := fun o r x hx => by
    unfold rulesOf at hx
    rw [List.getElem?_map] at hx
    cases e : rs[r]? with
    | none => rw [e] at hx; cases hx
    | some q => rw [e] at hx; injection hx with hx; exact ⟨q, rfl, hx.symm⟩
  have hput : ∀ (o : Bool) (r : Nat) (q : Tr), rs[r]? = some q → (rulesOf o rs)[r]? = some (ruleOfT o q) := fun o r q hq => by
    unfold rulesOf; rw [List.getElem?_map, hq]; rfl
  have hw : ∀ (r : Nat) (q : Tr), rs[r]? = some q → (((ruleOfT false q).1 c = true ∧ W (ruleOfT false q).2.2 w) ↔ ((ruleOfT true q).1 c = true ∧ W (ruleOfT true q).2.2 w)) := fun r q hq => by
    have := q.same_W (hg q (List.mem_of_getElem? hq)) w
    show (aF c = true ∧ W q.rxT w) ↔ (aF c = true ∧ W q.rxO w)
    rw [this]
  rcases h with ⟨h1, h2⟩ | ⟨r, x, h1, h2, h3, h4⟩
  · refine .inl ⟨h1, fun r x hx hh => ?_⟩
    obtain ⟨q, q1, rfl⟩ := hget true r x hx
    exact h2 r _ (hput false r q q1) ((hw r q q1).2 hh)
  · obtain ⟨q, q1, rfl⟩ := hget false r x h2
    refine .inr ⟨r, ruleOfT true q, h1, hput true r q q1, (hw r q q1).1 h3, fun r' x' hr hx' hh => ?_⟩
    obtain ⟨q', q1', rfl⟩ := hget true r' x' hx'
    exact h4 r' _ hr (hput false r' q' q1') ((hw r' q' q1').2 hh)
theorem isTok_ex (l : List RuleX) (c : Nat) (w : List Nat) : ∃ v, isTok l c w v := by
  by_cases h : ∃ (r : Nat) (x : RuleX), l[r]? = some x ∧ (x.1 c = true ∧ W x.2.2 w)
  · have : ∀ n, (∃ (r : Nat) (x : RuleX), r < n ∧ l[r]? = some x ∧ (x.1 c = true ∧ W x.2.2 w)) → ∃ v, isTok l c w v := by
      intro n
      induction n with
      | zero => rintro ⟨r, x, h, _⟩; omega
      | succ n ih =>
        rintro ⟨r, x, h1, h2, h3⟩
        by_cases e : ∃ (r : Nat) (x : RuleX), r < n ∧ l[r]? = some x ∧ (x.1 c = true ∧ W x.2.2 w)
        · exact ih e
        · exact ⟨r + 1, .inr ⟨r, x, rfl, h2, h3, fun r' x' hr hx' hh => e ⟨r', x', by omega, hx', hh⟩⟩⟩
    obtain ⟨r, x, h1, h2⟩ := h
    exact this (r + 1) ⟨r, x, by omega, h1, h2⟩
  · exact ⟨0, .inl ⟨rfl, fun r x hx hh => h ⟨r, x, hx, hh⟩⟩⟩
theorem same_tr {rs : List Tr} (hg : ∀ r ∈ rs, r.good) (h1 : sumC false rs ≤ 10) (h2 : sumC true rs ≤ 10) : SameTok (rulesOf false rs) (rulesOf true rs) := by
  refine ⟨by simp [rulesOf], by rw [nConds_tr (by rw [sumNp_tr]; exact h1), nConds_tr (by rw [sumNp_tr]; exact h2)], fun i x x' hx hx' => ?_, fun c w v => ⟨tok_tr hg, fun h => ?_⟩⟩
  · have : ∀ (o : Bool) (x : RuleX), (rulesOf o rs)[i]? = some x → x.2.1 = 0 := fun o x hx => by
      have := List.mem_of_getElem? hx
      unfold rulesOf at this
      rw [List.mem_map] at this
      obtain ⟨r, _, rfl⟩ := this
      rfl
    rw [this false x hx, this true x' hx']
  · obtain ⟨v', hv'⟩ := isTok_ex (rulesOf false rs) c w
    rw [isTok_one h (tok_tr hg hv')]
    exact hv'

/-- A file of trees, in one of its spellings. -/
structure TrText (o : Bool) (rs : List Tr) (t : ByteArray) : Prop where
  g : ∀ r ∈ rs, r.good
  ne : rs ≠ []
  st : Stands t 0 (fileTx (rs.map (Tr.sp o)))
  sz : t.size = (fileTx (rs.map (Tr.sp o))).length

theorem comp_bad {t : ByteArray} {k : Int} (h : parseC t = k) (hk : k ≠ 0) : compP t = ([], k) := by
  unfold Go.Proofs.Ytgjgjgihceijnaa.compP
  rw [if_neg (by rw [h]; exact hk), h]
theorem comp_tr {o : Bool} {rs : List Tr} {t : ByteArray} (h : TrText o rs t) : (120 < t.size → compP t = ([], 1)) ∧ (t.size ≤ 120 → 8 < rs.length → compP t = ([], 2)) ∧ (t.size ≤ 120 → rs.length ≤ 8 → 10 < sumC o rs → compP t = ([], 3)) ∧
    (t.size ≤ 120 → rs.length ≤ 8 → sumC o rs ≤ 10 → (compP t = ([], 4) ∧ 6 < sumC o rs ∧ TooMany (rulesOf o rs) 0) ∨ ((compP t).2 = 0 ∧ (compP t).1 ≠ [] ∧ ImgFile (rulesOf o rs) ⟨(compP t).1.toArray⟩)) := by
  have hp := parse_tr h.g h.ne h.st h.sz
  refine ⟨fun h1 => comp_bad (by rw [hp, if_pos h1]) (by decide), fun h1 h2 => comp_bad (by rw [hp, if_neg (by omega), if_pos h2]) (by decide), fun h1 h2 h3 => comp_bad (by rw [hp, if_neg (by omega), if_neg (by omega), if_pos h3]) (by decide), fun h1 h2 h3 => ?_⟩
  rw [if_neg (by omega), if_neg (by omega), if_neg (by omega)] at hp
  have hf := file_tr h.g h.ne h.st h.sz
  rw [if_pos h2] at hf
  have hok := fileX_ok hf
  rcases comp_cases t with ⟨e, _⟩ | ⟨_, l, hl, hn, hc⟩
  · exact absurd hp e
  · rw [hf] at hl
    injection hl with hl
    subst hl
    have hn1 := nConds_tr hn
    rcases hc with ⟨e1, c, hc, hm⟩ | ⟨ls, ht, e⟩
    · have hc0 : c = 0 := by omega
      subst hc0
      refine .inl ⟨e1, ?_, hm⟩
      apply Classical.byContradiction
      intro hcon
      exact many_few hok.1 (by rw [sumNp_tr]; omega) (by omega) hm
    · right
      have hi := img_file hok.1 hok.2.1 hok.2.2 hn ht
      rw [e]
      refine ⟨rfl, fun hnil => ?_, hi⟩
      have hz := (img_head hi.ok).2.2.2.2
      simp only at hnil
      rw [hnil] at hz
      have : (⟨([] : List UInt8).toArray⟩ : ByteArray).size = 0 := rfl
      omega
/-- Two spellings, one image. -/
theorem comp_alike {rs : List Tr} {t t' : ByteArray} (h : TrText false rs t) (h' : TrText true rs t') (h1 : t.size ≤ 120) (h2 : t'.size ≤ 120) (h8 : rs.length ≤ 8) (h3 : sumC false rs ≤ 10) (h4 : sumC true rs ≤ 10) : compP t = compP t' := by
  have hs := same_tr h.g h3 h4
  have hok : ∀ o t, TrText o rs t → ∀ x ∈ rulesOf o rs, RuleOk x := fun o t h => by
    have hf := file_tr h.g h.ne h.st h.sz
    rw [if_pos h8] at hf
    exact (fileX_ok hf).1
  have hn := nConds_tr (o := false) (rs := rs) (by rw [sumNp_tr]; exact h3)
  have hn' := nConds_tr (o := true) (rs := rs) (by rw [sumNp_tr]; exact h4)
  rcases (comp_tr h).2.2.2 h1 h8 h3 with ⟨e, _, m⟩ | ⟨e1, e2, i⟩ <;> rcases (comp_tr h').2.2.2 h2 h8 h4 with ⟨e', _, m'⟩ | ⟨e1', e2', i'⟩
  · rw [e, e']
  · exact absurd m (many_other (hok false t h) (by rw [sumNp_tr]; exact h3) hs i' (by omega))
  · exact absurd m' (many_other (hok true t' h') (by rw [sumNp_tr]; exact h4) hs.symm i (by omega))
  · have hi := img_same hs i i'
    injection hi with hi
    have hi := congrArg Array.toList hi
    simp only at hi
    exact Prod.ext hi (by rw [e1, e1'])
end Go.Stn

namespace Go.Stn
theorem buildK_ne {ops : List OpK} {k : Nat} (h : k < ops.length) : (buildK ops (k + 1)).2 ≠ [] := by
  rw [buildK_succ (List.getElem?_eq_getElem h)]
  unfold stepP
  simp
/-- The trees that some steps put together. -/
def opTrees (ops : List OpK) : List Tr := treesOf (builtP ops).1 (builtP ops).2
theorem opTrees_len (ops : List OpK) : (opTrees ops).length = (builtP ops).2.length := treesOf_len _ _
theorem opTrees_ok (ops : List OpK) : opTrees ops ≠ [] ∧ (∀ r ∈ opTrees ops, r.good) ∧ pileL (opTrees ops) ≤ 500 * ops.length + 10 ∧ (opTrees ops).length ≤ ops.length + 1 ∧ (builtP ops).1.length ≤ ops.length + 1 := by
  have h := buildK_ok ops ops.length (Nat.le_refl _)
  by_cases h0 : (buildK ops ops.length).2.length = 0
  · have hz : ops.length = 0 := by
      apply Classical.byContradiction
      intro hc
      obtain ⟨k, hk⟩ : ∃ k, ops.length = k + 1 := ⟨ops.length - 1, by omega⟩
      have := buildK_ne (ops := ops) (k := k) (by omega)
      rw [← hk] at this
      exact this (List.length_eq_zero_iff.1 h0)
    have hops : ops = [] := List.length_eq_zero_iff.1 hz
    subst hops
    have e : opTrees [] = [(leafP ⟨0, 0, 0⟩).tr] := rfl
    have e2 : (builtP []).1.length = 1 := rfl
    rw [e, e2]
    refine ⟨by simp, fun r hr => ?_, ?_, by simp, by simp⟩
    · rw [List.mem_singleton] at hr; rw [hr]; exact leafP_good _
    · have := leafP_len ⟨0, 0, 0⟩
      show (leafP ⟨0, 0, 0⟩).tr.oth.length + 0 ≤ _
      omega
  · have e : builtP ops = buildK ops ops.length := by unfold builtP; rw [if_neg h0]
    have e2 : opTrees ops = treesOf (buildK ops ops.length).1 (buildK ops ops.length).2 := by unfold opTrees; rw [e]
    have hl : (opTrees ops).length = (buildK ops ops.length).2.length := by rw [e2, treesOf_len]
    refine ⟨fun hc => ?_, fun r hr => ?_, ?_, ?_, ?_⟩
    · rw [hc] at hl; simp at hl; omega
    · rw [e2] at hr
      unfold treesOf at hr
      rw [List.mem_map] at hr
      obtain ⟨t, ht, rfl⟩ := hr
      obtain ⟨j, hj, ej⟩ := List.getElem_of_mem ht
      have hlt := h.ok j t (by rw [List.getElem?_eq_getElem hj, ej])
      rw [List.getD_eq_getElem?_getD, List.getElem?_eq_getElem hlt]
      exact h.g _ (List.getElem_mem hlt)
    · rw [e2]; have := h.pl; omega
    · have := h.tl; omega
    · rw [e]; have := h.al; omega
/-- All letters of a tree's spellings are bytes. -/
theorem Tr.bytes : ∀ r : Tr, r.good → (∀ b ∈ r.txt, b < 256) ∧ ∀ b ∈ r.oth, b < 256
  | .let1 a, h => by
    have h : lowL a := h
    unfold lowL at h
    refine ⟨fun b hb => ?_, fun b hb => ?_⟩
    · simp [Tr.txt] at hb; omega
    · simp [Tr.oth] at hb; omega
  | .two a c, h => by
    obtain ⟨h1, h2⟩ := h
    unfold lowL at h1 h2
    refine ⟨fun b hb => ?_, fun b hb => ?_⟩
    · simp [Tr.txt] at hb; omega
    · simp [Tr.oth] at hb; omega
  | .any, _ => by
    refine ⟨fun b hb => ?_, fun b hb => ?_⟩
    · simp [Tr.txt] at hb; omega
    · simp [Tr.oth] at hb; omega
  | .row a c, h => by
    obtain ⟨a1, a2⟩ := a.bytes h.1
    obtain ⟨c1, c2⟩ := c.bytes h.2
    refine ⟨fun b hb => ?_, fun b hb => ?_⟩
    · simp only [Tr.txt, List.mem_cons, List.mem_append, List.not_mem_nil, or_false] at hb
      rcases hb with e | e | e | e
      · omega
      · exact a1 b e
      · exact c1 b e
      · omega
    · simp only [Tr.oth, List.mem_cons, List.mem_append, List.not_mem_nil, or_false] at hb
      rcases hb with e | e | e | e | e | e
      · omega
      · exact a2 b e
      · omega
      · omega
      · exact c2 b e
      · omega
  | .or2 a c, h => by
    obtain ⟨a1, a2⟩ := a.bytes h.1
    obtain ⟨c1, c2⟩ := c.bytes h.2
    refine ⟨fun b hb => ?_, fun b hb => ?_⟩
    · simp only [Tr.txt, List.mem_cons, List.mem_append, List.not_mem_nil, or_false] at hb
      rcases hb with e | e | e | e | e
      · omega
      · exact a1 b e
      · omega
      · exact c1 b e
      · omega
    · simp only [Tr.oth, List.mem_cons, List.mem_append, List.not_mem_nil, or_false] at hb
      rcases hb with e | e | e | e | e | e | e
      · omega
      · exact c2 b e
      · omega
      · exact a2 b e
      · omega
      · exact c2 b e
      · omega
  | .many a, h => by
    obtain ⟨a1, a2⟩ := a.bytes h
    refine ⟨fun b hb => ?_, fun b hb => ?_⟩
    · simp only [Tr.txt, List.mem_cons, List.mem_append, List.not_mem_nil, or_false] at hb
      rcases hb with e | e | e | e
      · omega
      · exact a1 b e
      · omega
      · omega
    · simp only [Tr.oth, List.mem_cons, List.mem_append, List.not_mem_nil, or_false] at hb
      rcases hb with e | e | e | e | e | e | e
      · omega
      · omega
      · exact a2 b e
      all_goals omega
  | .once a, h => by
    obtain ⟨a1, a2⟩ := a.bytes h
    refine ⟨fun b hb => ?_, fun b hb => ?_⟩
    · simp only [Tr.txt, List.mem_cons, List.mem_append, List.not_mem_nil, or_false] at hb
      rcases hb with e | e | e | e
      · omega
      · exact a1 b e
      · omega
      · omega
    · simp only [Tr.oth, List.mem_cons, List.mem_append, List.not_mem_nil, or_false] at hb
      rcases hb with e | e | e | e | e | e | e
      · omega
      · exact a2 b e
      · omega
      · omega
      · exact a2 b e
      all_goals omega
  | .may a, h => by
    obtain ⟨a1, a2⟩ := a.bytes h
    refine ⟨fun b hb => ?_, fun b hb => ?_⟩
    · simp only [Tr.txt, List.mem_cons, List.mem_append, List.not_mem_nil, or_false] at hb
      rcases hb with e | e | e | e
      · omega
      · exact a1 b e
      · omega
      · omega
    · simp only [Tr.oth, List.mem_cons, List.mem_append, List.not_mem_nil, or_false] at hb
      rcases hb with e | e | e | e | e | e | e
      · omega
      · omega
      · exact a2 b e
      all_goals omega
theorem Tr.sp_bytes (o : Bool) (r : Tr) (h : r.good) : ∀ b ∈ r.sp o, b < 256 := by
  cases o
  · exact (r.bytes h).1
  · exact (r.bytes h).2
theorem ruleTx_bytes {e : List Nat} (h : ∀ b ∈ e, b < 256) : ∀ b ∈ ruleTx e, b < 256 := fun b hb => by
  simp only [ruleTx, List.mem_cons, List.mem_append, List.not_mem_nil, or_false] at hb
  rcases hb with e | e | e | e | e
  · omega
  · omega
  · exact h b e
  · omega
  · omega
theorem tailTx_bytes : ∀ (l : List (List Nat)), (∀ e ∈ l, ∀ b ∈ e, b < 256) → ∀ b ∈ tailTx l, b < 256
  | [], _, b, hb => absurd hb List.not_mem_nil
  | e :: l, h, b, hb => by
    simp only [tailTx, List.mem_cons, List.mem_append] at hb
    rcases hb with e1 | e1 | e1
    · omega
    · exact ruleTx_bytes (h e List.mem_cons_self) b e1
    · exact tailTx_bytes l (fun x hx => h x (List.mem_cons_of_mem _ hx)) b e1
theorem fileTx_bytes : ∀ (l : List (List Nat)), (∀ e ∈ l, ∀ b ∈ e, b < 256) → ∀ b ∈ fileTx l, b < 256
  | [], _, b, hb => absurd hb List.not_mem_nil
  | e :: l, h, b, hb => by
    simp only [fileTx, List.mem_append] at hb
    rcases hb with e1 | e1
    · exact ruleTx_bytes (h e List.mem_cons_self) b e1
    · exact tailTx_bytes l (fun x hx => h x (List.mem_cons_of_mem _ hx)) b e1
theorem bt_bA {u : List Nat} {i b : Nat} (h : u[i]? = some b) (hb : b < 256) : bt (bA u) i = b := by
  unfold bt bA
  simp only [List.getD_eq_getElem?_getD, List.getElem?_map, h, Option.map_some, Option.getD_some]
  simp
  omega
theorem stands_at {u : List Nat} (h : ∀ b ∈ u, b < 256) : ∀ (v : List Nat) (a : Nat), u.drop a = v → Stands (bA u) a v
  | [], _, _ => trivial
  | b :: v, a, e => by
    have hg : u[a]? = some b := by rw [← List.head?_drop, e]; rfl
    have ha : a < u.length := (List.getElem?_eq_some_iff.1 hg).1
    refine ⟨?_, stands_at h v (a + 1) ?_⟩
    · rw [peekP_at (by rw [bA_size]; exact ha), bt_bA hg (h b (List.mem_of_getElem? hg))]
    · rw [← List.drop_drop, e]; rfl
theorem tailTx_sum (o : Bool) : ∀ rs : List Tr, (tailTx (rs.map (Tr.sp o))).length ≤ pileL rs + 5 * rs.length
  | [] => Nat.le_refl _
  | r :: l => by
    have := tailTx_sum o l
    have h1 := txt_le r
    have h2 : (r.sp o).length ≤ r.oth.length := by cases o; exact h1.1; exact Nat.le_refl _
    simp only [List.map_cons, tailTx, List.length_cons, List.length_append, ruleTx_len, pileL]
    omega
theorem fileTx_sum (o : Bool) (rs : List Tr) : (fileTx (rs.map (Tr.sp o))).length ≤ pileL rs + 5 * rs.length := by
  have := tailTx_sum o rs
  cases rs with
  | nil => exact Nat.zero_le _
  | cons r l => simp only [List.map_cons, tailTx, fileTx, List.length_cons] at *; omega
theorem sumC_pile (o : Bool) : ∀ rs : List Tr, sumC o rs ≤ pileL rs
  | [] => Nat.le_refl _
  | r :: l => by
    have := sumC_pile o l
    have h1 := txt_le r
    have h2 : r.cnt o ≤ r.oth.length := by
      cases o
      · exact Nat.le_trans h1.2.1 h1.1
      · exact h1.2.2
    show r.cnt o + sumC o l ≤ r.oth.length + pileL l
    omega
/-- The text of the rules. -/
def opText (o : Bool) (ops : List OpK) : ByteArray := bA (fileTx ((opTrees ops).map (Tr.sp o)))
theorem opText_tr (o : Bool) (ops : List OpK) : TrText o (opTrees ops) (opText o ops) := by
  obtain ⟨h1, h2, _⟩ := opTrees_ok ops
  refine ⟨h2, h1, stands_at (fileTx_bytes _ (fun e he b hb => ?_)) _ 0 rfl, bA_size _⟩
  rw [List.mem_map] at he
  obtain ⟨r, hr, rfl⟩ := he
  exact r.sp_bytes o (h2 r hr) b hb
theorem opText_bounds (o : Bool) {ops : List OpK} (hn : ops.length ≤ 1100000) : (fileTx ((opTrees ops).map (Tr.sp o))).length ≤ 1000000000000 ∧ sumC o (opTrees ops) ≤ 1000000000000 ∧ (opTrees ops).length ≤ 2000000 := by
  obtain ⟨_, _, h3, h4, _⟩ := opTrees_ok ops
  have := fileTx_sum o (opTrees ops)
  have := sumC_pile o (opTrees ops)
  omega
end Go.Stn

namespace Go.Stn
open Go.Proofs.Ytgjgjgihceijnaa (compP)
/-- The image of a file, or nothing. -/
def prS (t : ByteArray) : ByteArray := ⟨(compP t).1.toArray⟩
end Go.Stn
namespace Go.Proofs.Ytgjgjgihceijnaa
open Go.RowKit Go.Stn
theorem bytes_ne {l : List UInt8} (h : l ≠ []) : ¬ (⟨l.toArray⟩ : ByteArray).toList = [] := by
  rw [ByteArray.toList_mk]; exact h
set_option maxRecDepth 100000 in
set_option maxHeartbeats 1000000 in
theorem kpressed_any {o : Bool} {rs : List Tr} {t : ByteArray} (h : TrText o rs t) (ht : t.size ≤ 1000000000000) (hr : rs.length ≤ 2000000) (hp : sumC o rs ≤ 1000000000000) (w : World) :
    Calls Try.prog 30 #[.string t, .int .i64 (rs.length : Int), .int .i64 (sumC o rs : Int)] w fun e w' => e = .returned (.tuple #[.string (prS t), .bool true]) ∧ Below w.heap.size w w' := by
  have hc := comp_tr h
  have HS : Hid (prS t = ⟨(compP t).1.toArray⟩) := rfl
  generalize sumC o rs = p at *
  generalize rs.length = r at *
  by_cases h1 : 120 < t.size
  · have hX := hc.1 h1
    have HX : Hid (prS t = ⟨#[]⟩) := by unfold Hid; rw [HS.out, hX]
    have d1 : decide ((120 : Int) < (t.size : Int)) = true := by simp; omega
    clear h1 hc HS
    go_enter Try.func30, Try.ntmps30
    go_wp2_with fail
    refine (comp_any t _).mono ?_
    rintro e w1 ⟨rfl, hb1⟩
    rw [hX]
    go_wp2
    go_ret2
    exact ⟨by rw [HX.out]; rfl, hb1⟩
  · have d1 : decide ((120 : Int) < (t.size : Int)) = false := by simp; omega
    by_cases h2 : 8 < r
    · have hX := hc.2.1 (by omega) h2
      have HX : Hid (prS t = ⟨#[]⟩) := by unfold Hid; rw [HS.out, hX]
      have d2 : decide ((8 : Int) < (r : Int)) = true := by simp; omega
      clear h1 h2 hc HS
      go_enter Try.func30, Try.ntmps30
      go_wp2_with fail
      refine (comp_any t _).mono ?_
      rintro e w1 ⟨rfl, hb1⟩
      rw [hX]
      go_wp2
      go_ret2
      exact ⟨by rw [HX.out]; rfl, hb1⟩
    · have d2 : decide ((8 : Int) < (r : Int)) = false := by simp; omega
      by_cases h3 : 10 < p
      · have hX := hc.2.2.1 (by omega) (by omega) h3
        have HX : Hid (prS t = ⟨#[]⟩) := by unfold Hid; rw [HS.out, hX]
        have d3 : decide ((10 : Int) < (p : Int)) = true := by simp; omega
        clear h1 h2 h3 hc HS
        go_enter Try.func30, Try.ntmps30
        go_wp2_with fail
        refine (comp_any t _).mono ?_
        rintro e w1 ⟨rfl, hb1⟩
        rw [hX]
        go_wp2
        go_ret2
        exact ⟨by rw [HX.out]; rfl, hb1⟩
      · have d3 : decide ((10 : Int) < (p : Int)) = false := by simp; omega
        rcases hc.2.2.2 (by omega) (by omega) (by omega) with ⟨hX, h6, _⟩ | ⟨hX, hne, _⟩
        · have HX : Hid (prS t = ⟨#[]⟩) := by unfold Hid; rw [HS.out, hX]
          have d4 : decide ((6 : Int) < (p : Int)) = true := by simp; omega
          clear h1 h2 h3 h6 hc HS
          go_enter Try.func30, Try.ntmps30
          go_wp2_with fail
          refine (comp_any t _).mono ?_
          rintro e w1 ⟨rfl, hb1⟩
          rw [hX]
          go_wp2
          go_ret2
          exact ⟨by rw [HX.out]; rfl, hb1⟩
        · have hbn := bytes_ne hne
          rw [← HS.out] at hbn
          by_cases h6 : 6 < p
          · have d4 : decide ((6 : Int) < (p : Int)) = true := by simp; omega
            clear h1 h2 h3 h6 hc
            go_enter Try.func30, Try.ntmps30
            go_wp2_with fail
            refine (comp_any t _).mono ?_
            rintro e w1 ⟨rfl, hb1⟩
            rw [hX, ← HS.out]
            go_wp2
            go_ret2
            exact ⟨by simp [hbn], hb1⟩
          · have d4 : decide ((6 : Int) < (p : Int)) = false := by simp; omega
            clear h1 h2 h3 h6 hc
            go_enter Try.func30, Try.ntmps30
            go_wp2_with fail
            refine (comp_any t _).mono ?_
            rintro e w1 ⟨rfl, hb1⟩
            rw [hX, ← HS.out]
            go_wp2
            go_ret2
            exact ⟨by simp [hbn], hb1⟩
end Go.Proofs.Ytgjgjgihceijnaa

namespace Go.Proofs.Ytgjgjgihceijnaa
open Go.RowKit Go.Stn

end Go.Proofs.Ytgjgjgihceijnaa

namespace Go.Stn
/-- What Scan answers: the tokens, the steps, the error. -/
def scanR (s inp : ByteArray) : List (Int × Int × Int) × Nat × Int :=
  if 120000 < s.size ∨ 300 < inp.size then ([], 0, 1) else if imgOk s = true then ((cutP s inp 0).1, (cutP s inp 0).2.1, 0) else ([], 0, 5)
end Go.Stn
namespace Go.Proofs.Ytgjgjgihceijnaa
open Go.RowKit Go.Stn

end Go.Proofs.Ytgjgjgihceijnaa

namespace Go.Proofs.Ytgjgjgihceijnaa
open Go.RowKit Go.Stn

set_option maxRecDepth 100000 in
set_option maxHeartbeats 1000000 in
theorem pscan_any (s inp : ByteArray) (w : World) (_hs : s.size ≤ maxLen) (_hin : inp.size ≤ maxLen) :
    Calls Try.prog 24 #[.string s, .string inp] w fun e w' =>
      ∃ v, e = .returned (.tuple #[v, .int .i64 (scanR s inp).2.1, .int .i64 (scanR s inp).2.2]) ∧ Row3 w' w'.heap.size v (scanR s inp).1 ∧ Below w.heap.size w w' := by
  by_cases hl : 300 < inp.size
  · have hr : scanR s inp = ([], 0, 1) := by unfold scanR; rw [if_pos (.inr hl)]
    rw [hr]
    clear hr
    have hd : decide ((300 : Int) < (inp.size : Int)) = true := by simp; omega
    go_enter Try.func24, Try.ntmps24
    go_wp2
    go_ret3
    exact ⟨_, rfl, ownsRow_row3 (World.ownsRow_nil w w.heap.size 61 3), Below.refl _ _⟩
  · have hd : decide ((300 : Int) < (inp.size : Int)) = false := by simp; omega
    by_cases hok : s.size ≤ 120000 ∧ imgOk s = true
    · have hr : scanR s inp = ((cutP s inp 0).1, (cutP s inp 0).2.1, 0) := by unfold scanR; rw [if_neg (by omega), if_pos hok.2]
      rw [hr]
      clear hr
      go_enter Try.func24, Try.ntmps24
      go_wp2_with fail
      refine (lread_any s _).mono ?_
      rintro e w1 ⟨hb1, ⟨hno, _⟩ | ⟨_, hi, bb, vc, ys, rfl, hn, ho, hm, hc, hk⟩⟩
      · exact absurd hok hno
      obtain ⟨vg, cap, yb, zb, rfl, him, _⟩ := read_mem hi hn ho hm hc hk
      have hlen := imgC_len (.slice (some ⟨bb, 0, none⟩) (lRules s) (lRules s)) (lClassOf s) (.slice (some ⟨vg, 0, none⟩) (iM s) cap) (by unfold lClassOf; rw [numsP_len]; rfl)
      have hone := imgC_one (vb := .slice (some ⟨bb, 0, none⟩) (lRules s) (lRules s)) (vc := .slice (some ⟨vg, 0, none⟩) (iM s) cap) (cs := lClassOf s) rfl rfl
      obtain ⟨IL, EIL⟩ : ∃ l, imgC (.slice (some ⟨bb, 0, none⟩) (lRules s) (lRules s)) (lClassOf s) (.slice (some ⟨vg, 0, none⟩) (iM s) cap) = l := ⟨_, rfl⟩
      rw [EIL] at hlen hone ⊢
      have HTL : Hid (IL.toArray.toList = IL) := by unfold Hid; simp
      have HSZ : Hid (IL.toArray.size = 258) := by unfold Hid; simpa using hlen
      have HALL : Hid (IL.toArray.all (·.oneCell') = true) := all_oneCell_toArray hone
      obtain ⟨A, EA⟩ : ∃ a, IL.toArray = a := ⟨_, rfl⟩
      rw [EA] at HTL HSZ HALL ⊢
      have HA : Hid (A.toList = imgC (.slice (some ⟨bb, 0, none⟩) (iR s) (iR s)) (lClassOf s) (.slice (some ⟨vg, 0, none⟩) (iM s) cap)) := by
        unfold Hid; rw [HTL.out, ← EIL, (img_read hi).ru]
      have HIM := hidZ him
      have HI := hidZ hi
      have HB1 := hidZ hb1
      have HN2 := hidZ (there_newA w1 Try.zeroCells75 75 w1.heap.size 258 Try.imgZero rfl)
      have HBS : Hid (Below w1.heap.size w1 ((w1.alloc (.cells Try.zeroCells75 75)).setCells w1.heap.size 0 A.toList)) := below_setCells _ 0 _ w1.heap.size ((Below.refl _ _).alloc (Nat.le_refl _) _) (Nat.le_refl _)
      have HRI : Hid (((w1.alloc (.cells Try.zeroCells75 75)).setCells w1.heap.size 0 A.toList).rangeAt w1.heap.size 0 A.toList) := World.rangeAt_setCells_same _ _ _ _ (by rw [Array.length_toList, HSZ.out]; exact HN2.out)
      clear EIL hlen hone EA HTL him hi hb1 hn ho hm hc hk hok
      have HIM2 : Hid (IM ((w1.alloc (.cells Try.zeroCells75 75)).setCells w1.heap.size 0 A.toList) s bb vg yb zb ((w1.alloc (.cells Try.zeroCells75 75)).setCells w1.heap.size 0 A.toList).heap.size) := (HIM.out.below HBS.out (Nat.le_refl _)).mono HBS.out.size
      have HB2 : Hid (Below w.heap.size w ((w1.alloc (.cells Try.zeroCells75 75)).setCells w1.heap.size 0 A.toList)) := HB1.out.trans (HBS.out.mono HB1.out.size)
      generalize hW2 : (w1.alloc (.cells Try.zeroCells75 75)).setCells w1.heap.size 0 A.toList = w2 at *
      replace hW2 := hidZ hW2
      clear HIM HB1 HBS
      go_wp2_with (first
        | (refine wpList_store_mid rfl 75 (.tmp 7) (.tmp 18) rfl w1.heap.size 0 A rfl rfl ?_ ?_ HALL.out ?_; (rw [HSZ.out]; exact HN2.out); (rw [HSZ.out]; exact Try.imgSize); rw [hW2.out])
        | (refine wpList_load_mid rfl 75 (.tmp 7) rfl w1.heap.size 0 rfl A.toList _ HRI.out Try.underlying75 rfl ?_ ?_; (rw [Array.length_toList, HSZ.out]; exact Try.imgSize))
        | fail)
      refine (ccut_any s inp 0 bb vg cap yb zb A w2 HI.out (by omega) (img_head HI.out).2.2.1 HA.out HIM2.out).mono ?_
      rintro e w3 ⟨vt, rfl, hrt, hb3⟩
      have HR3 := hidZ hrt
      have HB3 := hidZ (HB2.out.trans (hb3.mono HB2.out.size))
      clear hrt hb3
      go_wp2
      go_ret3
      exact ⟨vt, rfl, ownsRow_row3 HR3.out, HB3.out⟩
    · have hr : scanR s inp = ([], 0, chk s) := by
        unfold scanR chk
        by_cases h1 : 120000 < s.size
        · rw [if_pos (.inl h1), if_pos h1]
        · have h2 : ¬ imgOk s = true := fun h => hok ⟨by omega, h⟩
          rw [if_neg (by omega), if_neg h2, if_neg h1, if_neg h2]
      have hne : ((chk s : Int) != 0) = true := by
        rw [bne_iff_ne]
        unfold chk
        by_cases h1 : 120000 < s.size
        · rw [if_pos h1]; decide
        · have h2 : ¬ imgOk s = true := fun h => hok ⟨by omega, h⟩
          rw [if_neg h1, if_neg h2]; decide
      rw [hr]
      clear hr
      go_enter Try.func24, Try.ntmps24
      go_wp2_with fail
      refine (lread_any s _).mono ?_
      rintro e w1 ⟨hb1, ⟨_, rfl⟩ | ⟨h1, h2, _⟩⟩
      · have HB1 := hidZ hb1
        have HN2 := hidZ (there_newA w1 Try.zeroCells75 75 w1.heap.size 258 Try.imgZero rfl)
        have HBS : Hid (Below w1.heap.size w1 ((w1.alloc (.cells Try.zeroCells75 75)).setCells w1.heap.size 0 Try.zeroCells75.toList)) := below_setCells _ 0 _ w1.heap.size ((Below.refl _ _).alloc (Nat.le_refl _) _) (Nat.le_refl _)
        clear hb1 hok
        obtain ⟨ck, hck⟩ : ∃ ck, chk s = ck := ⟨_, rfl⟩
        rw [hck] at hne ⊢
        replace hck := hidZ hck
        go_wp2_with (first
          | (refine wpList_store_mid rfl 75 (.tmp 7) (.tmp 18) rfl w1.heap.size 0 Try.zeroCells75 rfl rfl ?_ ?_ Try.imgZeroOne ?_; (rw [Try.imgZero]; exact HN2.out); (rw [Try.imgZero]; exact Try.imgSize))
          | fail)
        go_ret3
        exact ⟨_, by rw [hck.out]; rfl, ownsRow_row3 (World.ownsRow_nil _ 0 61 3), HB1.out.trans (HBS.out.mono HB1.out.size)⟩
      · exact absurd ⟨h1, h2⟩ hok
end Go.Proofs.Ytgjgjgihceijnaa

namespace Go.Proofs.Ytgjgjgihceijnaa
open Go.RowKit Go.Stn

def exT : ByteArray := ⟨#[65, 32, 97, 32, 46]⟩
def exIn : ByteArray := ⟨#[97, 97, 98]⟩
def exL : List UInt8 := [83, 84, 1, 1, 0, 1, 1] ++ (List.replicate 97 0 ++ (1 :: List.replicate 158 0)) ++ [2, 0, 255, 1, 1, 255, 255]
def exI : ByteArray := ⟨exL.toArray⟩

theorem ex_comp : compP exT = (exL, 0) := by kernel_rfl
end Go.Proofs.Ytgjgjgihceijnaa

namespace Go.Proofs.Ytgjgjgihceijnaa
open Go.RowKit Go.Stn

theorem ex_nodes : (parsedP exT).nodes = [(0, 0, 0)] := by kernel_rfl
theorem ex_rules : (parsedP exT).rules.map (·.2) = [(0, 0)] := by kernel_rfl
theorem ex_places : (parsedP exT).places.length = 1 := by kernel_rfl
theorem ex_groups : (grpP (parsedP exT).places).2 = [0, 1] := by kernel_rfl
theorem ex_all : allL (fileSt (parsedP exT).nodes (parsedP exT).rules (grpP (parsedP exT).places).2) (fileConds (parsedP exT).rules 1) 0 [] = some [[(0, [-1, 1]), (1, [-1, -1])]] := by kernel_rfl
theorem ex_scan : scanR exI exIn = ([(0, 0, 1), (0, 1, 2), (-1, 2, 2)], 5, 0) := by kernel_rfl

theorem ex_file : FileOk (parsedP exT) := by
  have hr : ∀ x ∈ (parsedP exT).rules, x.2 = (0, 0) := fun x hx => by
    have := List.mem_map_of_mem (f := fun (y : (Nat → Bool) × Int × Int) => y.2) hx
    rw [ex_rules] at this
    simpa using this
  have hl : (parsedP exT).rules.length = 1 := by have := congrArg List.length ex_rules; simpa using this
  obtain ⟨g0, g1, g2⟩ := grpP_facts (parsedP exT).places
  refine ⟨by rw [ex_nodes]; decide, by rw [ex_nodes]; decide, ?_, by omega, by omega, fun x hx => ?_, fun x hx => ?_, by rw [ex_places]; decide, by rw [ex_places]; decide, g0, g1, g2⟩
  · rw [ex_nodes]
    intro k x hx
    cases k with
    | zero => simp at hx; subst hx; decide
    | succ j => simp at hx
  · rw [hr x hx, ex_nodes]; decide
  · rw [hr x hx]; decide

theorem ex_conds : ∀ ls, allL (fileSt (parsedP exT).nodes (parsedP exT).rules (grpP (parsedP exT).places).2) (fileConds (parsedP exT).rules 1) 0 [] = some ls → CondsOk (grpP (parsedP exT).places).2.length ls := by
  intro ls h
  rw [ex_all] at h
  injection h with h
  subst h
  rw [ex_groups]
  refine ⟨by decide, by decide, ?_, ?_, ?_⟩
  · intro l hl z hz
    rw [List.mem_singleton] at hl
    subst hl
    simp only [List.mem_cons, List.not_mem_nil, or_false] at hz
    rcases hz with rfl | rfl <;> decide
  · intro l hl z hz
    rw [List.mem_singleton] at hl
    subst hl
    simp only [List.mem_cons, List.not_mem_nil, or_false] at hz
    rcases hz with rfl | rfl <;> decide
  · intro l hl z hz
    rw [List.mem_singleton] at hl
    subst hl
    simp only [List.mem_cons, List.not_mem_nil, or_false] at hz
    rcases hz with rfl | rfl <;> decide

theorem ex_img : (⟨(compP exT).1.toArray⟩ : ByteArray) = exI := by rw [ex_comp]; rfl
theorem ex_size : exI.size = 270 := by decide +kernel

set_option maxRecDepth 100000 in
set_option maxHeartbeats 1000000 in
theorem kex_any (w : World) : Calls Try.prog 16 #[] w fun e w' => e = .returned (.bool true) ∧ Below w.heap.size w w' := by
  have hc := fun w => pcomp_any exT w (fun _ => ex_file) (fun _ => ex_conds)
  rw [ex_img] at hc
  rw [show (compP exT).2 = 0 by rw [ex_comp]] at hc
  have hsc := fun w => pscan_any exI exIn w (by rw [ex_size]; unfold maxLen; decide) (by unfold maxLen; decide)
  rw [ex_scan] at hsc
  have hsz := ex_size
  unfold exT at hc
  unfold exIn at hsc
  generalize exI = I at *
  go_enter Try.func16, Try.ntmps16
  go_wp2_with fail
  refine (hc _).mono ?_
  rintro e w1 ⟨rfl, hb1⟩
  have HB1 := hidZ hb1
  clear hb1
  go_wp2_with fail
  refine (hsc _).mono ?_
  rintro e w2 ⟨v, rfl, hr, hb2⟩
  have HB2 := hidZ (HB1.out.trans (hb2.mono HB1.out.size))
  rcases hr.sh with ⟨_, h0⟩ | ⟨g, cap, rfl, _, _, _, hcs⟩
  · cases h0
  obtain ⟨a0, a1, a2⟩ := hcs 0 _ rfl
  obtain ⟨b0, b1, b2⟩ := hcs 2 _ rfl
  simp only at a0 a1 a2 b0 b1 b2
  clear hr hb2 hcs hc hsc HB1
  simp only [List.length_cons, List.length_nil, Nat.zero_add, Nat.reduceAdd, Nat.zero_mul, Nat.reduceMul] at *
  go_wp2
  go_ret
  exact ⟨rfl, HB2.out⟩
end Go.Proofs.Ytgjgjgihceijnaa

namespace Go.Stn
open Go.Proofs.Ytgjgjgihceijnaa (compP)
theorem prS_same {ops : List OpK} (h1 : (opText false ops).size ≤ 120) (h2 : (opText true ops).size ≤ 120) (h3 : sumC false (opTrees ops) ≤ 10) (h4 : sumC true (opTrees ops) ≤ 10) : prS (opText true ops) = prS (opText false ops) := by
  unfold prS
  by_cases h8 : (opTrees ops).length ≤ 8
  · rw [comp_alike (opText_tr false ops) (opText_tr true ops) h1 h2 h8 h3 h4]
  · rw [(comp_tr (opText_tr false ops)).2.1 h1 (by omega), (comp_tr (opText_tr true ops)).2.1 h2 (by omega)]
end Go.Stn
namespace Go.Proofs.Ytgjgjgihceijnaa
open Go.RowKit Go.Stn
/-- What built comes to. -/
def BuiltAt (ops : List OpK) (w : World) (e : Ending) (w' : World) : Prop := ∃ ga ca gt ct, e = .returned (.agg #[.slice (some ⟨ga, 0, none⟩) (builtP ops).1.length ca, .slice (some ⟨gt, 0, none⟩) (builtP ops).2.length ct]) ∧ RuIn w' ga gt (builtP ops).1 (builtP ops).2 ∧ Below w.heap.size w w'
set_option maxRecDepth 100000 in
set_option maxHeartbeats 4000000 in
theorem kalike_walk (v : Value) (ops : List OpK) (w : World) (hn : ops.length ≤ 1100000) (hbt : ∀ W, Below w.heap.size w W → Calls Try.prog 28 #[v] W (BuiltAt ops W)) :
    Calls Try.prog 7 #[v] w fun e w' => e = .returned (.bool true) ∧ Below w.heap.size w w' := by
  obtain ⟨bF1, bF2, bF3⟩ := opText_bounds false hn
  obtain ⟨bT1, bT2, _⟩ := opText_bounds true hn
  have hal : (builtP ops).1.length ≤ 2000000 := by have := (opTrees_ok ops).2.2.2.2; omega
  have htl : (builtP ops).2.length ≤ 2000000 := by rw [← opTrees_len]; exact bF3
  have hpF := fun W => kpressed_any (opText_tr false ops) (by show (bA _).size ≤ _; rw [bA_size]; exact bF1) bF3 bF2 W
  have hpT := fun W => kpressed_any (opText_tr true ops) (by show (bA _).size ≤ _; rw [bA_size]; exact bT1) bF3 bT2 W
  have HPS := hidK (@prS_same ops)
  have hzF : (opText false ops).size ≤ 1000000000000 := by show (bA _).size ≤ _; rw [bA_size]; exact bF1
  have hzT : (opText true ops).size ≤ 1000000000000 := by show (bA _).size ≤ _; rw [bA_size]; exact bT1
  rw [opTrees_len] at hpF hpT
  replace hpF := hidK hpF
  replace hpT := hidK hpT
  replace hbt := hidK hbt
  go_enter Try.func7, Try.ntmps7
  go_wp2_with fail
  refine (kex_any _).mono ?_
  rintro e w1 ⟨rfl, hb1⟩
  have HB1 := hidK hb1
  clear hb1
  go_wp2_with fail
  refine (hbt.out w1 HB1.out).mono ?_
  rintro e w2 ⟨ga, ca, gt, ct, rfl, hru, hb2⟩
  have HB2 := hidK (HB1.out.trans (hb2.mono HB1.out.size))
  have HRU := hidK hru
  clear hru hb2
  go_wp2_with fail
  have HBA : Hid (Below w2.heap.size w2 (w2.alloc (.cells #[.slice (some ⟨ga, 0, none⟩) (builtP ops).1.length ca, .slice (some ⟨gt, 0, none⟩) (builtP ops).2.length ct] 49))) := (Below.refl _ _).alloc (Nat.le_refl _) _
  have HC0 : Hid ((w2.alloc (.cells #[.slice (some ⟨ga, 0, none⟩) (builtP ops).1.length ca, .slice (some ⟨gt, 0, none⟩) (builtP ops).2.length ct] 49)).cell? ⟨w2.heap.size, 0, none⟩ = some (.slice (some ⟨ga, 0, none⟩) (builtP ops).1.length ca)) := (World.cell?_alloc_at _ _ _ 0 rfl).trans rfl
  have HC1 : Hid ((w2.alloc (.cells #[.slice (some ⟨ga, 0, none⟩) (builtP ops).1.length ca, .slice (some ⟨gt, 0, none⟩) (builtP ops).2.length ct] 49)).cell? ⟨w2.heap.size, 1, none⟩ = some (.slice (some ⟨gt, 0, none⟩) (builtP ops).2.length ct)) := (World.cell?_alloc_at _ _ _ 1 rfl).trans rfl
  have hzA : w2.heap.size + 1 = (w2.alloc (.cells #[.slice (some ⟨ga, 0, none⟩) (builtP ops).1.length ca, .slice (some ⟨gt, 0, none⟩) (builtP ops).2.length ct] 49)).heap.size := by simp
  have HR3 := hidK (HRU.out.below HBA.out)
  have HB3 := hidK (HB2.out.trans (HBA.out.mono HB2.out.size))
  clear HBA
  refine (kspelledF ga gt ca ct _ _ _ HR3.out hal htl bF1 bF2).mono ?_
  rintro e w3 ⟨rfl, hb3⟩
  have c0 := (hb3.cell (p := ⟨w2.heap.size, 0, none⟩) (by show w2.heap.size < _; omega)).trans HC0.out
  have c1 := (hb3.cell (p := ⟨w2.heap.size, 1, none⟩) (by show w2.heap.size < _; omega)).trans HC1.out
  have HR4 := hidK (HR3.out.below hb3)
  have HB4 := hidK (HB3.out.trans (hb3.mono HB3.out.size))
  have hz4 : w2.heap.size + 1 ≤ w3.heap.size := by have := hb3.size; omega
  clear hb3 HC0 HC1 hzA HR3 HB3
  go_wp2_with fail
  refine (kspelledT ga gt ca ct _ _ _ HR4.out hal htl bT1 bT2).mono ?_
  rintro e w4 ⟨rfl, hb4⟩
  have d1 := (hb4.cell (p := ⟨w2.heap.size, 1, none⟩) (by show w2.heap.size < _; omega)).trans c1
  have HB5 := hidK (HB4.out.trans (hb4.mono HB4.out.size))
  have hz5 : w2.heap.size + 1 ≤ w4.heap.size := by have := hb4.size; omega
  clear hb4 c0 c1 HB4 HR4
  have eF : bA (fileTx ((treesOf (builtP ops).1 (builtP ops).2).map (Tr.sp false))) = opText false ops := rfl
  have eT : bA (fileTx ((treesOf (builtP ops).1 (builtP ops).2).map (Tr.sp true))) = opText true ops := rfl
  have eU : treesOf (builtP ops).1 (builtP ops).2 = opTrees ops := rfl
  rw [eF, eT, eU]
  go_wp2_with fail
  refine (hpF.out w4).mono ?_
  rintro e w5 ⟨rfl, hb5⟩
  have g1 := (hb5.cell (p := ⟨w2.heap.size, 1, none⟩) (by show w2.heap.size < _; omega)).trans d1
  have HB6 := hidK (HB5.out.trans (hb5.mono HB5.out.size))
  clear hb5 d1 HB5
  go_wp2_with fail
  refine (hpT.out w5).mono ?_
  rintro e w6 ⟨rfl, hb6⟩
  have HB7 := hidK (HB6.out.trans (hb6.mono HB6.out.size))
  clear hb6 g1 HB6 eF eT eU
  generalize (opText false ops) = TA at *
  generalize (opText true ops) = TB at *
  generalize sumC false (opTrees ops) = NA at *
  generalize sumC true (opTrees ops) = NB at *
  by_cases h1 : 120 < TA.size
  · have x1 : decide ((120 : Int) < (TA.size : Int)) = true := by simp; omega
    go_wp2
    go_ret
    exact ⟨rfl, HB7.out⟩
  · have x1 : decide ((120 : Int) < (TA.size : Int)) = false := by simp; omega
    by_cases h2 : 120 < TB.size
    · have x2 : decide ((120 : Int) < (TB.size : Int)) = true := by simp; omega
      go_wp2
      go_ret
      exact ⟨rfl, HB7.out⟩
    · have x2 : decide ((120 : Int) < (TB.size : Int)) = false := by simp; omega
      by_cases h3 : 10 < NA
      · have x3 : decide ((10 : Int) < (NA : Int)) = true := by simp; omega
        go_wp2
        go_ret
        exact ⟨rfl, HB7.out⟩
      · have x3 : decide ((10 : Int) < (NA : Int)) = false := by simp; omega
        by_cases h4 : 10 < NB
        · have x4 : decide ((10 : Int) < (NB : Int)) = true := by simp; omega
          go_wp2
          go_ret
          exact ⟨rfl, HB7.out⟩
        · have x4 : decide ((10 : Int) < (NB : Int)) = false := by simp; omega
          have hps := HPS.out (by omega) (by omega) (by omega) (by omega)
          rw [hps]
          go_wp2
          go_ret
          exact ⟨by simp, HB7.out⟩
end Go.Proofs.Ytgjgjgihceijnaa

