/- Texts put together: StPure2, StMerge, RfPure, RfBytes. -/
import Derived.Test.YtgjgjgihceijnaaG06
import Derived.Test.YtgjgjgihceijnaaG08
import Derived.Test.YtgjgjgihceijnaaG01
import Derived.Test.YtgjgjgihceijnaaChecked
/- Plain mathematics: merge's rounds part further and further. -/
namespace Go.Stn
/-- So many things go into no fewer places. -/
theorem pigeon : ∀ (k m : Nat) (f : Nat → Nat), (∀ i, i < m → f i < k) → (∀ i j, i < m → j < m → f i = f j → i = j) → m ≤ k := by
  intro k
  induction k with
  | zero => intro m f h _; cases m with
            | zero => exact Nat.le_refl _
            | succ n => have := h 0 (by omega); omega
  | succ k ih =>
    intro m f h hi
    cases m with
    | zero => omega
    | succ n =>
      have := ih n (fun j => if f j = k then f n else f j) (fun i hin => by
        by_cases e : f i = k
        · simp only [if_pos e]
          have h1 := h n (by omega)
          have h2 : f n ≠ k := fun h3 => by have := hi i n (by omega) (by omega) (by omega); omega
          omega
        · simp only [if_neg e]
          have := h i (by omega); omega) (fun i j hin hjn he => by
        by_cases e1 : f i = k <;> by_cases e2 : f j = k
        · exact hi i j (by omega) (by omega) (by omega)
        · simp only [if_pos e1, if_neg e2] at he
          have := hi n j (by omega) (by omega) he; omega
        · simp only [if_neg e1, if_pos e2] at he
          have := hi i n (by omega) (by omega) he; omega
        · simp only [if_neg e1, if_neg e2] at he
          exact hi i j (by omega) (by omega) he)
      omega

theorem getD_app_lt {l : List Nat} {i x : Nat} (h : i < l.length) : (l ++ [x]).getD i 0 = l.getD i 0 := by
  rw [List.getD_eq_getElem?_getD, List.getD_eq_getElem?_getD, List.getElem?_append_left h]
theorem getD_app_end {l : List Nat} {x : Nat} : (l ++ [x]).getD l.length 0 = x := by
  rw [List.getD_eq_getElem?_getD, List.getElem?_append_right (Nat.le_refl _)]; simp

theorem firstP_q {q : Nat → Nat → Bool} {l : List Nat} {s : Nat} : ∀ d, d ≤ l.length → firstP q l s d < l.length → q (l.getD (firstP q l s d) 0) s = true := by
  intro d
  induction d with
  | zero => intro _ h; rw [firstP] at h; omega
  | succ k ih =>
    intro hd h
    rw [firstP] at h ⊢
    split
    · assumption
    · rename_i hn
      rw [if_neg hn] at h
      exact ih (by omega) h

/-- The states below s are parted. -/
structure PI (q : Nat → Nat → Bool) (s : Nat) (fin firsts : List Nat) : Prop where
  len : fin.length = s
  cl : ∀ x, x < s → fin.getD x 0 < firsts.length ∧ (firsts.getD (fin.getD x 0) 0 = x ∨ q (firsts.getD (fin.getD x 0) 0) x = true)
  rep : ∀ f, f < firsts.length → firsts.getD f 0 < s ∧ fin.getD (firsts.getD f 0) 0 = f

theorem partL_inv {q : Nat → Nat → Bool} : ∀ d s fin firsts, PI q s fin firsts → (partL q d s fin firsts).2.length ≤ 100 → PI q (s + d) (partL q d s fin firsts).1 (partL q d s fin firsts).2 := by
  intro d
  induction d with
  | zero => intro s fin firsts h _; exact h
  | succ k ih =>
    intro s fin firsts h hl
    rw [partL] at hl ⊢
    by_cases hf : firstP q firsts s firsts.length = firsts.length
    · rw [if_pos hf] at hl ⊢
      by_cases h100 : 100 < firsts.length + 1
      · rw [if_pos h100] at hl; simp at hl; omega
      · rw [if_neg h100] at hl ⊢
        rw [show s + (k + 1) = s + 1 + k by omega]
        refine ih (s + 1) _ _ ⟨by simp [h.len], fun x hx => ?_, fun f hff => ?_⟩ hl
        · by_cases e : x = s
          · subst e
            rw [show (fin ++ [firsts.length]).getD x 0 = firsts.length by have := @getD_app_end fin firsts.length; rw [h.len] at this; exact this]
            refine ⟨by simp, .inl getD_app_end⟩
          · have hx' : x < s := by omega
            obtain ⟨h1, h2⟩ := h.cl x hx'
            rw [getD_app_lt (by rw [h.len]; exact hx'), getD_app_lt h1]
            exact ⟨Nat.lt_of_lt_of_le h1 (by simp), h2⟩
        · simp at hff
          by_cases e : f = firsts.length
          · subst e
            rw [getD_app_end]
            refine ⟨by omega, ?_⟩
            have := @getD_app_end fin firsts.length; rw [h.len] at this; exact this
          · have hf' : f < firsts.length := by omega
            obtain ⟨h1, h2⟩ := h.rep f hf'
            rw [getD_app_lt hf', getD_app_lt (by rw [h.len]; exact h1)]
            exact ⟨by omega, h2⟩
    · rw [if_neg hf] at hl ⊢
      have hlt : firstP q firsts s firsts.length < firsts.length := by have := firstP_le q firsts s firsts.length; omega
      have hq := firstP_q _ (Nat.le_refl _) hlt
      rw [show s + (k + 1) = s + 1 + k by omega]
      refine ih (s + 1) _ _ ⟨by simp [h.len], fun x hx => ?_, fun f hff => ?_⟩ hl
      · by_cases e : x = s
        · subst e
          rw [show (fin ++ [firstP q firsts x firsts.length]).getD x 0 = firstP q firsts x firsts.length by have := @getD_app_end fin (firstP q firsts x firsts.length); rw [h.len] at this; exact this]
          exact ⟨hlt, .inr hq⟩
        · have hx' : x < s := by omega
          obtain ⟨h1, h2⟩ := h.cl x hx'
          rw [getD_app_lt (by rw [h.len]; exact hx')]
          exact ⟨h1, h2⟩
      · obtain ⟨h1, h2⟩ := h.rep f hff
        rw [getD_app_lt (by rw [h.len]; exact h1)]
        exact ⟨by omega, h2⟩

theorem partP_inv {n : Nat} {q : Nat → Nat → Bool} (h : (partP n q).2.length ≤ 100) : PI q n (partP n q).1 (partP n q).2 := by
  have := partL_inv (q := q) n 0 [] [] ⟨rfl, fun x hx => by omega, fun f hf => by simp at hf⟩ h
  rw [Nat.zero_add] at this; exact this

/-- Parts that have each of the numbers below count. -/
def okParts (n : Nat) (parts : List Nat) (count : Nat) : Prop := parts.length = n ∧ ∀ f, f < count → ∃ s, s < n ∧ parts.getD s 0 = f
theorem okParts_next {n : Nat} {q : Nat → Nat → Bool} (h : (partP n q).2.length ≤ 100) : okParts n (partP n q).1 (partP n q).2.length := by
  have hp := partP_inv h
  exact ⟨hp.len, fun f hf => ⟨_, (hp.rep f hf).1, (hp.rep f hf).2⟩⟩
/-- A finer parting has no fewer parts. -/
theorem parts_grow {n : Nat} {parts : List Nat} {count : Nat} {q : Nat → Nat → Bool} (h0 : okParts n parts count) (hq : ∀ s t, q s t = true → parts.getD s 0 = parts.getD t 0) (h : (partP n q).2.length ≤ 100) : count ≤ (partP n q).2.length := by
  have hp := partP_inv h
  refine pigeon _ _ (fun f => if hf : f < count then (partP n q).1.getD (Classical.choose (h0.2 f hf)) 0 else 0) (fun i hi => ?_) (fun i j hi hj he => ?_)
  · simp only [dif_pos hi]
    exact (hp.cl _ (Classical.choose_spec (h0.2 i hi)).1).1
  · simp only [dif_pos hi, dif_pos hj] at he
    have si := Classical.choose_spec (h0.2 i hi)
    have sj := Classical.choose_spec (h0.2 j hj)
    generalize Classical.choose (h0.2 i hi) = a at *
    generalize Classical.choose (h0.2 j hj) = b at *
    have ha := (hp.cl a si.1).2
    have hb := (hp.cl b sj.1).2
    rw [← he] at hb
    have e1 : parts.getD ((partP n q).2.getD ((partP n q).1.getD a 0) 0) 0 = parts.getD a 0 := by
      rcases ha with h1 | h1
      · rw [h1]
      · exact hq _ _ h1
    have e2 : parts.getD ((partP n q).2.getD ((partP n q).1.getD a 0) 0) 0 = parts.getD b 0 := by
      rcases hb with h1 | h1
      · rw [h1]
      · exact hq _ _ h1
    rw [← si.2, ← sj.2, ← e1, ← e2]
theorem alikeB_part {parts : List Nat} {tk : Nat → Nat} {nx : Nat → Nat → Int} {K s t : Nat} (h : alikeB (listF parts) tk nx K s t = true) : parts.getD s 0 = parts.getD t 0 := by
  unfold alikeB at h
  simp only [Bool.and_eq_true, decide_eq_true_eq] at h
  have := h.1
  unfold listF at this
  omega
/-- What merge comes to: the states, or too many. -/
def mergeP (n : Nat) (tk : Nat → Nat) (nx : Nat → Nat → Int) (K : Nat) : Option (List (Nat × List Int)) :=
  (mergeL n tk nx K 102 (List.replicate n 0) 0).map fun x => gatherP tk nx K x.1 x.2
end Go.Stn

/- states: merge: a walk. -/
namespace Go.Proofs.Ytgjgjgihceijnaa
open Go.RowKit Go.Stn

theorem madeInt_n (n : Nat) : (madeCells (Value.int .i64 0).cells (n * 1)).toList = (List.replicate n (0 : Nat)).map (fun (_ : Nat) => Value.int .i64 0) := by
  have h : ∀ i : Nat, (Value.int .i64 0).cells[i % (Value.int .i64 0).cells.size]! = Value.int .i64 0 := by
    intro i
    have e : i % (Value.int .i64 0).cells.size = 0 := by simp [Value.cells, Nat.mod_one]
    rw [e]; simp [Value.cells]
  unfold madeCells
  rw [Nat.mul_one]
  simp only [h, Array.toList_map, Array.toList_range]
  rw [List.map_replicate, List.eq_replicate_iff]
  exact ⟨by simp, by intro b hb; simp at hb; exact hb.2.symm⟩
theorem sin_top {w : World} {top top' g n K : Nat} {zb tk : Nat → Nat} {nx : Nat → Nat → Int} (h : SIn w top g n K zb tk nx) (ht : top ≤ top') : SIn w top' g n K zb tk nx :=
  ⟨h.tkc, h.nxc, h.ldc, Nat.lt_of_lt_of_le h.bg ht, fun s hs => Nat.lt_of_lt_of_le (h.bz s hs) ht⟩

/-- What merge comes to. -/
def MergeOut (w : World) (K : Nat) : Option (List (Nat × List Int)) → Ending → World → Prop
  | none, e, w' => e = .returned (.tuple #[.slice none 0 0, .bool false]) ∧ Below w.heap.size w w'
  | some l, e, w' => ∃ v, StatesOut w K l (.returned v) w' ∧ e = .returned (.tuple #[v, .bool true])

set_option maxRecDepth 100000 in
set_option maxHeartbeats 1000000 in
theorem smerge_any (g n cap K : Nat) (zb tk : Nat → Nat) (nx : Nat → Nat → Int) (w : World) (hn : n ≤ 2000) (hK : K ≤ 300)
    (hr : ∀ i k, i < n → k < K → nx i k = -1 ∨ (0 ≤ nx i k ∧ nx i k < n)) (hS : SIn w w.heap.size g n K zb tk nx) :
    Calls Try.prog 65 #[.slice (some ⟨g, 0, none⟩) n cap] w fun e w' => MergeOut w K (mergeP n tk nx K) e w' := by
  obtain ⟨i0, hi0, hz0, hz1, hz2⟩ := info_parts Try.infoInt
  have HI : Hid (Try.prog.info? 3 = some i0 ∧ i0.zero = some (.int .i64 0) ∧ i0.size = 1 ∧ i0.bytes = 8) := ⟨hi0, hz0, hz1, hz2⟩
  clear hi0 hz0 hz1 hz2
  have HS := hidZ hS
  have HR := hidZ hr
  clear hS hr
  go_enter Try.func65, Try.ntmps65
  go_wp2_with (first | (at_make; refine wpList_make_full w rfl _ _ 30 rfl w.heap.size 3 i0 (.int .i64 0) 1 Try.underlying30 HI.out.1 HI.out.2.1 HI.out.2.2.1 .i64 .i64 _ _ n rfl rfl rfl rfl (by rw [HI.out.2.2.2]; omega) (by unfold maxLen; omega) (Nat.le_refl _) ?_; intro w1 hown hg))
  have HN1 : Hid (NIn w1 w.heap.size n (listF (List.replicate n 0))) := fun i hi => by
    have h1 := hown.cells rfl i (.int .i64 0) (by
      rw [madeInt_n, List.getElem?_map, List.getElem?_replicate, if_pos hi]; rfl)
    have e : listF (List.replicate n 0) i = 0 := by unfold listF; rw [List.getD_eq_getElem?_getD, List.getElem?_replicate, if_pos hi]; rfl
    rw [e]
    by_cases hj : i = 0
    · subst hj; simpa [Addr.add] using h1
    · simpa [Addr.add, hj] using h1
  have HB1 : Hid (Below w.heap.size w w1) := ⟨hg.os, hg.tape, hg.output, hg.size, fun k hk => hg.block k hk (by simp)⟩
  have hz1 : w.heap.size < w1.heap.size := (hown.lt w.heap.size rfl).2
  clear hown hg
  obtain ⟨MP, EMP⟩ : ∃ m, mergeL n tk nx K 102 (List.replicate n 0) 0 = m := ⟨_, rfl⟩
  have HMP : Hid (mergeP n tk nx K = MP.map fun x => gatherP tk nx K x.1 x.2) := by unfold Hid mergeP; rw [EMP]
  replace EMP := hidZ EMP
  go_loopg [4, 5] 102 (fun gk pv cv wr => ∃ (parts : List Nat) (count pg pcap : Nat), pv = .slice (some ⟨pg, 0, none⟩) n pcap ∧ cv = .int .i64 (count : Int) ∧ count ≤ 100 ∧ 102 ≤ count + gk ∧ okParts n parts count ∧ MP = mergeL n tk nx K gk parts count ∧
    NIn wr pg n (listF parts) ∧ pg < wr.heap.size ∧ Below w.heap.size w wr)
  case atStart => exact ⟨List.replicate n 0, 0, w.heap.size, n, rfl, rfl, by omega, by omega, ⟨by simp, fun f hf => by omega⟩, EMP.out.symm, HN1.out, hz1, HB1.out⟩
  case round =>
    obtain ⟨parts, count, pg, pcap, rfl, rfl, hc, hcg, hok, heq, hnp, hpg, hb⟩ := hrel
    have HQ := hidZ heq
    have HN := hidZ hnp
    have HB := hidZ hb
    have HOK := hidZ hok
    clear heq hnp hb hok HN1 HB1
    obtain ⟨f, rfl⟩ : ∃ f, gk = f + 1 := ⟨gk - 1, by omega⟩
    have HSr := hidZ (HS.out.below HB.out (Nat.le_refl _))
    have hpc := spart_any (listF parts) g n cap K pg pcap zb tk nx wr hn hK HR.out (sin_top HSr.out HB.out.size) HN.out hpg
    have hpl := partL_len (alikeB (listF parts) tk nx K) n 0 [] []
    have hgrow := fun h => parts_grow (q := alikeB (listF parts) tk nx K) HOK.out (fun s t => alikeB_part) h
    have hnext := fun h => @okParts_next n (alikeB (listF parts) tk nx K) h
    have hinv := fun h => @partP_inv n (alikeB (listF parts) tk nx K) h
    have hml : mergeL n tk nx K (f + 1) parts count = if 100 < (partP n (alikeB (listF parts) tk nx K)).2.length then none
      else if (partP n (alikeB (listF parts) tk nx K)).2.length = count then some (partP n (alikeB (listF parts) tk nx K))
      else mergeL n tk nx K f (partP n (alikeB (listF parts) tk nx K)).1 (partP n (alikeB (listF parts) tk nx K)).2.length := rfl
    have HPL : Hid (partL (alikeB (listF parts) tk nx K) n 0 [] [] = partP n (alikeB (listF parts) tk nx K)) := rfl
    rw [HPL.out] at hpl
    generalize partP n (alikeB (listF parts) tk nx K) = PP at *
    obtain ⟨fin, firsts⟩ := PP
    simp only at *
    have hfl : firsts.length ≤ 2000 := by have := hpl.1; simp at this; omega
    go_wp2_with fail
    refine hpc.mono ?_
    rintro e w3 ⟨g1, c1, g2, c2, rfl, hn1, hn2, hz3, hz4, hz5, hz6, hb3⟩
    have HN1 := hidZ hn1
    have HN2 := hidZ hn2
    have HB3 := hidZ (HB.out.trans (hb3.mono HB.out.size))
    have HS3 := hidZ (sin_top (HSr.out.below hb3 HB.out.size) (Nat.le_trans HB.out.size hb3.size))
    clear hn1 hn2 hb3 hpc hpl
    by_cases h1 : 100 < firsts.length
    · have HE : Hid (MP = none) := by unfold Hid; rw [HQ.out, hml, if_pos h1]
      have hd1 : decide ((100 : Int) < (firsts.length : Int)) = true := by simp; omega
      clear hml hgrow hnext hinv
      go_wp2
      go_ret2
      rw [HMP.out, HE.out]
      exact ⟨rfl, HB3.out⟩
    · have hd1 : decide ((100 : Int) < (firsts.length : Int)) = false := by simp; omega
      rw [if_neg h1] at hml
      have hinv := hinv (by omega)
      have hlen := hinv.len
      by_cases h2 : firsts.length = count
      · rw [if_pos h2] at hml
        have HE : Hid (MP = some (fin, firsts)) := by unfold Hid; rw [HQ.out, hml]
        have hd2 : ((firsts.length : Int) == (count : Int)) = true := by rw [h2]; simp
        have hfn : ∀ x ∈ firsts, x < n := fun x hx => by
          obtain ⟨i, hi, rfl⟩ := List.mem_iff_getElem.1 hx
          have := (hinv.rep i hi).1
          rw [List.getD_eq_getElem?_getD, List.getElem?_eq_getElem hi] at this; exact this
        have hnf : NIn w3 g1 n (listF fin) := by have := HN1.out; rw [hlen] at this; exact this
        have hgc := sgather_any fin firsts g n cap K g1 c1 g2 c2 zb tk nx w3 hK (by omega) hfn HR.out HS3.out hnf hz3 HN2.out hz4
        rw [hlen]
        clear hml hgrow hnext hinv h2 hfn hnf hlen
        go_wp2_with fail
        refine hgc.mono ?_
        rintro e w4 ⟨B, zs, q1, rfl, q3, q4, q5, q6⟩
        have HQ3 := hidZ q3
        have HQ4 := hidZ q4
        have HQ5 := hidZ q5
        have HQ6 := hidZ (HB3.out.trans (q6.mono HB3.out.size))
        have hq1 : w.heap.size ≤ B := Nat.le_trans HB3.out.size q1
        clear q1 q3 q4 q5 q6 hgc
        go_wp2
        go_ret2
        rw [HMP.out, HE.out]
        exact ⟨.slice (some ⟨B, 0, none⟩) zs.length zs.length, ⟨B, zs, hq1, rfl, HQ3.out, HQ4.out, HQ5.out, HQ6.out⟩, rfl⟩
      · rw [if_neg h2] at hml
        have HE : Hid (MP = mergeL n tk nx K f fin firsts.length) := HQ.out.trans hml
        have hd2 : ((firsts.length : Int) == (count : Int)) = false := by rw [beq_eq_false_iff_ne]; omega
        have hg2 := hgrow (by omega)
        have HOK2 := hidZ (hnext (by omega))
        have HNF : Hid (NIn w3 g1 n (listF fin)) := by have := HN1.out; rw [hlen] at this; exact this
        rw [hlen]
        clear hml hgrow hnext hinv hlen
        go_wp2
        go_roundg f
        case measure => omega
        case rel => exact ⟨fin, firsts.length, g1, c1, rfl, rfl, by omega, by omega, HOK2.out, HE.out, HNF.out, hz3, HB3.out⟩
end Go.Proofs.Ytgjgjgihceijnaa

/- Plain functions: what the reader of rule files computes, step by step. -/
namespace Go.Stn

/-- What the reader has read so far: its place; rules (conditions, what is behind, the root); nodes (kind, left, right); places. -/
structure PSt where
  at_ : Nat
  rules : List ((Nat → Bool) × Int × Int)
  nodes : List (Int × Int × Int)
  places : List (Nat → Bool)

/-- The set and the bytes from a to b. -/
def withB (f : Nat → Bool) (a b : Int) : Nat → Bool := fun i => decide (a ≤ (i : Int) ∧ (i : Int) ≤ b) || f i

def peekP (t : ByteArray) (a : Nat) : Int := if t.size ≤ a then -1 else (bt t a : Int)
def adv (st : PSt) : PSt := { st with at_ := st.at_ + 1 }
/-- Is it the byte b that comes next? -/
def nextB (t : ByteArray) (b : Int) (st : PSt) : Bool := decide (peekP t st.at_ = b)
def visB (b : Int) : Bool := decide (33 ≤ b ∧ b ≤ 126)
def lodB (b : Int) : Bool := decide ((97 ≤ b ∧ b ≤ 122) ∨ (65 ≤ b ∧ b ≤ 90) ∨ (48 ≤ b ∧ b ≤ 57))
def plainB (b : Int) (sp : ByteArray) : Bool := visB b && decide (∀ i, i < sp.size → (bt sp i : Int) ≠ b)
def spOut : ByteArray := ⟨#[92, 124, 42, 43, 63, 46, 40, 41, 91, 93]⟩
def spIn : ByteArray := ⟨#[92, 93, 94, 45]⟩

theorem peekP_end {t : ByteArray} {a : Nat} (h : t.size ≤ a) : peekP t a = -1 := by unfold peekP; rw [if_pos h]
theorem peekP_at {t : ByteArray} {a : Nat} (h : a < t.size) : peekP t a = (bt t a : Int) := by unfold peekP; rw [if_neg (by omega)]
theorem peekP_bound (t : ByteArray) (a : Nat) : -1 ≤ peekP t a ∧ peekP t a ≤ 255 := by
  unfold peekP; have := bt_lt t a; split <;> omega
theorem nextB_lt {t : ByteArray} {b : Int} {st : PSt} (hb : 0 ≤ b) (h : nextB t b st = true) : st.at_ < t.size := by
  unfold nextB at h
  rw [decide_eq_true_eq] at h
  rcases Nat.lt_or_ge st.at_ t.size with h1 | h1
  · exact h1
  · rw [peekP_end h1] at h; omega

/-- Behind a backslash: the byte that is meant, whether there is one, the state behind. -/
def escP (t : ByteArray) (st : PSt) : Int × Bool × PSt :=
  if nextB t 110 st = true then (10, true, adv st)
  else if nextB t 115 st = true then (32, true, adv st)
  else if visB (peekP t st.at_) = true ∧ lodB (peekP t st.at_) = false then (peekP t st.at_, true, adv st)
  else (0, false, st)

def singleP (t sp : ByteArray) (st : PSt) : Int × Bool × PSt :=
  if nextB t 92 st = true then escP t (adv st)
  else if plainB (peekP t st.at_) sp = true then (peekP t st.at_, true, adv st)
  else (0, false, st)

/-- One member more of a set. -/
def memberP (t : ByteArray) (f : Nat → Bool) (st : PSt) : (Nat → Bool) × Bool × PSt :=
  if (singleP t spIn st).2.1 = false then (f, false, (singleP t spIn st).2.2)
  else if nextB t 45 (singleP t spIn st).2.2 = false then (withB f (singleP t spIn st).1 (singleP t spIn st).1, true, (singleP t spIn st).2.2)
  else if (singleP t spIn (adv (singleP t spIn st).2.2)).2.1 = false ∨ (singleP t spIn (adv (singleP t spIn st).2.2)).1 < (singleP t spIn st).1 then (f, false, (singleP t spIn (adv (singleP t spIn st).2.2)).2.2)
  else (withB f (singleP t spIn st).1 (singleP t spIn (adv (singleP t spIn st).2.2)).1, true, (singleP t spIn (adv (singleP t spIn st).2.2)).2.2)

theorem memberP_no1 {t : ByteArray} {f : Nat → Bool} {st s1 : PSt} {b : Int} (h : singleP t spIn st = (b, false, s1)) : memberP t f st = (f, false, s1) := by
  unfold memberP; rw [h]; simp
theorem memberP_one {t : ByteArray} {f : Nat → Bool} {st s1 : PSt} {b : Int} (h : singleP t spIn st = (b, true, s1)) (h2 : nextB t 45 s1 = false) : memberP t f st = (withB f b b, true, s1) := by
  unfold memberP; rw [h]; simp [h2]
theorem memberP_no2 {t : ByteArray} {f : Nat → Bool} {st s1 s2 : PSt} {b b2 : Int} {ok2 : Bool} (h : singleP t spIn st = (b, true, s1)) (h2 : nextB t 45 s1 = true) (h3 : singleP t spIn (adv s1) = (b2, ok2, s2)) (h4 : ok2 = false ∨ b2 < b) : memberP t f st = (f, false, s2) := by
  unfold memberP; rw [h]; simp only [h2, h3]; rw [if_neg (by decide), if_neg (by decide), if_pos h4]
theorem memberP_two {t : ByteArray} {f : Nat → Bool} {st s1 s2 : PSt} {b b2 : Int} (h : singleP t spIn st = (b, true, s1)) (h2 : nextB t 45 s1 = true) (h3 : singleP t spIn (adv s1) = (b2, true, s2)) (h4 : ¬ b2 < b) : memberP t f st = (withB f b b2, true, s2) := by
  unfold memberP; rw [h]; simp only [h2, h3]; rw [if_neg (by decide), if_neg (by decide), if_neg (by simp; omega)]

/-- The members behind the first, up to the closing bracket. -/
def setLoop (t : ByteArray) : Nat → (Nat → Bool) → Bool → PSt → (Nat → Bool) × Bool × PSt
  | 0, f, _, st => (f, false, st)
  | n + 1, f, ok, st =>
    if ok = false then (f, false, st)
    else if nextB t 93 st = true then (f, true, adv st)
    else setLoop t n (memberP t f st).1 (memberP t f st).2.1 (memberP t f st).2.2

def zeroF : Nat → Bool := fun _ => false
/-- The loop of a set, from its first member on. -/
def setR (t : ByteArray) (st : PSt) : (Nat → Bool) × Bool × PSt :=
  setLoop t (t.size + 1) (memberP t zeroF st).1 (memberP t zeroF st).2.1 (memberP t zeroF st).2.2
/-- A set, behind its opening bracket. -/
def setP (t : ByteArray) (st : PSt) : (Nat → Bool) × Bool × PSt :=
  if nextB t 94 st = true then
    (if (setR t (adv st)).2.1 = true then ((fun i => !((setR t (adv st)).1 i)), true, (setR t (adv st)).2.2) else (zeroF, false, (setR t (adv st)).2.2))
  else (if (setR t st).2.1 = true then ((setR t st).1, true, (setR t st).2.2) else (zeroF, false, (setR t st).2.2))
/-- A place: the bytes that it allows. -/
def allowedP (t : ByteArray) (st : PSt) : (Nat → Bool) × Bool × PSt :=
  if nextB t 91 st = true then setP t (adv st)
  else if nextB t 46 st = true then ((fun i => !(zeroF i)), true, adv st)
  else if (singleP t spOut st).2.1 = true then (withB zeroF (singleP t spOut st).1 (singleP t spOut st).1, true, (singleP t spOut st).2.2)
  else (zeroF, false, (singleP t spOut st).2.2)

theorem setLoop_false (t : ByteArray) (n : Nat) (f : Nat → Bool) (st : PSt) : setLoop t n f false st = (f, false, st) := by
  cases n <;> rfl
theorem setLoop_done {t : ByteArray} {n : Nat} {f : Nat → Bool} {st : PSt} (h : nextB t 93 st = true) : setLoop t (n + 1) f true st = (f, true, adv st) := by
  rw [setLoop, if_neg (by decide), if_pos h]
theorem setLoop_more {t : ByteArray} {n : Nat} {f : Nat → Bool} {st : PSt} (h : nextB t 93 st = false) : setLoop t (n + 1) f true st = setLoop t n (memberP t f st).1 (memberP t f st).2.1 (memberP t f st).2.2 := by
  rw [setLoop, if_neg (by decide), if_neg (by rw [h]; decide)]

def letterP (t : ByteArray) (st : PSt) : Int × Bool × PSt :=
  if 65 ≤ peekP t st.at_ ∧ peekP t st.at_ < 69 then (peekP t st.at_ - 65, true, adv st) else (0, false, st)

def behindP (t : ByteArray) (st : PSt) : Int × Bool × PSt :=
  if nextB t 46 st = true then (0, true, adv st)
  else if nextB t 45 st = true then (1, true, adv st)
  else if (letterP t st).2.1 = true then ((letterP t st).1 + 2, true, (letterP t st).2.2) else (0, false, (letterP t st).2.2)

end Go.Stn

/- rulefile.Bytes: with, not: walks. -/
namespace Go.Proofs.Ytgjgjgihceijnaa
open Go.RowKit Go.Stn

theorem Try.bytesSize : (Try.prog.info? 187).map (·.size) = some 256 := by kernel_rfl
theorem Try.bytesZero : Try.zeroCells187.size = 256 := by kernel_rfl
theorem Try.bytesZeroL : Try.zeroCells187.toList = bitL fun _ => false := by kernel_rfl

set_option maxHeartbeats 400000 in
set_option maxRecDepth 100000 in
theorem not_any (f : Nat → Bool) (w : World) :
    Calls Try.prog 151 #[.agg (bitL f).toArray] w fun e w' => e = .returned (.agg (bitL fun i => !(f i)).toArray) ∧ Below w.heap.size w w' := by
  have HR : Hid (((w.alloc (.cells (bitL f).toArray 187)).alloc (.cells Try.zeroCells187 187)).rangeAt w.heap.size 0 (bitL f)) :=
    World.rangeAt_alloc (rangeAt_newL w (bitL f) 187) _
  have HT : Hid (((w.alloc (.cells (bitL f).toArray 187)).alloc (.cells Try.zeroCells187 187)).there w.heap.size 0 256) :=
    World.there_alloc (there_newL w (bitL f) 187 256 (bitL_len f)) _
  have HZ : Hid (((w.alloc (.cells (bitL f).toArray 187)).alloc (.cells Try.zeroCells187 187)).there (w.heap.size + 1) 0 256) :=
    there_newA _ Try.zeroCells187 187 _ 256 Try.bytesZero (by simp)
  have HB : Hid (Below w.heap.size w ((w.alloc (.cells (bitL f).toArray 187)).alloc (.cells Try.zeroCells187 187))) :=
    ((Below.refl _ _).alloc (Nat.le_refl _) _).alloc (by simp) _
  go_enter Try.func151, Try.ntmps151
  go_wp2_with fail
  generalize (w.alloc (.cells (bitL f).toArray 187)).alloc (.cells Try.zeroCells187 187) = W at *
  go_loopw [4] (fun x wr => ∃ k : Nat, k ≤ 256 ∧ x = .int .i64 (k : Int) ∧ wr.rangeAt w.heap.size 0 (bitL fun i => if i < k then !(f i) else f i) ∧ wr.there w.heap.size 0 256 ∧ wr.there (w.heap.size + 1) 0 256 ∧ Below w.heap.size w wr)
    (fun x _ => 256 - (intOf x).toNat)
  case atStart => exact ⟨0, by omega, rfl, HR.out, HT.out, HZ.out, HB.out⟩
  case round =>
    obtain ⟨k, hk, rfl, hr, ht, hz, hb⟩ := hrel
    have HR2 := hr
    have HT2 : Hid (wr.there w.heap.size 0 256) := ht
    have HZ2 : Hid (wr.there (w.heap.size + 1) 0 256) := hz
    have HB2 : Hid (Below w.heap.size w wr) := hb
    have HR2 : Hid (wr.rangeAt w.heap.size 0 (bitL fun i => if i < k then !(f i) else f i)) := hr
    clear hr ht hz hb HR HT HZ HB
    by_cases hlt : k < 256
    · have c1 := HR2.out k _ (bitL_get _ k hlt)
      rw [if_neg (Nat.lt_irrefl k), Nat.zero_add] at c1
      have c2 := (HT2.out k hlt).2
      rw [Nat.zero_add] at c2
      have hkI : (0 : Int) ≤ (k : Int) ∧ (k : Int) < 256 := by omega
      go_wp2
      go_roundw
      case rel =>
        refine ⟨k + 1, hlt, by go_num, ?_, there_set HT2.out _ _, there_set HZ2.out _ _, HB2.out.setCell (p := ⟨w.heap.size, k, none⟩) (Nat.le_refl _) _⟩
        have h := rangeAt_set HR2.out hlt (!(f k))
        have e : bitL (fun i => if i = k then !(f k) else if i < k then !(f i) else f i) = bitL (fun i => if i < k + 1 then !(f i) else f i) := by
          refine bitL_congr (fun i _ => ?_)
          by_cases h1 : i = k
          · rw [if_pos h1, if_pos (by omega), h1]
          · rw [if_neg h1]
            by_cases h2 : i < k
            · rw [if_pos h2, if_pos (by omega)]
            · rw [if_neg h2, if_neg (by omega)]
        rw [e] at h
        exact h
      case measure => simp [intOf]; omega
    · have e : k = 256 := by omega
      subst e
      have er : bitL (fun i => if i < 256 then !(f i) else f i) = bitL (fun i => !(f i)) := bitL_congr (fun i hi => by rw [if_pos hi])
      rw [er] at HR2
      clear er
      go_wp2_with (first
        | (refine wpList_load_mid rfl 187 (.tmp 1) rfl w.heap.size 0 rfl (bitL fun i => !(f i)) _ HR2.out Try.underlying187 rfl (by rw [bitL_len]; exact Try.bytesSize) ?_)
        | (refine wpList_store_mid rfl 187 (.tmp 2) (.tmp 14) rfl (w.heap.size + 1) 0 (bitL fun i => !(f i)).toArray rfl rfl (by rw [bitL_size]; exact HZ2.out) (by rw [bitL_size]; exact Try.bytesSize) (all_oneCell_toArray (bitL_one _)) ?_))
      refine ret_cell1 Try.results151 (w.heap.size + 1) 0 (bitL fun i => !(f i)) _ rfl ?_ Try.underlying187 rfl (by rw [bitL_len]; exact Try.bytesSize) rfl ⟨rfl, below_setCells _ _ _ _ HB2.out (by omega)⟩
      exact World.rangeAt_setCells_same _ _ _ _ (by rw [bitL_len]; exact HZ2.out)


set_option maxHeartbeats 400000 in
set_option maxRecDepth 100000 in
theorem with_any (f : Nat → Bool) (a b : Int) (w : World) :
    Calls Try.prog 153 #[.agg (bitL f).toArray, .int .i64 a, .int .i64 b] w fun e w' => e = .returned (.agg (bitL (withB f a b)).toArray) ∧ Below w.heap.size w w' := by
  have HR : Hid (((w.alloc (.cells (bitL f).toArray 187)).alloc (.cells Try.zeroCells187 187)).rangeAt w.heap.size 0 (bitL f)) :=
    World.rangeAt_alloc (rangeAt_newL w (bitL f) 187) _
  have HT : Hid (((w.alloc (.cells (bitL f).toArray 187)).alloc (.cells Try.zeroCells187 187)).there w.heap.size 0 256) :=
    World.there_alloc (there_newL w (bitL f) 187 256 (bitL_len f)) _
  have HZ : Hid (((w.alloc (.cells (bitL f).toArray 187)).alloc (.cells Try.zeroCells187 187)).there (w.heap.size + 1) 0 256) :=
    there_newA _ Try.zeroCells187 187 _ 256 Try.bytesZero (by simp)
  have HB : Hid (Below w.heap.size w ((w.alloc (.cells (bitL f).toArray 187)).alloc (.cells Try.zeroCells187 187))) :=
    ((Below.refl _ _).alloc (Nat.le_refl _) _).alloc (by simp) _
  go_enter Try.func153, Try.ntmps153
  go_wp2_with fail
  generalize (w.alloc (.cells (bitL f).toArray 187)).alloc (.cells Try.zeroCells187 187) = W at *
  go_loopw [8] (fun x wr => ∃ k : Nat, k ≤ 256 ∧ x = .int .i64 (k : Int) ∧ wr.rangeAt w.heap.size 0 (bitL fun i => if i < k then withB f a b i else f i) ∧ wr.there w.heap.size 0 256 ∧ wr.there (w.heap.size + 1) 0 256 ∧ Below w.heap.size w wr)
    (fun x _ => 256 - (intOf x).toNat)
  case atStart => exact ⟨0, by omega, rfl, HR.out, HT.out, HZ.out, HB.out⟩
  case round =>
    obtain ⟨k, hk, rfl, hr, ht, hz, hb⟩ := hrel
    have HT2 : Hid (wr.there w.heap.size 0 256) := ht
    have HZ2 : Hid (wr.there (w.heap.size + 1) 0 256) := hz
    have HB2 : Hid (Below w.heap.size w wr) := hb
    have HR2 : Hid (wr.rangeAt w.heap.size 0 (bitL fun i => if i < k then withB f a b i else f i)) := hr
    clear hr ht hz hb HR HT HZ HB
    by_cases hlt : k < 256
    · have c1 := HR2.out k _ (bitL_get _ k hlt)
      rw [if_neg (Nat.lt_irrefl k), Nat.zero_add] at c1
      have c2 := (HT2.out k hlt).2
      rw [Nat.zero_add] at c2
      have hkI : (0 : Int) ≤ (k : Int) ∧ (k : Int) < 256 := by omega
      by_cases hin : a ≤ (k : Int) ∧ (k : Int) ≤ b
      · obtain ⟨hin1, hin2⟩ := hin
        go_wp2
        go_roundw
        case rel =>
          refine ⟨k + 1, hlt, by go_num, ?_, there_set HT2.out _ _, there_set HZ2.out _ _, HB2.out.setCell (p := ⟨w.heap.size, k, none⟩) (Nat.le_refl _) _⟩
          have h := rangeAt_set HR2.out hlt true
          have e : bitL (fun i => if i = k then true else if i < k then withB f a b i else f i) = bitL (fun i => if i < k + 1 then withB f a b i else f i) := by
            refine bitL_congr (fun i _ => ?_)
            by_cases h1 : i = k
            · rw [if_pos h1, if_pos (by omega), h1]; unfold withB; simp [hin1, hin2]
            · rw [if_neg h1]
              by_cases h2 : i < k
              · rw [if_pos h2, if_pos (by omega)]
              · rw [if_neg h2, if_neg (by omega)]
          rw [e] at h
          exact h
        case measure => simp [intOf]; omega
      · have HE : Hid (bitL (fun i => if i < k then withB f a b i else f i) = bitL (fun i => if i < k + 1 then withB f a b i else f i)) := by
          refine bitL_congr (fun i _ => ?_)
          by_cases h1 : i = k
          · rw [h1, if_neg (by omega), if_pos (by omega)]; unfold withB; simp; intro h2 h3; exact absurd ⟨h2, h3⟩ hin
          · by_cases h2 : i < k
            · rw [if_pos h2, if_pos (by omega)]
            · rw [if_neg h2, if_neg (by omega)]
        rw [HE.out] at HR2
        by_cases h1 : a ≤ (k : Int)
        · have h2 : ¬ ((k : Int) ≤ b) := fun h => hin ⟨h1, h⟩
          clear hin HE
          go_wp2
          go_roundw
          case rel => exact ⟨k + 1, hlt, by go_num, HR2.out, HT2.out, HZ2.out, HB2.out⟩
          case measure => simp [intOf]; omega
        · clear hin HE
          go_wp2
          go_roundw
          case rel => exact ⟨k + 1, hlt, by go_num, HR2.out, HT2.out, HZ2.out, HB2.out⟩
          case measure => simp [intOf]; omega
    · have e : k = 256 := by omega
      subst e
      have er : bitL (fun i => if i < 256 then withB f a b i else f i) = bitL (withB f a b) := bitL_congr (fun i hi => by rw [if_pos hi])
      rw [er] at HR2
      clear er
      go_wp2_with (first
        | (refine wpList_load_mid rfl 187 (.tmp 3) rfl w.heap.size 0 rfl (bitL (withB f a b)) _ HR2.out Try.underlying187 rfl (by rw [bitL_len]; exact Try.bytesSize) ?_)
        | (refine wpList_store_mid rfl 187 (.tmp 6) (.tmp 22) rfl (w.heap.size + 1) 0 (bitL (withB f a b)).toArray rfl rfl (by rw [bitL_size]; exact HZ2.out) (by rw [bitL_size]; exact Try.bytesSize) (all_oneCell_toArray (bitL_one _)) ?_))
      refine ret_cell1 Try.results153 (w.heap.size + 1) 0 (bitL (withB f a b)) _ rfl ?_ Try.underlying187 rfl (by rw [bitL_len]; exact Try.bytesSize) rfl ⟨rfl, below_setCells _ _ _ _ HB2.out (by omega)⟩
      exact World.rangeAt_setCells_same _ _ _ _ (by rw [bitL_len]; exact HZ2.out)
end Go.Proofs.Ytgjgjgihceijnaa

