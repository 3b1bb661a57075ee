/- Texts put together: LnPure, CkProg, ScLaw, KpLin. -/
import Derived.Test.YtgjgjgihceijnaaG06
import Derived.Test.YtgjgjgihceijnaaG05
import Derived.Test.YtgjgjgihceijnaaG26
import Derived.Test.YtgjgjgihceijnaaG22
import Derived.Test.YtgjgjgihceijnaaRows
import Derived.ProofKit
import Derived.OpenShut
import Derived.ShutString
import Derived.ChangeOld
import Derived.Below
import Derived.Test.YtgjgjgihceijnaaG25
/- Plain mathematics: the steps of a cut: at most as many as bytes, times one more than all states; the tokens lie rightly. -/
namespace Go.Stn

/-- The end of the token that was found last; p, if none was. -/
def endN (p : Nat) : Option (Nat × Nat) → Nat
  | none => p
  | some x => x.2

theorem lookP_count {s inp : ByteArray} {c p : Nat} {H : List (Int × Int × Int)} : ∀ d st i S n b, i = endN p b + S.length → n + p = i → p ≤ endN p b →
    (lookP s inp c H d st i S n).2 + p = endN p (lookT s inp c H d st i b) + (lookP s inp c H d st i S n).1.length ∧ p ≤ endN p (lookT s inp c H d st i b) := by
  intro d
  induction d with
  | zero => intro st i S n b h1 h2 h3; simp only [lookP, lookT]; omega
  | succ e ih =>
    intro st i S n b h1 h2 h3
    by_cases hk : memB H (std c st i) = true
    · rw [lookP_known hk, lookT, if_pos hk]; simp only; omega
    · have hk' : memB H (std c st i) = false := by simpa using hk
      by_cases hl : leadN s c st (bt inp i) = 255
      · rw [lookP_nowhere hk' hl, lookT, if_neg hk, if_pos hl]; simp only [List.length_append, List.length_singleton]; omega
      · by_cases hm : 0 < markN s c (leadN s c st (bt inp i))
        · rw [lookP_token hk' hl hm, lookT, if_neg hk, if_neg hl, if_pos hm]
          exact ih _ _ _ _ _ (by simp [endN]) (by omega) (by simp only [endN]; omega)
        · rw [lookP_step hk' hl (by omega), lookT, if_neg hk, if_neg hl, if_neg hm]
          exact ih _ _ _ _ _ (by simp; omega) (by omega) h3

/-- What stood since the last token: no two alike, none of them hopeless before, all of this condition. -/
def okStood (s inp : ByteArray) (c : Nat) (H S : List (Int × Int × Int)) (i : Nat) : Prop :=
  S.Nodup ∧ ∀ x ∈ S, x ∉ H ∧ ∃ st j, x = std c st j ∧ st < nSt s c ∧ j < i ∧ j < inp.size

theorem okStood_snoc {s inp : ByteArray} {c : Nat} {H S : List (Int × Int × Int)} {i st : Nat} (h : okStood s inp c H S i) (hk : memB H (std c st i) = false) (hst : st < nSt s c) (hi : i < inp.size) : okStood s inp c H (S ++ [std c st i]) (i + 1) := by
  have hn : std c st i ∉ H := by
    intro hx
    have : memB H (std c st i) = true := by unfold memB; exact List.contains_iff_mem.2 hx
    rw [this] at hk; cases hk
  refine ⟨?_, fun x hx => ?_⟩
  · rw [List.nodup_append]
    refine ⟨h.1, by simp, fun a ha b hb e => ?_⟩
    rw [List.mem_singleton] at hb
    obtain ⟨_, st', j, rfl, _, hj, _⟩ := h.2 a ha
    rw [hb] at e
    have := std_inj e
    omega
  · rcases List.mem_append.1 hx with h1 | h1
    · obtain ⟨h2, st', j, h3, h4, h5, h6⟩ := h.2 x h1
      exact ⟨h2, st', j, h3, h4, by omega, h6⟩
    · rw [List.mem_singleton] at h1
      rw [h1]
      exact ⟨hn, st, i, rfl, hst, by omega, hi⟩

theorem lookP_stood {s inp : ByteArray} (hi : imgOk s = true) {c : Nat} (hc : c < iM s) {H : List (Int × Int × Int)} : ∀ d st i S n, i + d = inp.size → st < nSt s c → okStood s inp c H S i →
    okStood s inp c H (lookP s inp c H d st i S n).1 inp.size := by
  intro d
  induction d with
  | zero =>
    intro st i S n h1 _ h3
    have e : i = inp.size := by omega
    subst e
    exact h3
  | succ e ih =>
    intro st i S n h1 h2 h3
    by_cases hk : memB H (std c st i) = true
    · rw [lookP_known hk]
      exact ⟨h3.1, fun x hx => by obtain ⟨a1, st', j, a2, a3, a4, a5⟩ := h3.2 x hx; exact ⟨a1, st', j, a2, a3, a5, a5⟩⟩
    · have hk' : memB H (std c st i) = false := by simpa using hk
      have hs := okStood_snoc h3 hk' h2 (by omega)
      by_cases hl : leadN s c st (bt inp i) = 255
      · rw [lookP_nowhere hk' hl]
        exact ⟨hs.1, fun x hx => by obtain ⟨a1, st', j, a2, a3, a4, a5⟩ := hs.2 x hx; exact ⟨a1, st', j, a2, a3, a5, a5⟩⟩
      · have hlt : leadN s c st (bt inp i) < nSt s c := by
          rcases lead_lt hi hc h2 (bt_lt inp i) with h | h
          · exact h
          · exact absurd h hl
        by_cases hm : 0 < markN s c (leadN s c st (bt inp i))
        · rw [lookP_token hk' hl hm]
          exact ih _ _ _ _ (by omega) hlt ⟨List.nodup_nil, fun x hx => absurd hx List.not_mem_nil⟩
        · rw [lookP_step hk' hl (by omega)]
          exact ih _ _ _ _ (by omega) hlt hs

theorem nodup_len {α : Type} [BEq α] [LawfulBEq α] : ∀ (l b : List α), l.Nodup → (∀ x ∈ l, x ∈ b) → l.length ≤ b.length
  | [], _, _, _ => Nat.zero_le _
  | a :: l, b, hn, hs => by
    rw [List.nodup_cons] at hn
    have h1 := nodup_len l (b.erase a) hn.2 (fun x hx => (List.mem_erase_of_ne (fun e => hn.1 (by rw [← e]; exact hx))).2 (hs x (List.mem_cons_of_mem _ hx)))
    have h2 := hs a List.mem_cons_self
    rw [List.length_erase_of_mem h2] at h1
    have := List.length_pos_of_mem h2
    simp; omega

/-- All states of all conditions. -/
def sumSt (s : ByteArray) : Nat → Nat
  | 0 => 0
  | c + 1 => sumSt s c + nSt s c
/-- Every stand that there is. -/
def boxL (s : ByteArray) (L : Nat) : Nat → List (Int × Int × Int)
  | 0 => []
  | c + 1 => boxL s L c ++ (List.range (nSt s c)).flatMap fun st => (List.range L).map fun i => std c st i

theorem sum_const (L : Nat) : ∀ n : Nat, ((List.range n).map fun _ => L).sum = n * L := by
  intro n
  induction n with
  | zero => simp
  | succ k ih => rw [List.range_succ, List.map_append, List.sum_append, ih, Nat.succ_mul]; simp
theorem boxL_len (s : ByteArray) (L : Nat) : ∀ c, (boxL s L c).length = sumSt s c * L := by
  intro c
  induction c with
  | zero => simp [boxL, sumSt]
  | succ k ih =>
    rw [boxL, List.length_append, ih, sumSt, Nat.add_mul, List.length_flatMap]
    simp [sum_const]
theorem boxL_mem (s : ByteArray) (L : Nat) : ∀ m c st i, c < m → st < nSt s c → i < L → std c st i ∈ boxL s L m := by
  intro m
  induction m with
  | zero => intro c st i h; omega
  | succ k ih =>
    intro c st i h1 h2 h3
    rw [boxL, List.mem_append]
    by_cases e : c = k
    · subst e
      right
      rw [List.mem_flatMap]
      exact ⟨st, List.mem_range.2 h2, List.mem_map.2 ⟨i, List.mem_range.2 h3, rfl⟩⟩
    · exact .inl (ih c st i (by omega) h2 h3)

/-- What is hopeless is within the box, no two alike. -/
def okHope (s inp : ByteArray) (H : List (Int × Int × Int)) : Prop := H.Nodup ∧ ∀ x ∈ H, x ∈ boxL s inp.size (iM s)

theorem okHope_app {s inp : ByteArray} {H S : List (Int × Int × Int)} {c : Nat} (hc : c < iM s) (h : okHope s inp H) (hS : okStood s inp c H S inp.size) : okHope s inp (H ++ S) := by
  refine ⟨?_, fun x hx => ?_⟩
  · rw [List.nodup_append]
    exact ⟨h.1, hS.1, fun a ha b hb e => (hS.2 b hb).1 (by rw [← e]; exact ha)⟩
  · rcases List.mem_append.1 hx with h1 | h1
    · exact h.2 x h1
    · obtain ⟨_, st, j, rfl, h2, _, h3⟩ := hS.2 x h1
      exact boxL_mem s inp.size (iM s) c st j hc h2 h3

theorem runP_steps {s inp : ByteArray} (hi : imgOk s = true) : ∀ (f p c : Nat) (H : List (Int × Int × Int)) (n : Nat) (T : List (Int × Int × Int)), c < iM s → p ≤ inp.size → allDead s inp H → okHope s inp H → n = H.length + p →
    (runP s inp f p c H n T).2.1 ≤ inp.size * (sumSt s (iM s) + 1) := by
  have hbox : ∀ (H : List (Int × Int × Int)) (p : Nat), okHope s inp H → p ≤ inp.size → H.length + p ≤ inp.size * (sumSt s (iM s) + 1) := fun H p h hp => by
    have := nodup_len H _ h.1 h.2
    rw [boxL_len] at this
    rw [Nat.mul_add, Nat.mul_one, Nat.mul_comm]
    omega
  intro f
  induction f with
  | zero => intro p c H n T _ hp _ hH hn; rw [runP]; simp only; rw [hn]; exact hbox H p hH hp
  | succ e ih =>
    intro p c H n T hc hp hD hH hn
    by_cases hlt : p < inp.size
    · have hcount := lookP_count (s := s) (inp := inp) (c := c) (p := p) (H := H) (inp.size - p) 0 p [] 0 none (by simp [endN]) (by omega) (by simp [endN])
      have hstood := lookP_stood hi hc (inp := inp) (H := H) (inp.size - p) 0 p [] 0 (by omega) (nSt_le hi hc).2 ⟨List.nodup_nil, fun x hx => absurd hx List.not_mem_nil⟩
      have hfind := look_finds (s := s) (inp := inp) (c := c) (p := p) (H := H) hD hp
      have hD2 := look_dead (s := s) (inp := inp) (c := c) (p := p) (H := H) hD hp
      have hH2 := okHope_app hc hH hstood
      have el : lookFrom s inp c H p = lookP s inp c H (inp.size - p) 0 p [] 0 := rfl
      rw [el] at hD2
      rcases lng_cases hi hc (Nat.le_of_lt hlt) with hno | ⟨r, q, hyes, hr, hpq, hq⟩
      · rw [runP_none hlt hno, el]
        simp only
        rw [hno] at hfind
        cases hT : lookT s inp c H (inp.size - p) 0 p none with
        | none =>
          rw [hT] at hcount
          simp only [endN] at hcount
          have := hbox _ p hH2 hp
          rw [List.length_append] at this
          omega
        | some x => rw [hT] at hfind; simp only [Prod.mk.injEq] at hfind; omega
      · rw [runP_some hlt hyes, el]
        rw [hyes] at hfind
        cases hT : lookT s inp c H (inp.size - p) 0 p none with
        | none => rw [hT] at hfind; simp only [Prod.mk.injEq] at hfind; omega
        | some x =>
          rw [hT] at hfind hcount
          simp only [Prod.mk.injEq] at hfind
          simp only [endN] at hcount
          have := then_le hi hr
          refine ih q _ _ _ _ (by split <;> omega) hq hD2 hH2 ?_
          rw [List.length_append]
          omega
    · rw [runP_end hlt]; simp only; rw [hn]; exact hbox H p hH hp

theorem cutP_steps {s inp : ByteArray} (hi : imgOk s = true) : (cutP s inp 0).2.1 ≤ inp.size * (sumSt s (iM s) + 1) :=
  runP_steps hi _ 0 0 [] 0 [] (img_head hi).2.2.1 (Nat.zero_le _) (fun _ _ _ h => absurd h List.not_mem_nil) ⟨List.nodup_nil, fun _ h => absurd h List.not_mem_nil⟩ rfl

/-- The tokens lie rightly from p on. -/
def linB (nr L : Nat) : Nat → List (Int × Int × Int) → Prop
  | _, [] => True
  | p, t :: r => (p : Int) ≤ t.2.1 ∧ t.2.2 ≤ (L : Int) ∧ t.1 < (nr : Int) ∧ ((t.1 = -1 ∧ r = [] ∧ t.2.2 = t.2.1 ∧ t.2.1 < (L : Int)) ∨ (0 ≤ t.1 ∧ t.2.1 < t.2.2 ∧ linB nr L t.2.2.toNat r))

theorem linB_mono {nr L : Nat} {p q : Nat} (h : q ≤ p) : ∀ {l : List (Int × Int × Int)}, linB nr L p l → linB nr L q l
  | [], _ => trivial
  | _ :: _, hl => ⟨by have := hl.1; omega, hl.2.1, hl.2.2.1, hl.2.2.2⟩

theorem runP_pre {s inp : ByteArray} : ∀ (f p c : Nat) (H : List (Int × Int × Int)) (n : Nat) (T : List (Int × Int × Int)), (runP s inp f p c H n T).1 = T ++ (runP s inp f p c H n []).1 := by
  intro f
  induction f with
  | zero => intro p c H n T; simp [runP]
  | succ e ih =>
    intro p c H n T
    rw [runP, runP]
    by_cases h1 : p < inp.size
    · rw [if_pos h1, if_pos h1]
      by_cases h2 : (lng s inp c p).1 = -1
      · rw [if_pos h2, if_pos h2]; simp
      · rw [if_neg h2, if_neg h2, ih]
        conv => rhs; rw [ih]
        split <;> simp
    · rw [if_neg h1, if_neg h1]; simp

theorem runP_lin {s inp : ByteArray} (hi : imgOk s = true) : ∀ (f p c : Nat) (H : List (Int × Int × Int)) (n : Nat), c < iM s → p ≤ inp.size → linB (iR s) inp.size p (runP s inp f p c H n []).1 := by
  intro f
  induction f with
  | zero => intro p c H n _ _; rw [runP]; trivial
  | succ e ih =>
    intro p c H n hc hp
    by_cases hlt : p < inp.size
    · rcases lng_cases hi hc (Nat.le_of_lt hlt) with hno | ⟨r, q, hyes, hr, hpq, hq⟩
      · rw [runP_none hlt hno]
        refine ⟨Int.le_refl _, by simp only; omega, by simp only; omega, .inl ⟨rfl, rfl, rfl, by simp only; omega⟩⟩
      · rw [runP_some hlt hyes, runP_pre]
        have := then_le hi hr
        have hl := ih q (if 1 < thenB s r then thenB s r - 2 else c) (H ++ (lookFrom s inp c H p).1) (n + (lookFrom s inp c H p).2) (by split <;> omega) hq
        split
        · exact linB_mono (Nat.le_of_lt hpq) hl
        · refine ⟨Int.le_refl _, by simp only; omega, by simp only; omega, .inr ⟨by simp only; omega, by simp only; omega, ?_⟩⟩
          simpa using hl
    · rw [runP_end hlt]; trivial

theorem cutP_lin {s inp : ByteArray} (hi : imgOk s = true) : linB (iR s) inp.size 0 (cutP s inp 0).1 := runP_lin hi _ 0 0 [] 0 (img_head hi).2.2.1 (Nat.zero_le _)
end Go.Stn

/- stencil.Check: a walk. -/
namespace Go.Proofs.Ytgjgjgihceijnaa
open Go.RowKit Go.Stn

theorem chk_yes {s : ByteArray} (h : s.size ≤ 120000) (hi : imgOk s = true) : chk s = 0 := by unfold chk; rw [if_neg (by omega), if_pos hi]

theorem pcheck_any (s : ByteArray) (w : World) (_hs : s.size ≤ maxLen) :
    Calls Try.prog 13 #[.string s] w fun e w' => e = .returned (.int .i64 (chk s)) ∧ Below w.heap.size w w' := by
  go_enter Try.func13, Try.ntmps13
  go_wp2_with fail
  refine (lread_any s _).mono ?_
  rintro e w1 ⟨hb, hout⟩
  have hx : ∃ A : Array Value, A.size = 258 ∧ A.all (·.oneCell') = true ∧ e = .returned (.tuple #[.agg A, .int .i64 (chk s)]) := by
    rcases hout with ⟨_, rfl⟩ | ⟨h1, h2, bb, vc, ys, rfl, _, ho, _⟩
    · exact ⟨_, Try.imgZero, Try.imgZeroOne, rfl⟩
    · have hone : vc.oneCell' = true := by obtain ⟨va, vcap, rfl⟩ := rowSlice ho; rfl
      refine ⟨(imgC (.slice (some ⟨bb, 0, none⟩) (lRules s) (lRules s)) (lClassOf s) vc).toArray, ?_, all_oneCell_toArray (imgC_one rfl hone), by rw [chk_yes h1 h2]⟩
      rw [List.size_toArray]
      exact imgC_len _ _ _ (by unfold lClassOf; rw [numsP_len]; rfl)
  obtain ⟨A, hsz, hall, rfl⟩ := hx
  have HSZ := hidZ hsz
  have HALL := hidZ hall
  have HN2 := hidZ (there_newA w1 Try.zeroCells75 75 w1.heap.size 258 Try.imgZero rfl)
  clear hsz hall hout
  go_wp2_with (first | (refine wpList_store_mid rfl 75 (.tmp 3) (.tmp 8) rfl w1.heap.size 0 A rfl rfl ?_ ?_ HALL.out ?_; (rw [HSZ.out]; exact HN2.out); (rw [HSZ.out]; exact Try.imgSize)))
  go_ret
  exact ⟨rfl, below_setCells _ 0 _ w1.heap.size (hb.alloc hb.size _) hb.size⟩
end Go.Proofs.Ytgjgjgihceijnaa

/- Scans holds: whatever the two texts, Scan answers as the reference does: the tokens, the steps, the error. No condition. -/
namespace Go.Stn
theorem runP_told {s inp : ByteArray} (hi : imgOk s = true) : ∀ (f p c : Nat) (H : List (Int × Int × Int)) (n : Nat) (T : List (Int × Int × Int)), c < iM s → (runP s inp f p c H n T).1.length ≤ T.length + f := by
  intro f
  induction f with
  | zero => intro p c H n T _; simp [runP]
  | succ e ih =>
    intro p c H n T hc
    by_cases hlt : p < inp.size
    · rcases lng_cases hi hc (Nat.le_of_lt hlt) with hno | ⟨r, q, hyes, hr, hpq, hq⟩
      · rw [runP_none hlt hno]; simp
      · rw [runP_some hlt hyes]
        have := then_le hi hr
        have := ih q (if 1 < thenB s r then thenB s r - 2 else c) (H ++ (lookFrom s inp c H p).1) (n + (lookFrom s inp c H p).2) (if thenB s r = 1 then T else T ++ [((r : Int), (p : Int), (q : Int))]) (by split <;> omega)
        refine Nat.le_trans this ?_
        split <;> simp <;> omega
    · rw [runP_end hlt]; simp

theorem scanR_len (s inp : ByteArray) : (scanR s inp).1.length ≤ 1000 := by
  unfold scanR
  split
  · simp
  · rename_i h
    split
    · rename_i hi
      have hm := (img_head hi).2.2.1
      have := runP_told (inp := inp) hi (inp.size + 1) 0 0 [] 0 [] (by omega)
      unfold cutP
      simp at this ⊢
      omega
    · simp
end Go.Stn
namespace Go.Proofs.Ytgjgjgihceijnaa
open Go.ChangeShapes Go.WideShapes Go.ChangeAt Go.RowKit Go.Stn
open Go.ChangeMaps (open_string shut_string)

theorem sameB_refl (a : List (Int × Int × Int)) : sameB a a = true := by unfold sameB; simp

set_option maxRecDepth 100000 in
theorem scans_walk (s inp : ByteArray) (hs : s.size ≤ maxLen) (hin : inp.size ≤ maxLen) (w : World) :
    Calls Try.prog 6 #[.string s, .string inp] w fun e w' => e = .returned (.bool true) ∧ Below w.heap.size w w' := by
  have hlen := scanR_len s inp
  go_enter Try.func6, Try.ntmps6
  go_wp2_with fail
  refine (pscan_any s inp _ hs hin).mono ?_
  rintro e w1 ⟨v1, rfl, hr1, hb1⟩
  have HR1 := hid_mk hr1
  have HB1 := hid_mk hb1
  clear hr1 hb1
  go_wp2_with fail
  refine (scan_any s inp _ hs hin).mono ?_
  rintro e w2 ⟨v2, rfl, hr2, hb2⟩
  have HR2 := hid_mk (ownsRow_row3 hr2)
  have HR3 := hid_mk (HR1.out.below hb2 (Nat.le_refl _))
  have HB2 := hid_mk (HB1.out.trans (hb2.mono HB1.out.size))
  clear hr2 hb2 HR1 HB1
  generalize (scanR s inp).2.1 = n at *
  generalize (scanR s inp).2.2 = e at *
  generalize (scanR s inp).1 = T at *
  have h1 : ((e : Int) == e) = true := beq_self_eq_true _
  have h2 : ((n : Int) == (n : Int)) = true := beq_self_eq_true _
  go_wp2_with fail
  refine (num_any _ _).mono ?_
  rintro e' w3 ⟨rfl, rfl⟩
  go_wp2_with fail
  refine (same_any T T v1 v2 _ _ _ (by omega) (by omega) HR3.out HR2.out).mono ?_
  rintro e' w4 ⟨rfl, q, rfl⟩
  rw [sameB_refl]
  go_wp2
  go_ret
  exact ⟨rfl, ⟨HB2.out.os, HB2.out.tape, HB2.out.output, HB2.out.size, HB2.out.block⟩⟩

theorem scans_own : ownKnob Try.prog.godebug = none := by kernel_rfl

set_option maxRecDepth 100000 in
theorem scans_lifted (os : Os) (started : os.Started) (H : Type) (enc : TypeId × Value → H) :
    ReturnsInHanded {} Try.checked os 6 .any (Rows.scansSpec.pre6 enc Try.prog Try.f6 Rows.scansRow.domain false) (Rows.scansSpec.post enc Try.prog Try.f6 false true false false) := by
  refine returnsInHanded_of_change (C := Try.checked) scans_own started (by kernel_rfl) Try.func6
    (ChangeSpec.witness6 (enc := enc) (C := Try.checked) false ⟨#[], #[.string ByteArray.empty, .string ByteArray.empty], []⟩ 8 (by kernel_rfl) (by kernel_rfl) (by kernel_rfl) (by kernel_rfl)) ?_
  intro W base args ds gs before hval0 hW hcnd _
  have hval : ∀ (j : Nat) t v, Try.f6.params[j]? = some t → args[j]? = some v → Value.okWide Try.prog W .any base t v := hval0
  have hW' := hW
  obtain ⟨p, q, hA0, hV, rfl, hfz, hnd⟩ := hW
  have hA : DataW.TrodAll enc Try.prog W 0 (fun _ => true) true Try.f6.params.toList args.toList ds p := hA0
  rw [Try.params6] at hA hval
  obtain ⟨v0, vs0, d0, ds0, p0, q0, hargs, rfl, rfl, h0, r0⟩ := trodAll_cons hA
  obtain ⟨v1, vs1, d1, ds1, p1, q1, rfl, rfl, rfl, h1, r1⟩ := trodAll_cons r0
  obtain ⟨rfl, rfl, rfl⟩ := trodAll_nil r1
  obtain rfl : args = #[v0, v1] := by cases args; simp_all
  obtain ⟨rfl, rfl⟩ := trodVars_none hV
  obtain ⟨a0, rfl, rfl, rfl, w0⟩ := open_string Try.underlying9 (hval 0 9 v0 rfl rfl) h0
  obtain ⟨a1, rfl, rfl, rfl, w1⟩ := open_string Try.underlying9 (hval 1 9 v1 rfl rfl) h1
  clear hA0 hval0
  refine (scans_walk a0 a1 w0 w1 W).mono fun e W' ⟨he, bel⟩ => ?_
  subst he
  exact ⟨_, rfl, _, _, _, [], _, [], hW', trodAll_mk1 (shut_bool Try.underlying4 _), trodAll_cons_mk (shut_string Try.underlying9 w0) (trodAll_cons_mk (shut_string Try.underlying9 w1) trodAll_mk0), rfl, bel.frame _, fun h => by cases h⟩

theorem scans_holds : Rows.ScansSaid :=
  OpenClaim.holds_of_wide 6 Try.f6 rfl rfl rfl rfl rfl rfl rfl ⟨rfl, rfl, rfl, rfl, rfl⟩ rfl rfl rfl rfl rfl (by kernel_rfl) Try.func6 (by kernel_rfl)
    (of_decide_eq_true (by kernel_rfl)) (by unfold Func.isWrapper; first | (rw [if_pos (by decide +kernel)]; kernel_rfl) | (rw [if_neg (by decide +kernel)]; exact ⟨rfl, rfl⟩))
    (fun os started H enc _ => scans_lifted os started H enc)
end Go.Proofs.Ytgjgjgihceijnaa

/- stencilkeep.states, Linear: walks. -/
namespace Go.Proofs.Ytgjgjgihceijnaa
open Go.RowKit Go.Stn

theorem sumSt_small {s : ByteArray} (hi : imgOk s = true) : ∀ c, c ≤ iM s → sumSt s c ≤ 100 * c := by
  intro c
  induction c with
  | zero => intro _; simp [sumSt]
  | succ k ih => intro h; have := ih (by omega); have := (nSt_le hi (c := k) (by omega)).1; rw [sumSt]; omega

set_option maxRecDepth 100000 in
set_option maxHeartbeats 1000000 in
theorem kstates_any (s : ByteArray) (lg lcap : Nat) (P : Nat → Prop) (ts : List Value) (w : World) (hi : imgOk s = true) (hl : w.rangeAt lg 0 ts) (ht : TabsIn w P ts (iM s) (iK s) (nSt s) (markN s) (leadC s)) :
    Calls Try.prog 33 #[.slice (some ⟨lg, 0, none⟩) (iM s) lcap] w fun e w' => e = .returned (.int .i64 (sumSt s (iM s))) ∧ w' = w := by
  have hM := (img_head hi).2.2.2.1
  have HS := hidZ (@sumSt_small s hi)
  have HL := hidZ hl
  have HT := hidZ ht
  have HNS := hidZ (fun c hc => @nSt_le s hi c hc)
  clear hi hl ht
  generalize iM s = M at *
  go_enter Try.func33, Try.ntmps33
  go_wp2
  go_loop [3, 4] (fun x i => ∃ k : Nat, k ≤ M ∧ i = .int .i64 (k : Int) ∧ x = .int .i64 (sumSt s k : Int)) (fun _ i => M - (intOf i).toNat)
  case atStart => exact ⟨0, by omega, rfl, rfl⟩
  case round =>
    obtain ⟨k, hk, rfl, rfl⟩ := hrel
    have hsk := HS.out k hk
    by_cases hlt : k < M
    · obtain ⟨v1, v2, h1, h2, ⟨⟨g1, cap1, e1, _, _⟩, _⟩⟩ := HT.out k hlt
      rw [natR_len] at e1
      subst e1
      have c1 := HL.out (2 * k) _ h1
      rw [Nat.zero_add, Nat.mul_comm] at c1
      have hns := HNS.out k hlt
      have HSS : Hid (sumSt s (k + 1) = sumSt s k + nSt s k) := rfl
      clear h1 h2
      generalize nSt s k = N at *
      generalize hS : sumSt s k = S at *
      clear hS
      go_wp2
      go_round
      case rel => exact ⟨k + 1, hlt, by go_num, by rw [HSS.out]; go_num⟩
      case measure => simp [intOf]; omega
    · have e : k = M := by omega
      subst e
      go_wp2
      go_ret
      exact ⟨rfl, rfl⟩

theorem row3_len {w : World} {B : Nat} {v : Value} {l : List (Int × Int × Int)} (h : Row3 w B v l) : ∃ a cap, v = .slice a l.length cap := by
  rcases h.sh with ⟨rfl, rfl⟩ | ⟨g, cap, rfl, _⟩
  · exact ⟨none, 0, rfl⟩
  · exact ⟨_, cap, rfl⟩

set_option maxRecDepth 100000 in
set_option maxHeartbeats 2000000 in
theorem linear_walk (s inp : ByteArray) (hs : s.size ≤ maxLen) (hin : inp.size ≤ maxLen) (w : World) :
    Calls Try.prog 9 #[.string s, .string inp] w fun e w' => e = .returned (.bool true) ∧ Below w.heap.size w w' := by
  have hck := pcheck_any s
  have hsc := pscan_any s inp
  by_cases hlong : 120000 < s.size ∨ 300 < inp.size
  · have hsr : scanR s inp = ([], 0, 1) := by unfold scanR; rw [if_pos hlong]
    rw [hsr] at hsc
    have hc1 : ¬ 300 < inp.size → chk s = 1 := fun h => by unfold chk; rw [if_pos (by omega)]
    unfold maxLen at hin
    go_enter Try.func9, Try.ntmps9
    go_wp2_with fail
    refine (kex_any _).mono ?_
    rintro e w1 ⟨rfl, hb1⟩
    have HB1 := hidZ hb1
    clear hb1
    go_wp2_with fail
    refine (hck _ hs).mono ?_
    rintro e w2 ⟨rfl, hb2⟩
    have HB2 := hidZ (HB1.out.trans (hb2.mono HB1.out.size))
    clear hb2 HB1
    go_wp2_with fail
    refine (hsc _ hs (by unfold maxLen; omega)).mono ?_
    rintro e w3 ⟨v, rfl, hr3, hb3⟩
    have HB3 := hidZ (HB2.out.trans (hb3.mono HB2.out.size))
    obtain ⟨va, vcap, hv⟩ := row3_len hr3
    subst hv
    clear hb3 HB2 hck hsc hsr hs hr3
    by_cases hil : 300 < inp.size
    · generalize chk s = ck at *
      have hd : decide ((300 : Int) < (inp.size : Int)) = true := by simp; omega
      clear hlong hc1
      by_cases hk1 : ck = 1
      · have hd1 : ((ck : Int) == 1) = true := by rw [hk1]; rfl
        clear hk1
        go_wp2
        go_ret
        exact ⟨rfl, HB3.out⟩
      · have hd1 : ((ck : Int) == 1) = false := by rw [beq_eq_false_iff_ne]; exact hk1
        clear hk1
        go_wp2
        go_ret
        exact ⟨rfl, HB3.out⟩
    · rw [hc1 hil]
      clear hlong hc1
      go_wp2
      go_ret
      exact ⟨rfl, HB3.out⟩
  · have hl1 : s.size ≤ 120000 := by omega
    have hl2 : inp.size ≤ 300 := by omega
    have hd : decide ((300 : Int) < (inp.size : Int)) = false := by simp; omega
    by_cases hi : imgOk s = true
    · have hsr : scanR s inp = ((cutP s inp 0).1, (cutP s inp 0).2.1, 0) := by unfold scanR; rw [if_neg hlong, if_pos hi]
      have hlen := scanR_len s inp
      rw [hsr] at hsc hlen
      have hcs := cutP_steps (inp := inp) hi
      have hcl := cutP_lin (inp := inp) hi
      have hck0 : chk s = 0 := by unfold chk; rw [if_neg (by omega), if_pos hi]
      rw [hck0] at hck
      generalize (cutP s inp 0).1 = T at *
      generalize (cutP s inp 0).2.1 = n at *
      have hsm := sumSt_small hi (iM s) (Nat.le_refl _)
      have hM := (img_head hi).2.2.2.1
      have hR := img_head hi
      have h3lt : 3 < s.size := by omega
      have hb3 : (s[3]'h3lt).toNat = iR s := bt_eq s 3 h3lt
      have hst := fun lg lcap P ts w => @kstates_any s lg lcap P ts w hi
      generalize hS : sumSt s (iM s) = S at *
      have HI := hidZ hi
      have hmul : inp.size * (S + 1) ≤ 300 * 401 := Nat.mul_le_mul hl2 (by omega)
      have hmulI : (inp.size : Int) * ((S : Int) + 1) = ((inp.size * (S + 1) : Nat) : Int) := by simp
      generalize hPr : inp.size * (S + 1) = P at *
      clear hi hlong hsr hck0 hPr hS hM
      go_enter Try.func9, Try.ntmps9
      go_wp2_with fail
      refine (kex_any _).mono ?_
      rintro e w1 ⟨rfl, hb1⟩
      have HB1 := hidZ hb1
      clear hb1
      go_wp2_with fail
      refine (hck _ hs).mono ?_
      rintro e w2 ⟨rfl, hb2⟩
      have HB2 := hidZ (HB1.out.trans (hb2.mono HB1.out.size))
      clear hb2 HB1
      go_wp2_with fail
      refine (hsc _ hs hin).mono ?_
      rintro e w3 ⟨v, rfl, hr3, hbb3⟩
      have HR3 := hidZ hr3
      have HB3 := hidZ (HB2.out.trans (hbb3.mono HB2.out.size))
      clear hbb3 HB2 hck hsc
      go_wp2_with fail
      refine (kwhole_any s _ HI.out hl1).mono ?_
      rintro e w4 ⟨rfl, rfl⟩
      go_wp2_with fail
      refine (kread_any s _ HI.out hl1).mono ?_
      rintro e w5 ⟨lg, lcap, og, ocap, ts, rfl, hb5, hlg, hog, hof, htl, hlr, htabs⟩
      have HR5 := hidZ (HR3.out.below hb5 (Nat.le_refl _))
      have HB5 := hidZ (HB3.out.trans (hb5.mono HB3.out.size))
      have hst5 := hst lg lcap _ ts w5 hlr htabs
      clear hb5 HB3 HR3 hr3 hlr htabs hof htl hst
      obtain ⟨va, vcap, hv⟩ := row3_len HR5.out
      subst hv
      have hd1 : decide ((n : Int) < 0) = false := by simp
      have hd2 : decide ((P : Int) < (n : Int)) = false := by simp; omega
      go_wp2_with (first | (go_at_call 33; refine hst5.mono ?_; rintro e w6 ⟨rfl, rfl⟩))
      go_loopw [14, 15] (fun x y wr => ∃ (k p : Nat), k ≤ T.length ∧ y = .int .i64 (k : Int) ∧ x = .int .i64 (p : Int) ∧ linB (iR s) inp.size p (T.drop k) ∧ ∃ q, wr = w6.drewN q) (fun _ y _ => T.length - (intOf y).toNat)
      case atStart => exact ⟨0, 0, by omega, rfl, rfl, hcl, 0, rfl⟩
      case round =>
        obtain ⟨k, p, hk, rfl, rfl, hlin, q, rfl⟩ := hrel
        by_cases hlt : k < T.length
        · obtain ⟨⟨tr, tf, tt⟩, hx⟩ : ∃ u, T[k]? = some u := ⟨_, List.getElem?_eq_getElem hlt⟩
          have hdrop : T.drop k = (tr, tf, tt) :: T.drop (k + 1) := by
            rw [List.drop_eq_getElem_cons hlt]
            congr 1
            rw [List.getElem?_eq_getElem hlt] at hx
            injection hx
          rw [hdrop] at hlin
          obtain ⟨l1, l2, l3, l4⟩ := hlin
          simp only at l1 l2 l3 l4
          rcases HR5.out.sh with ⟨_, h0⟩ | ⟨g, cap, hv, _, _, _, hcells⟩
          · rw [h0] at hlt; simp at hlt
          injection hv with hv1 hv2 hv3
          subst hv1
          clear hv2 hv3
          obtain ⟨k0, k1, k2⟩ := hcells k _ hx
          simp only at k0 k1 k2
          have HX := hidZ hx
          have HDR := hidZ hdrop
          clear hcells hx hdrop hst5
          have hkI : (0 : Int) ≤ (k : Int) ∧ (k : Int) < (T.length : Int) := by omega
          have g1 : decide (tf < (p : Int)) = false := by simp; omega
          have g2 : decide ((inp.size : Int) < tt) = false := by simp; omega
          have g3 : decide ((iR s : Int) ≤ tr) = false := by simp; omega
          have hw1 : IntKind.i64.wrap (iR s : Int) = (iR s : Int) := IntWalk.i64_in _ (by omega)
          have hw2 : IntKind.i64.wrap ((T.length : Int) - 1) = (T.length : Int) - 1 := IntWalk.i64_in _ (by omega)
          by_cases hm1 : tr = -1
          · have g4 : (tr == -1) = true := by rw [hm1]; rfl
            have hlast : T.drop (k + 1) = [] ∧ tt = tf ∧ tf < (inp.size : Int) := by
              rcases l4 with h | h
              · exact h.2
              · omega
            have hlen2 : k + 1 = T.length := by
              have := congrArg List.length hlast.1
              simp at this
              omega
            have g5 : ((k : Int) == (T.length : Int) - 1) = true := by rw [beq_iff_eq]; omega
            have g6 : (tt == tf) = true := by rw [beq_iff_eq]; exact hlast.2.1
            have g7 : decide (tf < (inp.size : Int)) = true := by simp; exact hlast.2.2
            clear l4 hm1 hlast
            go_wp2
            go_quiet (fail)
            go_wp2
            go_quiet (fail)
            go_wp2
            go_ret
            exact ⟨rfl, ⟨HB5.out.os, HB5.out.tape, HB5.out.output, HB5.out.size, HB5.out.block⟩⟩
          · have g4 : (tr == -1) = false := by rw [beq_eq_false_iff_ne]; exact hm1
            have hgo : 0 ≤ tr ∧ tf < tt ∧ linB (iR s) inp.size tt.toNat (T.drop (k + 1)) := by
              rcases l4 with h | h
              · exact absurd h.1 hm1
              · exact h
            have g5 : decide (tr < 0) = false := by simp; omega
            have g6 : decide (tt ≤ tf) = false := by simp; omega
            have HL2 := hidZ hgo.2.2
            have HTT : Hid (tt = (tt.toNat : Int)) := by unfold Hid; omega
            clear l4 hm1 hgo
            go_wp2
            go_quiet (fail)
            go_wp2
            go_quiet (fail)
            go_wp2
            go_roundw
            case rel => exact ⟨k + 1, tt.toNat, hlt, by go_num, by rw [← HTT.out], HL2.out, _, rfl⟩
            case measure => simp [intOf]; omega
        · go_wp2
          go_ret
          exact ⟨rfl, ⟨HB5.out.os, HB5.out.tape, HB5.out.output, HB5.out.size, HB5.out.block⟩⟩
    · have hsr : scanR s inp = ([], 0, 5) := by unfold scanR; rw [if_neg hlong, if_neg hi]
      rw [hsr] at hsc
      have hck0 : chk s = 5 := by unfold chk; rw [if_neg (by omega), if_neg hi]
      rw [hck0] at hck
      clear hi hlong hsr hck0
      go_enter Try.func9, Try.ntmps9
      go_wp2_with fail
      refine (kex_any _).mono ?_
      rintro e w1 ⟨rfl, hb1⟩
      have HB1 := hidZ hb1
      clear hb1
      go_wp2_with fail
      refine (hck _ hs).mono ?_
      rintro e w2 ⟨rfl, hb2⟩
      have HB2 := hidZ (HB1.out.trans (hb2.mono HB1.out.size))
      clear hb2 HB1
      go_wp2_with fail
      refine (hsc _ hs hin).mono ?_
      rintro e w3 ⟨v, rfl, hr3, hb3⟩
      have HB3 := hidZ (HB2.out.trans (hb3.mono HB2.out.size))
      obtain ⟨va, vcap, hv⟩ := row3_len hr3
      subst hv
      clear hb3 HB2 hck hsc hr3
      go_wp2
      go_ret
      exact ⟨rfl, HB3.out⟩
end Go.Proofs.Ytgjgjgihceijnaa

