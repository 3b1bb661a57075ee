/- Texts put together: AuCanon, AuMerge. -/
import Derived.Test.YtgjgjgihceijnaaG01
import Derived.Test.YtgjgjgihceijnaaG09
/- Plain mathematics: an automaton whose states are alive, told apart and numbered as they are come upon is the only one with its answers. -/
namespace Go.Stn

/-- Where a text leads from a state. -/
def runA (tr : Nat → Nat → Int) : Nat → List Nat → Option Nat
  | p, [] => some p
  | p, b :: w => if tr p b = -1 then none else runA tr (tr p b).toNat w
/-- What is answered there: 0 where it leads nowhere. -/
def obsA (mk : Nat → Nat) (tr : Nat → Nat → Int) (p : Nat) (w : List Nat) : Nat := match runA tr p w with
  | none => 0
  | some q => mk q
/-- Letters below L. -/
def lets (L : Nat) (w : List Nat) : Prop := ∀ b ∈ w, b < L

theorem runA_app (tr : Nat → Nat → Int) : ∀ (u v : List Nat) (p : Nat), runA tr p (u ++ v) = match runA tr p u with
    | none => none
    | some q => runA tr q v
  | [], v, p => rfl
  | b :: u, v, p => by
    rw [List.cons_append, runA, runA]
    by_cases h : tr p b = -1
    · rw [if_pos h, if_pos h]
    · rw [if_neg h, if_neg h]; exact runA_app tr u v _
theorem runA_snoc {tr : Nat → Nat → Int} {u : List Nat} {p q b : Nat} (h : runA tr p u = some q) : runA tr p (u ++ [b]) = if tr q b = -1 then none else some (tr q b).toNat := by
  rw [runA_app, h]; rfl
theorem obsA_app {mk : Nat → Nat} {tr : Nat → Nat → Int} {u v : List Nat} {p q : Nat} (h : runA tr p u = some q) : obsA mk tr p (u ++ v) = obsA mk tr q v := by
  unfold obsA; rw [runA_app, h]
theorem obsA_cons {mk : Nat → Nat} {tr : Nat → Nat → Int} {v : List Nat} {p b : Nat} (h : tr p b ≠ -1) : obsA mk tr p (b :: v) = obsA mk tr (tr p b).toNat v := by
  unfold obsA; rw [runA, if_neg h]
theorem obsA_none {mk : Nat → Nat} {tr : Nat → Nat → Int} {v : List Nat} {p b : Nat} (h : tr p b = -1) : obsA mk tr p (b :: v) = 0 := by
  unfold obsA; rw [runA, if_pos h]
theorem obsA_nil (mk : Nat → Nat) (tr : Nat → Nat → Int) (p : Nat) : obsA mk tr p [] = mk p := rfl
theorem lets_app {L : Nat} {u v : List Nat} (h : lets L u) (k : lets L v) : lets L (u ++ v) := fun b hb => by
  rcases List.mem_append.1 hb with h1 | h1
  · exact h b h1
  · exact k b h1
theorem lets_one {L b : Nat} (h : b < L) : lets L [b] := fun c hc => by rw [List.mem_singleton] at hc; rw [hc]; exact h
theorem lets_cons {L b : Nat} {v : List Nat} (h : b < L) (k : lets L v) : lets L (b :: v) := fun c hc => by
  rcases List.mem_cons.1 hc with h1 | h1
  · rw [h1]; exact h
  · exact k c h1
theorem lets_nil (L : Nat) : lets L [] := fun _ h => absurd h List.not_mem_nil

/-- Within its states. -/
structure Auto (n L : Nat) (tr : Nat → Nat → Int) : Prop where
  pos : 0 < n
  rng : ∀ p b, p < n → b < L → tr p b = -1 ∨ (0 ≤ tr p b ∧ tr p b < (n : Int))
/-- Numbered as they are come upon. -/
structure Order (n L : Nat) (tr : Nat → Nat → Int) : Prop where
  d1 : ∀ p b q : Nat, p < n → b < L → 0 < q → (q : Int) ≤ tr p b → ∃ p' b' : Nat, b' < L ∧ (p' < p ∨ (p' = p ∧ b' ≤ b)) ∧ tr p' b' = (q : Int)
  d2 : ∀ q : Nat, 0 < q → q < n → ∃ p b : Nat, p < q ∧ b < L ∧ tr p b = (q : Int)
/-- Whatever is led to is alive. -/
def Lively (n L : Nat) (mk : Nat → Nat) (tr : Nat → Nat → Int) : Prop := ∀ p b, p < n → b < L → tr p b ≠ -1 → ∃ z, lets L z ∧ obsA mk tr (tr p b).toNat z ≠ 0
/-- Each state is told from each other. -/
def Apart (n L : Nat) (mk : Nat → Nat) (tr : Nat → Nat → Int) : Prop := ∀ p q, p < n → q < n → p ≠ q → ∃ z, lets L z ∧ obsA mk tr p z ≠ obsA mk tr q z
structure Canon (n L : Nat) (mk : Nat → Nat) (tr : Nat → Nat → Int) : Prop where
  au : Auto n L tr
  od : Order n L tr
  li : Lively n L mk tr
  ap : Apart n L mk tr

theorem runA_lt {n L : Nat} {tr : Nat → Nat → Int} (h : Auto n L tr) : ∀ (w : List Nat) (p q : Nat), p < n → lets L w → runA tr p w = some q → q < n
  | [], p, q, hp, _, hr => by rw [runA] at hr; injection hr with hr; omega
  | b :: w, p, q, hp, hl, hr => by
    rw [runA] at hr
    by_cases e : tr p b = -1
    · rw [if_pos e] at hr; cases hr
    · rw [if_neg e] at hr
      rcases h.rng p b hp (hl b List.mem_cons_self) with h1 | h1
      · exact absurd h1 e
      · exact runA_lt h w _ q (by omega) (fun c hc => hl c (List.mem_cons_of_mem _ hc)) hr

/-- The same text leads there in both. -/
def Pair (L : Nat) (t1 t2 : Nat → Nat → Int) (p q : Nat) : Prop := ∃ u, lets L u ∧ runA t1 0 u = some p ∧ runA t2 0 u = some q

section
variable {n1 n2 L : Nat} {m1 m2 : Nat → Nat} {t1 t2 : Nat → Nat → Int}
theorem Pair.swap {p q : Nat} (h : Pair L t1 t2 p q) : Pair L t2 t1 q p := by obtain ⟨u, h1, h2, h3⟩ := h; exact ⟨u, h1, h3, h2⟩
theorem Pair.obs (hs : ∀ w, lets L w → obsA m1 t1 0 w = obsA m2 t2 0 w) {p q : Nat} (h : Pair L t1 t2 p q) (z : List Nat) (hz : lets L z) : obsA m1 t1 p z = obsA m2 t2 q z := by
  obtain ⟨u, h1, h2, h3⟩ := h
  rw [← obsA_app h2, ← obsA_app h3]
  exact hs _ (lets_app h1 hz)
theorem Pair.right (hs : ∀ w, lets L w → obsA m1 t1 0 w = obsA m2 t2 0 w) (h2 : Auto n2 L t2) (a2 : Apart n2 L m2 t2) {p q q' : Nat} (h : Pair L t1 t2 p q) (k : Pair L t1 t2 p q') : q = q' := by
  by_cases e : q = q'
  · exact e
  · obtain ⟨u, u1, u2, u3⟩ := h
    obtain ⟨v, v1, v2, v3⟩ := k
    have hq := runA_lt h2 u 0 q h2.pos u1 u3
    have hq' := runA_lt h2 v 0 q' h2.pos v1 v3
    obtain ⟨z, hz, hne⟩ := a2 q q' hq hq' e
    exact absurd ((Pair.obs hs ⟨u, u1, u2, u3⟩ z hz).symm.trans (Pair.obs hs ⟨v, v1, v2, v3⟩ z hz)) hne
theorem Pair.left (hs : ∀ w, lets L w → obsA m1 t1 0 w = obsA m2 t2 0 w) (h1 : Auto n1 L t1) (a1 : Apart n1 L m1 t1) {p p' q : Nat} (h : Pair L t1 t2 p q) (k : Pair L t1 t2 p' q) : p = p' :=
  Pair.right (fun w hw => (hs w hw).symm) h1 a1 h.swap k.swap
theorem Pair.step (hs : ∀ w, lets L w → obsA m1 t1 0 w = obsA m2 t2 0 w) (h1 : Auto n1 L t1) (l1 : Lively n1 L m1 t1) {p q b : Nat} (h : Pair L t1 t2 p q) (hb : b < L) (ht : t1 p b ≠ -1) :
    t2 q b ≠ -1 ∧ Pair L t1 t2 (t1 p b).toNat (t2 q b).toNat := by
  obtain ⟨u, u1, u2, u3⟩ := h
  have hp := runA_lt h1 u 0 p h1.pos u1 u2
  obtain ⟨z, hz, hne⟩ := l1 p b hp hb ht
  have hobs := Pair.obs hs ⟨u, u1, u2, u3⟩ (b :: z) (lets_cons hb hz)
  rw [obsA_cons ht] at hobs
  have h2 : t2 q b ≠ -1 := fun e => by rw [obsA_none e] at hobs; exact hne hobs
  refine ⟨h2, u ++ [b], lets_app u1 (lets_one hb), ?_, ?_⟩
  · rw [runA_snoc u2, if_neg ht]
  · rw [runA_snoc u3, if_neg h2]

theorem lex_min (P : Nat → Nat → Prop) : ∀ (p b : Nat), P p b → ∃ p' b', P p' b' ∧ (p' < p ∨ (p' = p ∧ b' ≤ b)) ∧ ∀ x y, (x < p' ∨ (x = p' ∧ y < b')) → ¬ P x y := by
  have hb : ∀ (q : Nat), (∀ x y, x < q → ¬ P x y) → ∀ b, P q b → ∃ b', P q b' ∧ b' ≤ b ∧ ∀ y, y < b' → ¬ P q y := by
    intro q _ b
    induction b using Nat.strongRecOn with
    | ind b ih =>
      intro h
      by_cases e : ∃ y, y < b ∧ P q y
      · obtain ⟨y, hy, hp⟩ := e
        obtain ⟨b', h1, h2, h3⟩ := ih y hy hp
        exact ⟨b', h1, by omega, h3⟩
      · exact ⟨b, h, Nat.le_refl _, fun y hy hp => e ⟨y, hy, hp⟩⟩
  intro p
  induction p using Nat.strongRecOn with
  | ind p ih =>
    intro b h
    by_cases e : ∃ x y, x < p ∧ P x y
    · obtain ⟨x, y, hx, hp⟩ := e
      obtain ⟨p', b', h1, h2, h3⟩ := ih x hx y hp
      exact ⟨p', b', h1, .inl (by omega), h3⟩
    · obtain ⟨b', h1, h2, h3⟩ := hb p (fun x y hx hp => e ⟨x, y, hx, hp⟩) b h
      refine ⟨p, b', h1, .inr ⟨rfl, h2⟩, fun x y hxy hp => ?_⟩
      rcases hxy with hx | ⟨rfl, hy⟩
      · exact e ⟨x, y, hx, hp⟩
      · exact h3 y hy hp

theorem pair_self (c1 : Canon n1 L m1 t1) (c2 : Canon n2 L m2 t2) (hs : ∀ w, lets L w → obsA m1 t1 0 w = obsA m2 t2 0 w) : ∀ p, p < n1 → Pair L t1 t2 p p := by
  intro p
  induction p using Nat.strongRecOn with
  | ind p ih =>
    intro hp
    by_cases h0 : p = 0
    · subst h0; exact ⟨[], lets_nil L, rfl, rfl⟩
    · obtain ⟨x, y, hx, hy, hxy⟩ := c1.od.d2 p (by omega) hp
      obtain ⟨p1, b, ⟨hbL, hp1⟩, hle, hmin⟩ := lex_min (fun x y => y < L ∧ t1 x y = (p : Int)) x y ⟨hy, hxy⟩
      have hp1p : p1 < p := by omega
      have r1 := ih p1 hp1p (by omega)
      have ht1 : t1 p1 b ≠ -1 := by rw [hp1]; omega
      obtain ⟨ht2, hpair⟩ := Pair.step hs c1.au c1.li r1 hbL ht1
      rw [hp1] at hpair
      simp only [Int.toNat_natCast] at hpair
      have hlt2 : p1 < n2 := by obtain ⟨u, u1, u2, u3⟩ := r1; exact runA_lt c2.au u 0 p1 c2.au.pos u1 u3
      have hr2 := c2.au.rng p1 b hlt2 hbL
      generalize hq : (t2 p1 b).toNat = q at hpair
      have hqI : t2 p1 b = (q : Int) := by rcases hr2 with h | h <;> omega
      rcases Nat.lt_trichotomy q p with hqp | hqp | hqp
      · have := Pair.left hs c1.au c1.ap hpair (ih q hqp (by omega))
        omega
      · subst hqp; exact hpair
      · obtain ⟨p2, b2, hb2, hle2, hp2⟩ := c2.od.d1 p1 b p hlt2 hbL (by omega) (by omega)
        have hne : ¬ (p2 = p1 ∧ b2 = b) := by rintro ⟨rfl, rfl⟩; omega
        have hp2p : p2 < p := by omega
        have r2 := ih p2 hp2p (by omega)
        have ht3 : t2 p2 b2 ≠ -1 := by rw [hp2]; omega
        obtain ⟨ht4, hpair2⟩ := Pair.step (fun w hw => (hs w hw).symm) c2.au c2.li r2.swap hb2 ht3
        rw [hp2] at hpair2
        simp only [Int.toNat_natCast] at hpair2
        have hr4 := c1.au.rng p2 b2 (by omega) hb2
        generalize hq3 : (t1 p2 b2).toNat = p3 at hpair2
        have hqI3 : t1 p2 b2 = (p3 : Int) := by rcases hr4 with h | h <;> omega
        rcases Nat.lt_trichotomy p3 p with h3 | h3 | h3
        · have := Pair.left (fun w hw => (hs w hw).symm) c2.au c2.ap hpair2 (ih p3 h3 (by omega)).swap
          omega
        · subst h3
          exact absurd ⟨hb2, hqI3⟩ (hmin p2 b2 (by omega))
        · obtain ⟨p4, b4, hb4, hle4, hp4⟩ := c1.od.d1 p2 b2 p (by omega) hb2 (by omega) (by omega)
          exact absurd ⟨hb4, hp4⟩ (hmin p4 b4 (by omega))

/-- THE ONLY ONE. -/
theorem canon_unique (c1 : Canon n1 L m1 t1) (c2 : Canon n2 L m2 t2) (hs : ∀ w, lets L w → obsA m1 t1 0 w = obsA m2 t2 0 w) :
    n1 = n2 ∧ (∀ p, p < n1 → m1 p = m2 p) ∧ ∀ p b, p < n1 → b < L → t1 p b = t2 p b := by
  have h12 := pair_self c1 c2 hs
  have h21 := pair_self c2 c1 (fun w hw => (hs w hw).symm)
  have hlt : ∀ p, p < n1 → p < n2 := fun p hp => by obtain ⟨u, u1, _, u3⟩ := h12 p hp; exact runA_lt c2.au u 0 p c2.au.pos u1 u3
  have hgt : ∀ p, p < n2 → p < n1 := fun p hp => by obtain ⟨u, u1, _, u3⟩ := h21 p hp; exact runA_lt c1.au u 0 p c1.au.pos u1 u3
  have hn : n1 = n2 := by
    have := c1.au.pos
    have := c2.au.pos
    have a := hlt (n1 - 1) (by omega)
    have b := hgt (n2 - 1) (by omega)
    omega
  refine ⟨hn, fun p hp => Pair.obs hs (h12 p hp) [] (lets_nil L), fun p b hp hb => ?_⟩
  by_cases e : t1 p b = -1
  · by_cases e2 : t2 p b = -1
    · rw [e, e2]
    · exact absurd e (Pair.step (fun w hw => (hs w hw).symm) c2.au c2.li (h12 p hp).swap hb e2).1
  · obtain ⟨e2, hp2⟩ := Pair.step hs c1.au c1.li (h12 p hp) hb e
    have hr1 := c1.au.rng p b hp hb
    have hr2 := c2.au.rng p b (by omega) hb
    have := Pair.right hs c2.au c2.ap hp2 (h12 (t1 p b).toNat (by rcases hr1 with h | h <;> omega))
    rcases hr1 with h | h <;> rcases hr2 with k | k <;> omega
end
end Go.Stn

/- Plain mathematics: merge's rounds end at the parts that no text tells apart. -/
namespace Go.Stn

theorem firstP_none {q : Nat → Nat → Bool} {l : List Nat} {s : Nat} : ∀ d, d ≤ l.length → firstP q l s d = l.length → ∀ f, l.length - d ≤ f → f < l.length → q (l.getD f 0) s = false := by
  intro d
  induction d with
  | zero => intro _ _ f h1 h2; omega
  | succ k ih =>
    intro hd h f h1 h2
    rw [firstP] at h
    by_cases hq : q (l.getD (l.length - (k + 1)) 0) s = true
    · rw [if_pos hq] at h; omega
    · rw [if_neg hq] at h
      by_cases e : f = l.length - (k + 1)
      · rw [e]; simpa using hq
      · exact ih (by omega) h f (by omega) h2

/-- The states below s are parted, each behind its first; no two firsts are alike. -/
structure PJ (q : Nat → Nat → Bool) (s : Nat) (fin firsts : List Nat) : Prop where
  pi : PI q s fin firsts
  le : ∀ x, x < s → firsts.getD (fin.getD x 0) 0 ≤ x
  mono : ∀ f f', f < f' → f' < firsts.length → firsts.getD f 0 < firsts.getD f' 0
  no : ∀ f f', f < f' → f' < firsts.length → q (firsts.getD f 0) (firsts.getD f' 0) = false
  zero : 0 < s → 0 < firsts.length ∧ firsts.getD 0 0 = 0

theorem partL_PJ {q : Nat → Nat → Bool} : ∀ d s fin firsts, PJ q s fin firsts → (partL q d s fin firsts).2.length ≤ 100 → PJ q (s + d) (partL q d s fin firsts).1 (partL q d s fin firsts).2 := by
  intro d
  induction d with
  | zero => intro s fin firsts h _; exact h
  | succ k ih =>
    intro s fin firsts h hl
    have hpi := partL_inv (q := q) 1 s fin firsts h.pi
    rw [partL] at hl ⊢
    have hlen := h.pi.len
    by_cases hf : firstP q firsts s firsts.length = firsts.length
    · rw [if_pos hf] at hl ⊢
      have hno := firstP_none (q := q) (l := firsts) (s := s) firsts.length (Nat.le_refl _) hf
      by_cases h100 : 100 < firsts.length + 1
      · rw [if_pos h100] at hl; simp at hl; omega
      · rw [if_neg h100] at hl ⊢
        rw [show s + (k + 1) = s + 1 + k by omega]
        have hpi' : PI q (s + 1) (fin ++ [firsts.length]) (firsts ++ [s]) := by
          have := hpi (by rw [partL, if_pos hf, if_neg h100, partL]; simp; omega)
          rw [partL, if_pos hf, if_neg h100, partL] at this
          exact this
        refine ih (s + 1) _ _ ⟨hpi', fun x hx => ?_, fun f f' hff hf' => ?_, fun f f' hff hf' => ?_, fun _ => ?_⟩ hl
        · by_cases e : x = s
          · subst e
            rw [show (fin ++ [firsts.length]).getD x 0 = firsts.length by have := @getD_app_end fin firsts.length; rw [hlen] at this; exact this, getD_app_end]
            exact Nat.le_refl _
          · have hx' : x < s := by omega
            rw [getD_app_lt (l := fin) (by rw [hlen]; exact hx'), getD_app_lt (h.pi.cl x hx').1]
            exact h.le x hx'
        · simp at hf'
          by_cases e : f' = firsts.length
          · subst e
            rw [getD_app_end, getD_app_lt hff]
            exact (h.pi.rep f hff).1
          · rw [getD_app_lt (by omega), getD_app_lt (by omega)]
            exact h.mono f f' hff (by omega)
        · simp at hf'
          by_cases e : f' = firsts.length
          · subst e
            rw [getD_app_end, getD_app_lt hff]
            exact hno f (by omega) hff
          · rw [getD_app_lt (by omega), getD_app_lt (by omega)]
            exact h.no f f' hff (by omega)
        · refine ⟨by simp, ?_⟩
          by_cases e : s = 0
          · subst e
            have : firsts = [] := by
              cases firsts with
              | nil => rfl
              | cons a r => have := (h.pi.rep 0 (by simp)).1; omega
            rw [this]; rfl
          · have := h.zero (by omega)
            rw [getD_app_lt this.1]; exact this.2
    · rw [if_neg hf] at hl ⊢
      rw [show s + (k + 1) = s + 1 + k by omega]
      have hlt : firstP q firsts s firsts.length < firsts.length := by have := firstP_le q firsts s firsts.length; omega
      have hpi' : PI q (s + 1) (fin ++ [firstP q firsts s firsts.length]) firsts := by
        have := partL_len q k (s + 1) (fin ++ [firstP q firsts s firsts.length]) firsts
        have hle : firsts.length ≤ 100 := by
          have hg : ∀ d s fin firsts, firsts.length ≤ (partL q d s fin firsts).2.length := by
            intro d
            induction d with
            | zero => intro s fin firsts; exact Nat.le_refl _
            | succ j ihj =>
              intro s fin firsts
              rw [partL]
              split
              · split
                · simp
                · have := ihj (s + 1) (fin ++ [firsts.length]) (firsts ++ [s]); simp at this; omega
              · exact ihj _ _ _
          have := hg k (s + 1) (fin ++ [firstP q firsts s firsts.length]) firsts
          omega
        have := hpi (by rw [partL, if_neg hf, partL]; exact hle)
        rw [partL, if_neg hf, partL] at this
        exact this
      refine ih (s + 1) _ _ ⟨hpi', fun x hx => ?_, h.mono, h.no, fun _ => ?_⟩ hl
      · by_cases e : x = s
        · subst e
          rw [show (fin ++ [firstP q firsts x firsts.length]).getD x 0 = firstP q firsts x firsts.length by have := @getD_app_end fin (firstP q firsts x firsts.length); rw [hlen] at this; exact this]
          exact Nat.le_of_lt (h.pi.rep _ hlt).1
        · have hx' : x < s := by omega
          rw [getD_app_lt (by rw [hlen]; exact hx')]
          exact h.le x hx'
      · have : 0 < s := by have := (h.pi.rep _ hlt).1; omega
        exact h.zero this

theorem partP_PJ {n : Nat} {q : Nat → Nat → Bool} (h : (partP n q).2.length ≤ 100) : PJ q n (partP n q).1 (partP n q).2 := by
  have := partL_PJ (q := q) n 0 [] [] ⟨⟨rfl, fun x hx => by omega, fun f hf => by simp at hf⟩, fun x hx => by omega, fun f f' _ hf => by simp at hf, fun f f' _ hf => by simp at hf, fun h => by omega⟩ h
  rw [Nat.zero_add] at this
  exact this

/-- Where being alike is an equivalence, the parts are its classes. -/
theorem PJ.part {q : Nat → Nat → Bool} {s : Nat} {fin firsts : List Nat} (h : PJ q s fin firsts) (hr : ∀ x, q x x = true) (hs : ∀ x y, q x y = true → q y x = true) (ht : ∀ x y z, q x y = true → q y z = true → q x z = true) {x y : Nat} (hx : x < s) (hy : y < s) :
    fin.getD x 0 = fin.getD y 0 ↔ q x y = true := by
  have cx : q (firsts.getD (fin.getD x 0) 0) x = true := by
    rcases (h.pi.cl x hx).2 with e | e
    · rw [e]; exact hr x
    · exact e
  have cy : q (firsts.getD (fin.getD y 0) 0) y = true := by
    rcases (h.pi.cl y hy).2 with e | e
    · rw [e]; exact hr y
    · exact e
  constructor
  · intro e
    rw [e] at cx
    exact ht _ _ _ (hs _ _ cx) cy
  · intro e
    have hxy := ht _ _ _ (ht _ _ _ cx e) (hs _ _ cy)
    rcases Nat.lt_trichotomy (fin.getD x 0) (fin.getD y 0) with hl | hl | hl
    · have := h.no _ _ hl (h.pi.cl y hy).1; rw [hxy] at this; cases this
    · exact hl
    · have := h.no _ _ hl (h.pi.cl x hx).1
      rw [hs _ _ hxy] at this; cases this

/-- Not told apart in so many rounds. -/
def Eqv (tk : Nat → Nat) (nx : Nat → Nat → Int) (K : Nat) : Nat → Nat → Nat → Prop
  | 0, _, _ => True
  | r + 1, s, t => Eqv tk nx K r s t ∧ tk s = tk t ∧ ∀ g, g < K → (nx s g = -1 ↔ nx t g = -1) ∧ (nx s g ≠ -1 → Eqv tk nx K r (nx s g).toNat (nx t g).toNat)

section
variable {tk : Nat → Nat} {nx : Nat → Nat → Int} {K : Nat}
theorem Eqv.refl : ∀ (r s : Nat), Eqv tk nx K r s s
  | 0, _ => trivial
  | r + 1, s => ⟨Eqv.refl r s, rfl, fun _ _ => ⟨Iff.rfl, fun _ => Eqv.refl r _⟩⟩
theorem Eqv.symm : ∀ {r s t : Nat}, Eqv tk nx K r s t → Eqv tk nx K r t s
  | 0, _, _, _ => trivial
  | _ + 1, _, _, h => ⟨Eqv.symm h.1, h.2.1.symm, fun g hg => ⟨(h.2.2 g hg).1.symm, fun e => Eqv.symm ((h.2.2 g hg).2 (fun e2 => e ((h.2.2 g hg).1.1 e2)))⟩⟩
theorem Eqv.trans : ∀ {r s t u : Nat}, Eqv tk nx K r s t → Eqv tk nx K r t u → Eqv tk nx K r s u
  | 0, _, _, _, _, _ => trivial
  | _ + 1, _, _, _, h, k => ⟨Eqv.trans h.1 k.1, h.2.1.trans k.2.1, fun g hg => ⟨(h.2.2 g hg).1.trans (k.2.2 g hg).1, fun e => Eqv.trans ((h.2.2 g hg).2 e) ((k.2.2 g hg).2 (fun e2 => e ((h.2.2 g hg).1.2 e2)))⟩⟩
theorem Eqv.less : ∀ {r r' s t : Nat}, r' ≤ r → Eqv tk nx K r s t → Eqv tk nx K r' s t := by
  intro r
  induction r with
  | zero => intro r' s t h _; have : r' = 0 := by omega
            subst this; trivial
  | succ k ih =>
    intro r' s t h hE
    by_cases e : r' = k + 1
    · subst e; exact hE
    · exact ih (by omega) hE.1

/-- The parts that a round makes, by those of the last. -/
theorem alikeB_eq {n : Nat} (hrng : ∀ s g, s < n → g < K → nx s g = -1 ∨ (0 ≤ nx s g ∧ nx s g < (n : Int))) {parts : List Nat} {r : Nat} (hp : ∀ s t, s < n → t < n → (parts.getD s 0 = parts.getD t 0 ↔ Eqv tk nx K r s t)) {s t : Nat} (hs : s < n) (ht : t < n) :
    alikeB (listF parts) tk nx K s t = true ↔ Eqv tk nx K (r + 1) s t := by
  have hprt : ∀ g, g < K → (prtP (listF parts) (nx s g) = prtP (listF parts) (nx t g) ↔ ((nx s g = -1 ↔ nx t g = -1) ∧ (nx s g ≠ -1 → Eqv tk nx K r (nx s g).toNat (nx t g).toNat))) := fun g hg => by
    unfold prtP listF
    by_cases e1 : nx s g = -1 <;> by_cases e2 : nx t g = -1
    · rw [if_pos e1, if_pos e2]; simp [e1, e2]
    · rw [if_pos e1, if_neg e2]; simp only [e1, e2]
      constructor
      · intro h; omega
      · intro h; exact absurd (h.1.1 trivial) id
    · rw [if_neg e1, if_pos e2]; simp only [e1, e2]
      constructor
      · intro h; omega
      · intro h; exact absurd (h.1.2 trivial) id
    · rw [if_neg e1, if_neg e2]
      have r1 := hrng s g hs hg
      have r2 := hrng t g ht hg
      have := hp (nx s g).toNat (nx t g).toNat (by omega) (by omega)
      constructor
      · intro h
        exact ⟨by simp [e1, e2], fun _ => this.1 (by omega)⟩
      · intro h
        have := this.2 (h.2 e1)
        omega
  unfold alikeB ledB
  simp only [Bool.and_eq_true, decide_eq_true_eq]
  rw [show listF parts s = ((parts.getD s 0 : Nat) : Int) from rfl, show listF parts t = ((parts.getD t 0 : Nat) : Int) from rfl]
  constructor
  · rintro ⟨h1, h2, h3⟩
    exact ⟨(hp s t hs ht).1 (by omega), h2, fun g hg => (hprt g hg).1 (h3 g hg)⟩
  · rintro ⟨h1, h2, h3⟩
    exact ⟨by have := (hp s t hs ht).2 h1; omega, h2, fun g hg => (hprt g hg).2 (h3 g hg)⟩
end

/-- A map of so many onto as many is one to one. -/
theorem onto_inj (k : Nat) (g : Nat → Nat) (hon : ∀ y, y < k → ∃ x, x < k ∧ g x = y) (_hg : ∀ x, x < k → g x < k) : ∀ i j, i < k → j < k → g i = g j → i = j := by
  intro i j hi hj he
  by_cases e : i = j
  · exact e
  · exfalso
    have hsec : ∃ h : Nat → Nat, ∀ y, y < k → h y < k ∧ g (h y) = y := ⟨fun y => if hy : y < k then Classical.choose (hon y hy) else 0, fun y hy => by simp only [dif_pos hy]; exact Classical.choose_spec (hon y hy)⟩
    obtain ⟨h, hh⟩ := hsec
    obtain ⟨y0, hy0, hmiss⟩ : ∃ y0, y0 < k ∧ ∀ y, y < k → h y ≠ y0 := by
      by_cases e1 : h (g i) = i
      · refine ⟨j, hj, fun y hy e2 => ?_⟩
        have e3 : y = g i := by rw [← (hh y hy).2, e2, he]
        rw [e3, e1] at e2
        exact e e2
      · refine ⟨i, hi, fun y hy e2 => ?_⟩
        have e3 : y = g i := by rw [← (hh y hy).2, e2]
        rw [e3] at e2
        exact e1 e2
    have := pigeon (k - 1) k (fun y => if h y < y0 then h y else h y - 1) (fun y hy => by
      have h1 := (hh y hy).1
      have h2 := hmiss y hy
      by_cases c : h y < y0
      · simp only [if_pos c]; omega
      · simp only [if_neg c]; omega) (fun a b ha hb hab => by
      have a1 := hmiss a ha
      have b1 := hmiss b hb
      have hab' : h a = h b := by
        by_cases c1 : h a < y0 <;> by_cases c2 : h b < y0
        · simp only [if_pos c1, if_pos c2] at hab; exact hab
        · simp only [if_pos c1, if_neg c2] at hab; omega
        · simp only [if_neg c1, if_pos c2] at hab; omega
        · simp only [if_neg c1, if_neg c2] at hab; omega
      rw [← (hh a ha).2, ← (hh b hb).2, hab'])
    omega

/-- What merge comes to. -/
structure Merged (n : Nat) (tk : Nat → Nat) (nx : Nat → Nat → Int) (K : Nat) (fin firsts : List Nat) (r : Nat) : Prop where
  pj : ∃ q, PJ q n fin firsts
  few : firsts.length ≤ 100
  rd : r ≤ firsts.length
  cls : ∀ s t, s < n → t < n → (fin.getD s 0 = fin.getD t 0 ↔ Eqv tk nx K r s t)
  stb : ∀ s t, s < n → t < n → Eqv tk nx K r s t → Eqv tk nx K (r + 1) s t

/-- So many states that no two are alike. -/
def Many (n : Nat) (tk : Nat → Nat) (nx : Nat → Nat → Int) (K : Nat) : Prop := ∃ (f : Nat → Nat) (r : Nat), (∀ i, i < 101 → f i < n) ∧ ∀ i j, i < 101 → j < 101 → i ≠ j → ¬ Eqv tk nx K r (f i) (f j)

theorem alikeB_refl (pt : Nat → Int) (tk : Nat → Nat) (nx : Nat → Nat → Int) (K x : Nat) : alikeB pt tk nx K x x = true := by
  unfold alikeB ledB; simp
theorem alikeB_symm {pt : Nat → Int} {tk : Nat → Nat} {nx : Nat → Nat → Int} {K x y : Nat} (h : alikeB pt tk nx K x y = true) : alikeB pt tk nx K y x = true := by
  unfold alikeB ledB at *
  simp only [Bool.and_eq_true, decide_eq_true_eq] at *
  exact ⟨h.1.symm, h.2.1.symm, fun g hg => (h.2.2 g hg).symm⟩
theorem alikeB_trans {pt : Nat → Int} {tk : Nat → Nat} {nx : Nat → Nat → Int} {K x y z : Nat} (h : alikeB pt tk nx K x y = true) (k : alikeB pt tk nx K y z = true) : alikeB pt tk nx K x z = true := by
  unfold alikeB ledB at *
  simp only [Bool.and_eq_true, decide_eq_true_eq] at *
  exact ⟨h.1.trans k.1, h.2.1.trans k.2.1, fun g hg => (h.2.2 g hg).trans (k.2.2 g hg)⟩

/-- Where parting stops for too many: the firsts, no two alike. -/
theorem partL_many {q : Nat → Nat → Bool} : ∀ d s fin firsts, PJ q s fin firsts → firsts.length ≤ 100 → 100 < (partL q d s fin firsts).2.length →
    ∃ f : Nat → Nat, (∀ i, i < 101 → f i < s + d) ∧ ∀ i j, i < j → j < 101 → q (f i) (f j) = false := by
  intro d
  induction d with
  | zero => intro s fin firsts _ h1 h2; rw [partL] at h2; simp only at h2; omega
  | succ k ih =>
    intro s fin firsts h hle hl
    by_cases hf : firstP q firsts s firsts.length = firsts.length
    · have hno := firstP_none (q := q) (l := firsts) (s := s) firsts.length (Nat.le_refl _) hf
      by_cases h100 : 100 < firsts.length + 1
      · have e : firsts.length = 100 := by omega
        refine ⟨fun i => if i < 100 then firsts.getD i 0 else s, fun i hi => ?_, fun i j hij hj => ?_⟩
        · simp only
          split
          · have := (h.pi.rep i (by omega)).1; omega
          · omega
        · simp only [if_pos (show i < 100 by omega)]
          split
          · exact h.no i j hij (by omega)
          · exact hno i (by omega) (by omega)
      · have hj := partL_PJ 1 s fin firsts h (by rw [partL, if_pos hf, if_neg h100, partL]; simp; omega)
        rw [partL, if_pos hf, if_neg h100, partL] at hj
        rw [partL, if_pos hf, if_neg h100] at hl
        obtain ⟨f, h1, h2⟩ := ih (s + 1) _ _ hj (by simp; omega) hl
        exact ⟨f, fun i hi => by have := h1 i hi; omega, h2⟩
    · have hj := partL_PJ 1 s fin firsts h (by rw [partL, if_neg hf, partL]; exact hle)
      rw [partL, if_neg hf, partL] at hj
      rw [partL, if_neg hf] at hl
      obtain ⟨f, h1, h2⟩ := ih (s + 1) _ _ hj hle hl
      exact ⟨f, fun i hi => by have := h1 i hi; omega, h2⟩

theorem mergeL_out {n : Nat} {tk : Nat → Nat} {nx : Nat → Nat → Int} {K : Nat} (hn : 0 < n) (hrng : ∀ s g, s < n → g < K → nx s g = -1 ∨ (0 ≤ nx s g ∧ nx s g < (n : Int))) : ∀ (f : Nat) (parts : List Nat) (count r : Nat),
    (∀ s t, s < n → t < n → (parts.getD s 0 = parts.getD t 0 ↔ Eqv tk nx K r s t)) → r ≤ count → count ≤ 100 → 101 ≤ f + count → (count = 0 → r = 0) → (0 < count → okParts n parts count ∧ ∀ s, s < n → parts.getD s 0 < count) →
    (∀ x, mergeL n tk nx K f parts count = some x → ∃ r', Merged n tk nx K x.1 x.2 r') ∧ (mergeL n tk nx K f parts count = none → Many n tk nx K) := by
  intro f
  induction f with
  | zero => intro parts count r _ _ h1 h2; omega
  | succ k ih =>
    intro parts count r hp hr hc hf h0 hok
    rw [mergeL]
    have hq : ∀ s t, s < n → t < n → (alikeB (listF parts) tk nx K s t = true ↔ Eqv tk nx K (r + 1) s t) := fun s t hs ht => alikeB_eq hrng hp hs ht
    by_cases h100 : 100 < (partP n (alikeB (listF parts) tk nx K)).2.length
    · rw [if_pos h100]
      refine ⟨fun x hx => (by cases hx), fun _ => ?_⟩
      obtain ⟨g, g1, g2⟩ := partL_many (q := alikeB (listF parts) tk nx K) n 0 [] [] ⟨⟨rfl, fun x hx => by omega, fun f hf => by simp at hf⟩, fun x hx => by omega, fun f f' _ hf => by simp at hf, fun f f' _ hf => by simp at hf, fun h => by omega⟩ (by simp) h100
      refine ⟨g, r + 1, fun i hi => by have := g1 i hi; omega, fun i j hi hj hij he => ?_⟩
      have gi : g i < n := by have := g1 i hi; omega
      have gj : g j < n := by have := g1 j hj; omega
      rcases Nat.lt_or_gt_of_ne hij with hlt | hlt
      · have := g2 i j hlt hj
        rw [(hq _ _ gi gj).2 he] at this; cases this
      · have := g2 j i hlt hi
        rw [(hq _ _ gj gi).2 he.symm] at this; cases this
    · rw [if_neg h100]
      have hpj := partP_PJ (n := n) (q := alikeB (listF parts) tk nx K) (by omega)
      have hpart : ∀ s t, s < n → t < n → ((partP n (alikeB (listF parts) tk nx K)).1.getD s 0 = (partP n (alikeB (listF parts) tk nx K)).1.getD t 0 ↔ Eqv tk nx K (r + 1) s t) := fun s t hs ht =>
        (hpj.part (alikeB_refl _ _ _ _) (fun _ _ h => alikeB_symm h) (fun _ _ _ h k => alikeB_trans h k) hs ht).trans (hq s t hs ht)
      have hpos : 0 < (partP n (alikeB (listF parts) tk nx K)).2.length := (hpj.zero hn).1
      have hcl := fun s (hs : s < n) => (hpj.pi.cl s hs).1
      generalize hP : partP n (alikeB (listF parts) tk nx K) = P at *
      by_cases he : P.2.length = count
      · rw [if_pos he]
        refine ⟨fun x hx => ?_, fun h => (by cases h)⟩
        injection hx with hx
        subst hx
        obtain ⟨ho, hlt⟩ := hok (by omega)
        have hfirst : ∀ s, s < n → parts.getD (P.2.getD (P.1.getD s 0) 0) 0 = parts.getD s 0 := fun s hs => by
          rcases (hpj.pi.cl s hs).2 with e | e
          · rw [e]
          · have := alikeB_part e; exact this
        have hinj := onto_inj count (fun f => parts.getD (P.2.getD f 0) 0) (fun y hy => by
            obtain ⟨s, hs, e⟩ := ho.2 y hy
            refine ⟨P.1.getD s 0, by rw [← he]; exact hcl s hs, ?_⟩
            rw [hfirst s hs, e]) (fun f hf => hlt _ (hpj.pi.rep f (by omega)).1)
        have hstb : ∀ s t, s < n → t < n → Eqv tk nx K r s t → Eqv tk nx K (r + 1) s t := fun s t hs ht hE => by
          refine (hpart s t hs ht).1 (hinj _ _ (by rw [← he]; exact hcl s hs) (by rw [← he]; exact hcl t ht) ?_)
          rw [hfirst s hs, hfirst t ht]
          exact (hp s t hs ht).2 hE
        exact ⟨r, ⟨_, hpj⟩, by omega, by omega, fun s t hs ht => ⟨fun h => ((hpart s t hs ht).1 h).1, fun h => (hpart s t hs ht).2 (hstb s t hs ht h)⟩, hstb⟩
      · rw [if_neg he]
        have hgrow : count ≤ P.2.length := by
          by_cases c0 : count = 0
          · omega
          · have := parts_grow (hok (by omega)).1 (fun s t h => alikeB_part (tk := tk) (nx := nx) (K := K) h) (by rw [hP]; omega)
            rw [hP] at this; exact this
        refine ih P.1 P.2.length (r + 1) hpart (by omega) (by omega) (by omega) (fun h => by omega) (fun _ => ⟨?_, hcl⟩)
        have := okParts_next (n := n) (q := alikeB (listF parts) tk nx K) (by rw [hP]; omega)
        rw [hP] at this; exact this

theorem mergeL_start {n : Nat} {tk : Nat → Nat} {nx : Nat → Nat → Int} {K : Nat} (hn : 0 < n) (hrng : ∀ s g, s < n → g < K → nx s g = -1 ∨ (0 ≤ nx s g ∧ nx s g < (n : Int))) :
    (∀ x, mergeL n tk nx K 102 (List.replicate n 0) 0 = some x → ∃ r', Merged n tk nx K x.1 x.2 r') ∧ (mergeL n tk nx K 102 (List.replicate n 0) 0 = none → Many n tk nx K) :=
  mergeL_out hn hrng 102 (List.replicate n 0) 0 0 (fun s t hs ht => by simp [Eqv, List.getD_eq_getElem?_getD, hs, ht]) (Nat.le_refl _) (by omega) (by omega) (fun _ => rfl) (fun h => by omega)
end Go.Stn

