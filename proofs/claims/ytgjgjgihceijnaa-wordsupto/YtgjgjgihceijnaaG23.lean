/- Texts put together: RxPure, AuLink. -/
import Derived.Test.YtgjgjgihceijnaaG01
import Derived.Test.YtgjgjgihceijnaaG22
namespace Go.Stn
/-- An expression. -/
inductive Rx where
  | pl (f : Nat → Bool)
  | cat (a b : Rx)
  | alt (a b : Rx)
  | opt (a : Rx)
  | plus (a : Rx)
  | star (a : Rx)

/-- One word or more, one behind the other. -/
inductive Plus (L : List Nat → Prop) : List Nat → Prop where
  | one {w : List Nat} : L w → Plus L w
  | more {u v : List Nat} : L u → Plus L v → Plus L (u ++ v)

/-- The words of an expression. -/
def W : Rx → List Nat → Prop
  | .pl f, w => ∃ b, w = [b] ∧ b < 256 ∧ f b = true
  | .cat a b, w => ∃ u v, w = u ++ v ∧ W a u ∧ W b v
  | .alt a b, w => W a w ∨ W b w
  | .opt a, w => w = [] ∨ W a w
  | .plus a, w => Plus (W a) w
  | .star a, w => w = [] ∨ Plus (W a) w

def Rx.np : Rx → Nat
  | .pl _ => 1
  | .cat a b => a.np + b.np
  | .alt a b => a.np + b.np
  | .opt a => a.np
  | .plus a => a.np
  | .star a => a.np
/-- Is the empty text a word? -/
def Rx.nul : Rx → Bool
  | .pl _ => false
  | .cat a b => a.nul && b.nul
  | .alt a b => a.nul || b.nul
  | .opt _ => true
  | .plus a => a.nul
  | .star _ => true
/-- The places, numbered from k on, at which words begin. -/
def Rx.fst : Rx → Nat → Nat → Prop
  | .pl _, k, p => p = k
  | .cat a b, k, p => a.fst k p ∨ (a.nul = true ∧ b.fst (k + a.np) p)
  | .alt a b, k, p => a.fst k p ∨ b.fst (k + a.np) p
  | .opt a, k, p => a.fst k p
  | .plus a, k, p => a.fst k p
  | .star a, k, p => a.fst k p
/-- At which they end. -/
def Rx.lst : Rx → Nat → Nat → Prop
  | .pl _, k, p => p = k
  | .cat a b, k, p => (a.lst k p ∧ b.nul = true) ∨ b.lst (k + a.np) p
  | .alt a b, k, p => a.lst k p ∨ b.lst (k + a.np) p
  | .opt a, k, p => a.lst k p
  | .plus a, k, p => a.lst k p
  | .star a, k, p => a.lst k p
/-- Which place may come behind which. -/
def Rx.fol : Rx → Nat → Nat → Nat → Prop
  | .pl _, _, _, _ => False
  | .cat a b, k, p, q => a.fol k p q ∨ b.fol (k + a.np) p q ∨ (a.lst k p ∧ b.fst (k + a.np) q)
  | .alt a b, k, p, q => a.fol k p q ∨ b.fol (k + a.np) p q
  | .opt a, k, p, q => a.fol k p q
  | .plus a, k, p, q => a.fol k p q ∨ (a.lst k p ∧ a.fst k q)
  | .star a, k, p, q => a.fol k p q ∨ (a.lst k p ∧ a.fst k q)
/-- What may follow behind a place to make up a word. -/
def Rx.rest : Rx → Nat → Nat → List Nat → Prop
  | .pl _, k, p, v => p = k ∧ v = []
  | .cat a b, k, p, v => (∃ v1 v2, v = v1 ++ v2 ∧ a.rest k p v1 ∧ W b v2) ∨ b.rest (k + a.np) p v
  | .alt a b, k, p, v => a.rest k p v ∨ b.rest (k + a.np) p v
  | .opt a, k, p, v => a.rest k p v
  | .plus a, k, p, v => ∃ v1 v2, v = v1 ++ v2 ∧ a.rest k p v1 ∧ (v2 = [] ∨ Plus (W a) v2)
  | .star a, k, p, v => ∃ v1 v2, v = v1 ++ v2 ∧ a.rest k p v1 ∧ (v2 = [] ∨ Plus (W a) v2)
/-- The places allow what A says. -/
def Rx.says (A : Nat → Nat → Bool) : Rx → Nat → Prop
  | .pl f, k => ∀ b, b < 256 → A k b = f b
  | .cat a b, k => a.says A k ∧ b.says A (k + a.np)
  | .alt a b, k => a.says A k ∧ b.says A (k + a.np)
  | .opt a, k => a.says A k
  | .plus a, k => a.says A k
  | .star a, k => a.says A k

theorem Rx.np_pos : ∀ r : Rx, 0 < r.np
  | .pl _ => Nat.one_pos
  | .cat a b => by have := a.np_pos; show 0 < a.np + b.np; omega
  | .alt a b => by have := a.np_pos; show 0 < a.np + b.np; omega
  | .opt a => a.np_pos
  | .plus a => a.np_pos
  | .star a => a.np_pos

theorem Rx.fst_in : ∀ (r : Rx) (k p : Nat), r.fst k p → k ≤ p ∧ p < k + r.np
  | .pl _, k, p, h => by have h : p = k := h; show k ≤ p ∧ p < k + 1; omega
  | .cat a b, k, p, h => by
    show k ≤ p ∧ p < k + (a.np + b.np)
    rcases h with h | ⟨_, h⟩
    · have := a.fst_in k p h; omega
    · have := b.fst_in _ p h; omega
  | .alt a b, k, p, h => by
    show k ≤ p ∧ p < k + (a.np + b.np)
    rcases h with h | h
    · have := a.fst_in k p h; omega
    · have := b.fst_in _ p h; omega
  | .opt a, k, p, h => a.fst_in k p h
  | .plus a, k, p, h => a.fst_in k p h
  | .star a, k, p, h => a.fst_in k p h
theorem Rx.lst_in : ∀ (r : Rx) (k p : Nat), r.lst k p → k ≤ p ∧ p < k + r.np
  | .pl _, k, p, h => by have h : p = k := h; show k ≤ p ∧ p < k + 1; omega
  | .cat a b, k, p, h => by
    show k ≤ p ∧ p < k + (a.np + b.np)
    rcases h with ⟨h, _⟩ | h
    · have := a.lst_in k p h; omega
    · have := b.lst_in _ p h; omega
  | .alt a b, k, p, h => by
    show k ≤ p ∧ p < k + (a.np + b.np)
    rcases h with h | h
    · have := a.lst_in k p h; omega
    · have := b.lst_in _ p h; omega
  | .opt a, k, p, h => a.lst_in k p h
  | .plus a, k, p, h => a.lst_in k p h
  | .star a, k, p, h => a.lst_in k p h
theorem Rx.fol_in : ∀ (r : Rx) (k p q : Nat), r.fol k p q → (k ≤ p ∧ p < k + r.np) ∧ (k ≤ q ∧ q < k + r.np)
  | .pl _, k, p, q, h => False.elim h
  | .cat a b, k, p, q, h => by
    show (k ≤ p ∧ p < k + (a.np + b.np)) ∧ (k ≤ q ∧ q < k + (a.np + b.np))
    rcases h with h | h | ⟨h, h'⟩
    · have := a.fol_in k p q h; omega
    · have := b.fol_in _ p q h; omega
    · have := a.lst_in k p h; have := b.fst_in _ q h'; omega
  | .alt a b, k, p, q, h => by
    show (k ≤ p ∧ p < k + (a.np + b.np)) ∧ (k ≤ q ∧ q < k + (a.np + b.np))
    rcases h with h | h
    · have := a.fol_in k p q h; omega
    · have := b.fol_in _ p q h; omega
  | .opt a, k, p, q, h => a.fol_in k p q h
  | .plus a, k, p, q, h => by
    rcases h with h | ⟨h, h'⟩
    · exact a.fol_in k p q h
    · exact ⟨a.lst_in k p h, a.fst_in k q h'⟩
  | .star a, k, p, q, h => by
    rcases h with h | ⟨h, h'⟩
    · exact a.fol_in k p q h
    · exact ⟨a.lst_in k p h, a.fst_in k q h'⟩

theorem Rx.rest_in : ∀ (r : Rx) (k p : Nat) (v : List Nat), r.rest k p v → k ≤ p ∧ p < k + r.np
  | .pl _, k, p, v, h => by have h : p = k := h.1; show k ≤ p ∧ p < k + 1; omega
  | .cat a b, k, p, v, h => by
    show k ≤ p ∧ p < k + (a.np + b.np)
    rcases h with ⟨v1, _, _, h, _⟩ | h
    · have := a.rest_in k p v1 h; omega
    · have := b.rest_in _ p v h; omega
  | .alt a b, k, p, v, h => by
    show k ≤ p ∧ p < k + (a.np + b.np)
    rcases h with h | h
    · have := a.rest_in k p v h; omega
    · have := b.rest_in _ p v h; omega
  | .opt a, k, p, v, h => a.rest_in k p v h
  | .plus a, k, p, v, h => by obtain ⟨v1, _, _, h, _⟩ := h; exact a.rest_in k p v1 h
  | .star a, k, p, v, h => by obtain ⟨v1, _, _, h, _⟩ := h; exact a.rest_in k p v1 h

theorem plus_nil {L : List Nat → Prop} : ∀ {w : List Nat}, Plus L w → w = [] → L [] := by
  intro w h
  induction h with
  | one h => intro e; rw [e] at h; exact h
  | more hu _ ih => intro e; rw [List.append_eq_nil_iff] at e; rw [e.1] at hu; exact hu
theorem plus_cons {L : List Nat → Prop} : ∀ {w : List Nat}, Plus L w → ∀ b v, w = b :: v → ∃ v1 v2, v = v1 ++ v2 ∧ L (b :: v1) ∧ (v2 = [] ∨ Plus L v2) := by
  intro w h
  induction h with
  | one h => intro b v e; rw [e] at h; exact ⟨v, [], (List.append_nil v).symm, h, .inl rfl⟩
  | @more u x hu hx ih =>
    intro b v e
    cases u with
    | nil => exact ih b v e
    | cons c u' =>
      rw [List.cons_append] at e
      injection e with e1 e2
      subst e1
      exact ⟨u', x, e2.symm, hu, .inr hx⟩
theorem plus_of {L : List Nat → Prop} {u v : List Nat} (h : L u) (k : v = [] ∨ Plus L v) : Plus L (u ++ v) := by
  rcases k with rfl | k
  · rw [List.append_nil]; exact .one h
  · exact .more h k
theorem Rx.nul_iff : ∀ r : Rx, r.nul = true ↔ W r []
  | .pl f => by
    constructor
    · intro h; cases h
    · rintro ⟨b, h, _⟩; cases h
  | .cat a b => by
    show (a.nul && b.nul) = true ↔ _
    rw [Bool.and_eq_true, a.nul_iff, b.nul_iff]
    constructor
    · rintro ⟨h1, h2⟩; exact ⟨[], [], rfl, h1, h2⟩
    · rintro ⟨u, v, e, h1, h2⟩
      have := List.append_eq_nil_iff.1 e.symm
      rw [this.1] at h1
      rw [this.2] at h2
      exact ⟨h1, h2⟩
  | .alt a b => by
    show (a.nul || b.nul) = true ↔ (W a [] ∨ W b [])
    rw [Bool.or_eq_true, a.nul_iff, b.nul_iff]
  | .opt a => ⟨fun _ => .inl rfl, fun _ => rfl⟩
  | .plus a => by
    show a.nul = true ↔ Plus (W a) []
    rw [a.nul_iff]
    exact ⟨fun h => .one h, fun h => plus_nil h rfl⟩
  | .star a => ⟨fun _ => .inl rfl, fun _ => rfl⟩

/-- A word begins at a first place, and what follows there follows. -/
theorem Rx.begins {A : Nat → Nat → Bool} : ∀ (r : Rx) (k : Nat), r.says A k → ∀ b v, (W r (b :: v) ↔ ∃ p, r.fst k p ∧ b < 256 ∧ A p b = true ∧ r.rest k p v)
  | .pl f, k, hA, b, v => by
    constructor
    · rintro ⟨c, e, h1, h2⟩
      injection e with e1 e2
      subst e1
      exact ⟨k, rfl, h1, by rw [hA b h1]; exact h2, rfl, e2⟩
    · rintro ⟨p, e, h1, h2, _, h4⟩
      have e : p = k := e
      subst e
      exact ⟨b, by rw [h4], h1, by rw [← hA b h1]; exact h2⟩
  | .cat x y, k, hA, b, v => by
    have ix := x.begins k hA.1 b
    have iy := y.begins (k + x.np) hA.2 b
    constructor
    · rintro ⟨u, w, e, h1, h2⟩
      cases u with
      | nil =>
        rw [List.nil_append] at e
        rw [← e] at h2
        obtain ⟨p, a1, a2, a3, a4⟩ := (iy v).1 h2
        exact ⟨p, .inr ⟨x.nul_iff.2 h1, a1⟩, a2, a3, .inr a4⟩
      | cons c u' =>
        rw [List.cons_append] at e
        injection e with e1 e2
        subst e1
        obtain ⟨p, a1, a2, a3, a4⟩ := (ix u').1 h1
        exact ⟨p, .inl a1, a2, a3, .inl ⟨u', w, e2, a4, h2⟩⟩
    · rintro ⟨p, a1, a2, a3, a4⟩
      rcases a4 with ⟨v1, v2, e, h1, h2⟩ | h
      · rcases a1 with a1 | ⟨_, a1⟩
        · exact ⟨b :: v1, v2, by rw [e]; rfl, (ix v1).2 ⟨p, a1, a2, a3, h1⟩, h2⟩
        · exfalso
          have := y.fst_in _ p a1
          have := x.rest_in k p v1 h1
          omega
      · rcases a1 with a1 | ⟨hn, a1⟩
        · exfalso
          have := x.fst_in _ p a1
          have := y.rest_in _ p v h
          omega
        · exact ⟨[], b :: v, rfl, x.nul_iff.1 hn, (iy v).2 ⟨p, a1, a2, a3, h⟩⟩
  | .alt x y, k, hA, b, v => by
    have ix := x.begins k hA.1 b v
    have iy := y.begins (k + x.np) hA.2 b v
    constructor
    · rintro (h | h)
      · obtain ⟨p, a1, a2, a3, a4⟩ := ix.1 h
        exact ⟨p, .inl a1, a2, a3, .inl a4⟩
      · obtain ⟨p, a1, a2, a3, a4⟩ := iy.1 h
        exact ⟨p, .inr a1, a2, a3, .inr a4⟩
    · rintro ⟨p, a1, a2, a3, a4⟩
      rcases a1 with a1 | a1 <;> rcases a4 with a4 | a4
      · exact .inl (ix.2 ⟨p, a1, a2, a3, a4⟩)
      · exfalso; have := x.fst_in _ p a1; have := y.rest_in _ p v a4; omega
      · exfalso; have := y.fst_in _ p a1; have := x.rest_in _ p v a4; omega
      · exact .inr (iy.2 ⟨p, a1, a2, a3, a4⟩)
  | .opt x, k, hA, b, v => by
    have ix := x.begins k hA b v
    constructor
    · rintro (h | h)
      · cases h
      · exact ix.1 h
    · intro h; exact .inr (ix.2 h)
  | .plus x, k, hA, b, v => by
    have ix := x.begins k hA b
    constructor
    · intro h
      obtain ⟨v1, v2, e, h1, h2⟩ := plus_cons h b v rfl
      obtain ⟨p, a1, a2, a3, a4⟩ := (ix v1).1 h1
      exact ⟨p, a1, a2, a3, v1, v2, e, a4, h2⟩
    · rintro ⟨p, a1, a2, a3, v1, v2, e, a4, h2⟩
      have := plus_of (L := W x) ((ix v1).2 ⟨p, a1, a2, a3, a4⟩) h2
      rw [e]; exact this
  | .star x, k, hA, b, v => by
    have ix := x.begins k hA b
    constructor
    · rintro (h | h)
      · cases h
      · obtain ⟨v1, v2, e, h1, h2⟩ := plus_cons h b v rfl
        obtain ⟨p, a1, a2, a3, a4⟩ := (ix v1).1 h1
        exact ⟨p, a1, a2, a3, v1, v2, e, a4, h2⟩
    · rintro ⟨p, a1, a2, a3, v1, v2, e, a4, h2⟩
      have := plus_of (L := W x) ((ix v1).2 ⟨p, a1, a2, a3, a4⟩) h2
      rw [e]; exact .inr this

/-- Nothing need follow behind a last place. -/
theorem Rx.ends : ∀ (r : Rx) (k p : Nat), r.rest k p [] ↔ r.lst k p
  | .pl _, k, p => ⟨fun h => h.1, fun h => ⟨h, rfl⟩⟩
  | .cat a b, k, p => by
    constructor
    · rintro (⟨v1, v2, e, h1, h2⟩ | h)
      · have e2 := List.append_eq_nil_iff.1 e.symm
        rw [e2.1] at h1
        rw [e2.2] at h2
        exact .inl ⟨(a.ends k p).1 h1, b.nul_iff.2 h2⟩
      · exact .inr ((b.ends _ p).1 h)
    · rintro (⟨h1, h2⟩ | h)
      · exact .inl ⟨[], [], rfl, (a.ends k p).2 h1, b.nul_iff.1 h2⟩
      · exact .inr ((b.ends _ p).2 h)
  | .alt a b, k, p => by
    constructor
    · rintro (h | h)
      · exact .inl ((a.ends k p).1 h)
      · exact .inr ((b.ends _ p).1 h)
    · rintro (h | h)
      · exact .inl ((a.ends k p).2 h)
      · exact .inr ((b.ends _ p).2 h)
  | .opt a, k, p => a.ends k p
  | .plus a, k, p => by
    constructor
    · rintro ⟨v1, v2, e, h1, _⟩
      rw [(List.append_eq_nil_iff.1 e.symm).1] at h1
      exact (a.ends k p).1 h1
    · intro h; exact ⟨[], [], rfl, (a.ends k p).2 h, .inl rfl⟩
  | .star a, k, p => by
    constructor
    · rintro ⟨v1, v2, e, h1, _⟩
      rw [(List.append_eq_nil_iff.1 e.symm).1] at h1
      exact (a.ends k p).1 h1
    · intro h; exact ⟨[], [], rfl, (a.ends k p).2 h, .inl rfl⟩

theorem goes_plus {A : Nat → Nat → Bool} (x : Rx) (k : Nat) (hA : x.says A k) (ix : ∀ p b v, x.rest k p (b :: v) ↔ ∃ q, x.fol k p q ∧ b < 256 ∧ A q b = true ∧ x.rest k q v) (p b : Nat) (v : List Nat) :
    (∃ v1 v2, b :: v = v1 ++ v2 ∧ x.rest k p v1 ∧ (v2 = [] ∨ Plus (W x) v2)) ↔ ∃ q, (x.fol k p q ∨ (x.lst k p ∧ x.fst k q)) ∧ b < 256 ∧ A q b = true ∧ ∃ v1 v2, v = v1 ++ v2 ∧ x.rest k q v1 ∧ (v2 = [] ∨ Plus (W x) v2) := by
  constructor
  · rintro ⟨v1, v2, e, h1, h2⟩
    cases v1 with
    | nil =>
      rw [List.nil_append] at e
      rcases h2 with h2 | h2
      · rw [h2] at e; cases e
      · obtain ⟨w1, w2, e2, g1, g2⟩ := plus_cons h2 b v e.symm
        obtain ⟨q, a1, a2, a3, a4⟩ := (x.begins k hA b w1).1 g1
        exact ⟨q, .inr ⟨(x.ends k p).1 h1, a1⟩, a2, a3, w1, w2, e2, a4, g2⟩
    | cons c v1' =>
      rw [List.cons_append] at e
      injection e with e1 e2
      subst e1
      obtain ⟨q, a1, a2, a3, a4⟩ := (ix p b v1').1 h1
      exact ⟨q, .inl a1, a2, a3, v1', v2, e2, a4, h2⟩
  · rintro ⟨q, hq, a2, a3, v1, v2, e, a4, h2⟩
    rcases hq with hq | ⟨hl, hf⟩
    · exact ⟨b :: v1, v2, by rw [e]; rfl, (ix p b v1).2 ⟨q, hq, a2, a3, a4⟩, h2⟩
    · refine ⟨[], b :: v, rfl, (x.ends k p).2 hl, .inr ?_⟩
      have := plus_of (L := W x) ((x.begins k hA b v1).2 ⟨q, hf, a2, a3, a4⟩) h2
      rw [e]; exact this

/-- What follows behind a place goes on at a place that may come behind it. -/
theorem Rx.goes {A : Nat → Nat → Bool} : ∀ (r : Rx) (k : Nat), r.says A k → ∀ p b v, (r.rest k p (b :: v) ↔ ∃ q, r.fol k p q ∧ b < 256 ∧ A q b = true ∧ r.rest k q v)
  | .pl f, k, _, p, b, v => by
    constructor
    · rintro ⟨_, h⟩; cases h
    · rintro ⟨q, h, _⟩; exact False.elim h
  | .cat x y, k, hA, p, b, v => by
    have ix := x.goes k hA.1 p b
    have iy := y.goes (k + x.np) hA.2 p b v
    constructor
    · rintro (⟨v1, v2, e, h1, h2⟩ | h)
      · cases v1 with
        | nil =>
          rw [List.nil_append] at e
          rw [← e] at h2
          obtain ⟨q, a1, a2, a3, a4⟩ := (y.begins _ hA.2 b v).1 h2
          exact ⟨q, .inr (.inr ⟨(x.ends k p).1 h1, a1⟩), a2, a3, .inr a4⟩
        | cons c v1' =>
          rw [List.cons_append] at e
          injection e with e1 e2
          subst e1
          obtain ⟨q, a1, a2, a3, a4⟩ := (ix v1').1 h1
          exact ⟨q, .inl a1, a2, a3, .inl ⟨v1', v2, e2, a4, h2⟩⟩
      · obtain ⟨q, a1, a2, a3, a4⟩ := iy.1 h
        exact ⟨q, .inr (.inl a1), a2, a3, .inr a4⟩
    · rintro ⟨q, hq, a2, a3, a4⟩
      rcases a4 with ⟨v1, v2, e, h1, h2⟩ | h
      · have hqx := x.rest_in k q v1 h1
        rcases hq with hq | hq | ⟨_, hq⟩
        · exact .inl ⟨b :: v1, v2, by rw [e]; rfl, (ix v1).2 ⟨q, hq, a2, a3, h1⟩, h2⟩
        · exfalso; have := (y.fol_in _ p q hq).2; omega
        · exfalso; have := y.fst_in _ q hq; omega
      · have hqy := y.rest_in _ q v h
        rcases hq with hq | hq | ⟨hl, hq⟩
        · exfalso; have := (x.fol_in _ p q hq).2; omega
        · exact .inr (iy.2 ⟨q, hq, a2, a3, h⟩)
        · exact .inl ⟨[], b :: v, rfl, (x.ends k p).2 hl, (y.begins _ hA.2 b v).2 ⟨q, hq, a2, a3, h⟩⟩
  | .alt x y, k, hA, p, b, v => by
    have ix := x.goes k hA.1 p b v
    have iy := y.goes (k + x.np) hA.2 p b v
    constructor
    · rintro (h | h)
      · obtain ⟨q, a1, a2, a3, a4⟩ := ix.1 h
        exact ⟨q, .inl a1, a2, a3, .inl a4⟩
      · obtain ⟨q, a1, a2, a3, a4⟩ := iy.1 h
        exact ⟨q, .inr a1, a2, a3, .inr a4⟩
    · rintro ⟨q, hq, a2, a3, a4⟩
      rcases hq with hq | hq <;> rcases a4 with a4 | a4
      · exact .inl (ix.2 ⟨q, hq, a2, a3, a4⟩)
      · exfalso; have := (x.fol_in _ p q hq).2; have := y.rest_in _ q v a4; omega
      · exfalso; have := (y.fol_in _ p q hq).2; have := x.rest_in _ q v a4; omega
      · exact .inr (iy.2 ⟨q, hq, a2, a3, a4⟩)
  | .opt x, k, hA, p, b, v => x.goes k hA p b v
  | .plus x, k, hA, p, b, v => goes_plus x k hA (x.goes k hA) p b v
  | .star x, k, hA, p, b, v => goes_plus x k hA (x.goes k hA) p b v

/-- Where each place allows some byte, each expression has a word. -/
theorem Rx.word {A : Nat → Nat → Bool} : ∀ (r : Rx) (k : Nat), r.says A k → (∀ p, k ≤ p → p < k + r.np → ∃ b, b < 256 ∧ A p b = true) → ∃ w, W r w
  | .pl f, k, hA, h => by
    obtain ⟨b, h1, h2⟩ := h k (Nat.le_refl _) (by show k < k + 1; omega)
    exact ⟨[b], b, rfl, h1, by rw [← hA b h1]; exact h2⟩
  | .cat x y, k, hA, h => by
    obtain ⟨u, hu⟩ := x.word k hA.1 (fun p h1 h2 => h p h1 (by show p < k + (x.np + y.np); omega))
    obtain ⟨v, hv⟩ := y.word (k + x.np) hA.2 (fun p h1 h2 => h p (by omega) (by show p < k + (x.np + y.np); omega))
    exact ⟨u ++ v, u, v, rfl, hu, hv⟩
  | .alt x y, k, hA, h => by
    obtain ⟨u, hu⟩ := x.word k hA.1 (fun p h1 h2 => h p h1 (by show p < k + (x.np + y.np); omega))
    exact ⟨u, .inl hu⟩
  | .opt x, _, _, _ => ⟨[], .inl rfl⟩
  | .plus x, k, hA, h => by
    obtain ⟨u, hu⟩ := x.word k hA h
    exact ⟨u, .one hu⟩
  | .star x, _, _, _ => ⟨[], .inl rfl⟩
/-- And each place leads to the end of one. -/
theorem Rx.alive {A : Nat → Nat → Bool} : ∀ (r : Rx) (k : Nat), r.says A k → (∀ p, k ≤ p → p < k + r.np → ∃ b, b < 256 ∧ A p b = true) → ∀ p, k ≤ p → p < k + r.np → ∃ v, r.rest k p v
  | .pl f, k, _, _, p, h1, h2 => by
    have h2 : p < k + 1 := h2
    exact ⟨[], by show p = k; omega, rfl⟩
  | .cat x y, k, hA, h, p, h1, h2 => by
    have h2 : p < k + (x.np + y.np) := h2
    by_cases e : p < k + x.np
    · obtain ⟨v1, hv1⟩ := x.alive k hA.1 (fun p h1 h2 => h p h1 (by show p < k + (x.np + y.np); omega)) p h1 e
      obtain ⟨v2, hv2⟩ := y.word (k + x.np) hA.2 (fun p h1 h2 => h p (by omega) (by show p < k + (x.np + y.np); omega))
      exact ⟨v1 ++ v2, .inl ⟨v1, v2, rfl, hv1, hv2⟩⟩
    · obtain ⟨v, hv⟩ := y.alive (k + x.np) hA.2 (fun p h1 h2 => h p (by omega) (by show p < k + (x.np + y.np); omega)) p (by omega) (by omega)
      exact ⟨v, .inr hv⟩
  | .alt x y, k, hA, h, p, h1, h2 => by
    have h2 : p < k + (x.np + y.np) := h2
    by_cases e : p < k + x.np
    · obtain ⟨v, hv⟩ := x.alive k hA.1 (fun p h1 h2 => h p h1 (by show p < k + (x.np + y.np); omega)) p h1 e
      exact ⟨v, .inl hv⟩
    · obtain ⟨v, hv⟩ := y.alive (k + x.np) hA.2 (fun p h1 h2 => h p (by omega) (by show p < k + (x.np + y.np); omega)) p (by omega) (by omega)
      exact ⟨v, .inr hv⟩
  | .opt x, k, hA, h, p, h1, h2 => x.alive k hA h p h1 h2
  | .plus x, k, hA, h, p, h1, h2 => by
    obtain ⟨v, hv⟩ := x.alive k hA h p h1 h2
    exact ⟨v, v, [], (List.append_nil v).symm, hv, .inl rfl⟩
  | .star x, k, hA, h, p, h1, h2 => by
    obtain ⟨v, hv⟩ := x.alive k hA h p h1 h2
    exact ⟨v, v, [], (List.append_nil v).symm, hv, .inl rfl⟩
theorem Rx.rest_lets {A : Nat → Nat → Bool} (r : Rx) (k : Nat) (hA : r.says A k) : ∀ (v : List Nat) (p : Nat), r.rest k p v → ∀ b ∈ v, b < 256
  | [], _, _, b, hb => absurd hb List.not_mem_nil
  | c :: v, p, h, b, hb => by
    obtain ⟨q, _, h2, _, h4⟩ := (r.goes k hA p c v).1 h
    rcases List.mem_cons.1 hb with e | e
    · rw [e]; exact h2
    · exact Rx.rest_lets r k hA v q h4 b e
end Go.Stn

namespace Go.Stn
def Rx.sz : Rx → Nat
  | .pl _ => 1
  | .cat a b => a.sz + b.sz + 1
  | .alt a b => a.sz + b.sz + 1
  | .opt a => a.sz + 1
  | .plus a => a.sz + 1
  | .star a => a.sz + 1
theorem Rx.sz_pos : ∀ r : Rx, 0 < r.sz
  | .pl _ => Nat.one_pos
  | .cat _ _ => Nat.succ_pos _
  | .alt _ _ => Nat.succ_pos _
  | .opt _ => Nat.succ_pos _
  | .plus _ => Nat.succ_pos _
  | .star _ => Nat.succ_pos _
/-- The nodes of an expression, numbered from nb on, its places from pb on. -/
def Rx.flat : Rx → Nat → Nat → List (Int × Int × Int)
  | .pl _, _, pb => [(0, (pb : Int), 0)]
  | .cat a b, nb, pb => a.flat nb pb ++ (b.flat (nb + a.sz) (pb + a.np) ++ [(1, ((nb + a.sz - 1 : Nat) : Int), ((nb + a.sz + b.sz - 1 : Nat) : Int))])
  | .alt a b, nb, pb => a.flat nb pb ++ (b.flat (nb + a.sz) (pb + a.np) ++ [(2, ((nb + a.sz - 1 : Nat) : Int), ((nb + a.sz + b.sz - 1 : Nat) : Int))])
  | .opt a, nb, pb => a.flat nb pb ++ [(3, ((nb + a.sz - 1 : Nat) : Int), 0)]
  | .plus a, nb, pb => a.flat nb pb ++ [(4, ((nb + a.sz - 1 : Nat) : Int), 0)]
  | .star a, nb, pb => a.flat nb pb ++ [(5, ((nb + a.sz - 1 : Nat) : Int), 0)]
theorem Rx.flat_len : ∀ (r : Rx) (nb pb : Nat), (r.flat nb pb).length = r.sz
  | .pl _, _, _ => rfl
  | .cat a b, nb, pb => by simp [Rx.flat, Rx.sz, a.flat_len, b.flat_len]; omega
  | .alt a b, nb, pb => by simp [Rx.flat, Rx.sz, a.flat_len, b.flat_len]; omega
  | .opt a, nb, pb => by simp [Rx.flat, Rx.sz, a.flat_len]
  | .plus a, nb, pb => by simp [Rx.flat, Rx.sz, a.flat_len]
  | .star a, nb, pb => by simp [Rx.flat, Rx.sz, a.flat_len]

/-- What is known of a part. -/
structure PartOk (x : PartT) (r : Rx) (pb : Nat) : Prop where
  s1 : isSet x.1
  s2 : isSet x.2.1
  f : ∀ p, inS x.1 p = true ↔ r.fst pb p
  l : ∀ p, inS x.2.1 p = true ↔ r.lst pb p
  n : x.2.2 = r.nul
/-- What is known of the net. -/
structure NextOk (next next1 : Nat → Int) (r : Rx) (pb : Nat) : Prop where
  s : ∀ p, isSet (next1 p)
  f : ∀ p q, inS (next1 p) q = true ↔ (inS (next p) q = true ∨ r.fol pb p q)

theorem nlead_set {next : Nat → Int} {fr ds : Int} (hn : ∀ p, isSet (next p)) (hd : isSet ds) (p : Nat) : isSet (nleadP next fr ds p) := by
  unfold nleadP leadK
  split
  · exact isSet_or (hn p) hd
  · exact hn p
theorem nlead_in {next : Nat → Int} {fr ds : Int} (hn : ∀ p, isSet (next p)) (hf : isSet fr) (hd : isSet ds) (p q : Nat) : inS (nleadP next fr ds p) q = true ↔ (inS (next p) q = true ∨ (inS fr p = true ∧ inS ds q = true)) := by
  unfold nleadP leadK
  by_cases hp : p < 10
  · have ha := and_pow hf hp
    by_cases e : andI fr (pow2 p) ≠ 0
    · rw [if_pos ⟨hp, e⟩, inS_or (hn p) hd, Bool.or_eq_true]
      have : inS fr p = true := by
        cases h : inS fr p with
        | true => rfl
        | false => exact absurd (ha.2 h) e
      simp [this]
    · rw [if_neg (fun h => e h.2)]
      have : inS fr p = false := ha.1 (Classical.not_not.1 e)
      simp [this]
  · rw [if_neg (fun h => hp h.1)]
    have := inS_far hf (p := p) (by omega)
    simp [this]

theorem linkL_rx : ∀ (r : Rx) (nb pb : Nat) (l : List (Int × Int × Int)) (ps : Nat → PartT) (next : Nat → Int), pb + r.np ≤ 10 → (∀ p, isSet (next p)) →
    ∃ ps1 next1, linkL (r.flat nb pb ++ l) nb ps next = linkL l (nb + r.sz) ps1 next1 ∧ (∀ i, i < nb → ps1 i = ps i) ∧ PartOk (ps1 (nb + r.sz - 1)) r pb ∧ NextOk next next1 r pb
  | .pl f, nb, pb, l, ps, next, hp, hn => by
    have hp : pb + 1 ≤ 10 := hp
    refine ⟨_, _, rfl, fun i hi => if_neg (by omega), ?_, ?_⟩
    · show PartOk (if nb + 1 - 1 = nb then (nodeP ps (0, (pb : Int), 0) next).1 else ps (nb + 1 - 1)) (.pl f) pb
      rw [if_pos (by omega)]
      have e : (nodeP ps (0, (pb : Int), 0) next).1 = (pow2 pb, pow2 pb, false) := by
        unfold nodeP wholeP; simp
      rw [e]
      exact ⟨isSet_pow (by omega), isSet_pow (by omega), fun p => by simp only [inS_pow, decide_eq_true_eq]; exact eq_comm, fun p => by simp only [inS_pow, decide_eq_true_eq]; exact eq_comm, rfl⟩
    · have e : (nodeP ps (0, (pb : Int), 0) next).2 = next := by unfold nodeP wholeP; simp
      rw [e]
      exact ⟨hn, fun p q => ⟨fun h => .inl h, fun h => h.elim id False.elim⟩⟩
  | .cat a b, nb, pb, l, ps, next, hp, hn => by
    have hp : pb + (a.np + b.np) ≤ 10 := hp
    have ha := a.sz_pos
    have hb := b.sz_pos
    obtain ⟨ps1, n1, e1, k1, p1, o1⟩ := linkL_rx a nb pb (b.flat (nb + a.sz) (pb + a.np) ++ ([(1, ((nb + a.sz - 1 : Nat) : Int), ((nb + a.sz + b.sz - 1 : Nat) : Int))] ++ l)) ps next (by omega) hn
    obtain ⟨ps2, n2, e2, k2, p2, o2⟩ := linkL_rx b (nb + a.sz) (pb + a.np) ([(1, ((nb + a.sz - 1 : Nat) : Int), ((nb + a.sz + b.sz - 1 : Nat) : Int))] ++ l) ps1 n1 (by omega) o1.s
    rw [← k2 (nb + a.sz - 1) (by omega)] at p1
    have en : nodeP ps2 (1, ((nb + a.sz - 1 : Nat) : Int), ((nb + a.sz + b.sz - 1 : Nat) : Int)) n2 = (joinedP (ps2 (nb + a.sz - 1)) (ps2 (nb + a.sz + b.sz - 1)), nleadP n2 (ps2 (nb + a.sz - 1)).2.1 (ps2 (nb + a.sz + b.sz - 1)).1) := by
      unfold nodeP wholeP; simp
    refine ⟨fun i => if i = nb + a.sz + b.sz then joinedP (ps2 (nb + a.sz - 1)) (ps2 (nb + a.sz + b.sz - 1)) else ps2 i, nleadP n2 (ps2 (nb + a.sz - 1)).2.1 (ps2 (nb + a.sz + b.sz - 1)).1, ?_, fun i hi => ?_, ?_, ?_⟩
    · show linkL ((a.flat nb pb ++ (b.flat (nb + a.sz) (pb + a.np) ++ [_])) ++ l) nb ps next = _
      rw [List.append_assoc, List.append_assoc, e1, e2, List.singleton_append, linkL, en]
      show _ = linkL l (nb + (a.sz + b.sz + 1)) _ _
      rw [show nb + (a.sz + b.sz + 1) = nb + a.sz + b.sz + 1 by omega]
    · simp only
      rw [if_neg (by omega), k2 i (by omega), k1 i hi]
    · show PartOk (if nb + (a.sz + b.sz + 1) - 1 = nb + a.sz + b.sz then _ else _) (.cat a b) pb
      rw [if_pos (by omega)]
      generalize ps2 (nb + a.sz - 1) = x at *
      generalize ps2 (nb + a.sz + b.sz - 1) = y at *
      unfold joinedP
      refine ⟨?_, ?_, fun p => ?_, fun p => ?_, ?_⟩
      · simp only
        split
        · exact isSet_or p1.s1 p2.s1
        · exact p1.s1
      · simp only
        split
        · exact isSet_or p2.s2 p1.s2
        · exact p2.s2
      · show _ ↔ (a.fst pb p ∨ (a.nul = true ∧ b.fst (pb + a.np) p))
        simp only
        rw [← p1.n, ← p1.f, ← p2.f]
        split
        · rename_i h; rw [inS_or p1.s1 p2.s1, Bool.or_eq_true]; simp [h]
        · rename_i h; simp [h]
      · show _ ↔ ((a.lst pb p ∧ b.nul = true) ∨ b.lst (pb + a.np) p)
        simp only
        rw [← p2.n, ← p1.l, ← p2.l]
        split
        · rename_i h; rw [inS_or p2.s2 p1.s2, Bool.or_eq_true]; simp [h, or_comm]
        · rename_i h; simp [h]
      · show (x.2.2 && y.2.2) = (a.nul && b.nul)
        rw [p1.n, p2.n]
    · refine ⟨nlead_set o2.s p2.s1, fun p q => ?_⟩
      rw [nlead_in o2.s p1.s2 p2.s1, o2.f, o1.f, p1.l, p2.f]
      show _ ↔ (_ ∨ (a.fol pb p q ∨ b.fol (pb + a.np) p q ∨ (a.lst pb p ∧ b.fst (pb + a.np) q)))
      simp only [or_assoc]
  | .alt a b, nb, pb, l, ps, next, hp, hn => by
    have hp : pb + (a.np + b.np) ≤ 10 := hp
    have ha := a.sz_pos
    have hb := b.sz_pos
    obtain ⟨ps1, n1, e1, k1, p1, o1⟩ := linkL_rx a nb pb (b.flat (nb + a.sz) (pb + a.np) ++ ([(2, ((nb + a.sz - 1 : Nat) : Int), ((nb + a.sz + b.sz - 1 : Nat) : Int))] ++ l)) ps next (by omega) hn
    obtain ⟨ps2, n2, e2, k2, p2, o2⟩ := linkL_rx b (nb + a.sz) (pb + a.np) ([(2, ((nb + a.sz - 1 : Nat) : Int), ((nb + a.sz + b.sz - 1 : Nat) : Int))] ++ l) ps1 n1 (by omega) o1.s
    rw [← k2 (nb + a.sz - 1) (by omega)] at p1
    have en : nodeP ps2 (2, ((nb + a.sz - 1 : Nat) : Int), ((nb + a.sz + b.sz - 1 : Nat) : Int)) n2 = ((orI (ps2 (nb + a.sz - 1)).1 (ps2 (nb + a.sz + b.sz - 1)).1, orI (ps2 (nb + a.sz - 1)).2.1 (ps2 (nb + a.sz + b.sz - 1)).2.1, (ps2 (nb + a.sz - 1)).2.2 || (ps2 (nb + a.sz + b.sz - 1)).2.2), n2) := by
      unfold nodeP wholeP; simp
    refine ⟨fun i => if i = nb + a.sz + b.sz then (orI (ps2 (nb + a.sz - 1)).1 (ps2 (nb + a.sz + b.sz - 1)).1, orI (ps2 (nb + a.sz - 1)).2.1 (ps2 (nb + a.sz + b.sz - 1)).2.1, (ps2 (nb + a.sz - 1)).2.2 || (ps2 (nb + a.sz + b.sz - 1)).2.2) else ps2 i, n2, ?_, fun i hi => ?_, ?_, ?_⟩
    · show linkL ((a.flat nb pb ++ (b.flat (nb + a.sz) (pb + a.np) ++ [_])) ++ l) nb ps next = _
      rw [List.append_assoc, List.append_assoc, e1, e2, List.singleton_append, linkL, en]
      show _ = linkL l (nb + (a.sz + b.sz + 1)) _ _
      rw [show nb + (a.sz + b.sz + 1) = nb + a.sz + b.sz + 1 by omega]
    · simp only
      rw [if_neg (by omega), k2 i (by omega), k1 i hi]
    · show PartOk (if nb + (a.sz + b.sz + 1) - 1 = nb + a.sz + b.sz then _ else _) (.alt a b) pb
      rw [if_pos (by omega)]
      generalize ps2 (nb + a.sz - 1) = x at *
      generalize ps2 (nb + a.sz + b.sz - 1) = y at *
      refine ⟨isSet_or p1.s1 p2.s1, isSet_or p1.s2 p2.s2, fun p => ?_, fun p => ?_, ?_⟩
      · show _ ↔ (a.fst pb p ∨ b.fst (pb + a.np) p)
        simp only
        rw [← p1.f, ← p2.f, inS_or p1.s1 p2.s1, Bool.or_eq_true]
      · show _ ↔ (a.lst pb p ∨ b.lst (pb + a.np) p)
        simp only
        rw [← p1.l, ← p2.l, inS_or p1.s2 p2.s2, Bool.or_eq_true]
      · show (x.2.2 || y.2.2) = (a.nul || b.nul)
        rw [p1.n, p2.n]
    · refine ⟨o2.s, fun p q => ?_⟩
      rw [o2.f, o1.f]
      show _ ↔ (_ ∨ (a.fol pb p q ∨ b.fol (pb + a.np) p q))
      simp only [or_assoc]
  | .opt a, nb, pb, l, ps, next, hp, hn => by
    have ha := a.sz_pos
    obtain ⟨ps1, n1, e1, k1, p1, o1⟩ := linkL_rx a nb pb ([(3, ((nb + a.sz - 1 : Nat) : Int), 0)] ++ l) ps next hp hn
    have en : nodeP ps1 (3, ((nb + a.sz - 1 : Nat) : Int), 0) n1 = (((ps1 (nb + a.sz - 1)).1, (ps1 (nb + a.sz - 1)).2.1, true), n1) := by
      unfold nodeP wholeP; simp
    refine ⟨fun i => if i = nb + a.sz then ((ps1 (nb + a.sz - 1)).1, (ps1 (nb + a.sz - 1)).2.1, true) else ps1 i, n1, ?_, fun i hi => ?_, ?_, ⟨o1.s, o1.f⟩⟩
    · show linkL ((a.flat nb pb ++ [_]) ++ l) nb ps next = linkL l (nb + (a.sz + 1)) _ _
      rw [List.append_assoc, e1, List.singleton_append, linkL, en]
      rfl
    · simp only
      rw [if_neg (by omega), k1 i hi]
    · show PartOk (if nb + (a.sz + 1) - 1 = nb + a.sz then _ else _) (.opt a) pb
      rw [if_pos (by omega)]
      exact ⟨p1.s1, p1.s2, p1.f, p1.l, rfl⟩
  | .plus a, nb, pb, l, ps, next, hp, hn => by
    have ha := a.sz_pos
    obtain ⟨ps1, n1, e1, k1, p1, o1⟩ := linkL_rx a nb pb ([(4, ((nb + a.sz - 1 : Nat) : Int), 0)] ++ l) ps next hp hn
    have en : nodeP ps1 (4, ((nb + a.sz - 1 : Nat) : Int), 0) n1 = (ps1 (nb + a.sz - 1), nleadP n1 (ps1 (nb + a.sz - 1)).2.1 (ps1 (nb + a.sz - 1)).1) := by
      unfold nodeP wholeP; simp
    refine ⟨fun i => if i = nb + a.sz then ps1 (nb + a.sz - 1) else ps1 i, nleadP n1 (ps1 (nb + a.sz - 1)).2.1 (ps1 (nb + a.sz - 1)).1, ?_, fun i hi => ?_, ?_, ?_⟩
    · show linkL ((a.flat nb pb ++ [_]) ++ l) nb ps next = linkL l (nb + (a.sz + 1)) _ _
      rw [List.append_assoc, e1, List.singleton_append, linkL, en]
      rfl
    · simp only
      rw [if_neg (by omega), k1 i hi]
    · show PartOk (if nb + (a.sz + 1) - 1 = nb + a.sz then _ else _) (.plus a) pb
      rw [if_pos (by omega)]
      exact ⟨p1.s1, p1.s2, p1.f, p1.l, p1.n⟩
    · refine ⟨nlead_set o1.s p1.s1, fun p q => ?_⟩
      rw [nlead_in o1.s p1.s2 p1.s1, o1.f, p1.l, p1.f]
      show _ ↔ (_ ∨ (a.fol pb p q ∨ (a.lst pb p ∧ a.fst pb q)))
      simp only [or_assoc]
  | .star a, nb, pb, l, ps, next, hp, hn => by
    have ha := a.sz_pos
    obtain ⟨ps1, n1, e1, k1, p1, o1⟩ := linkL_rx a nb pb ([(5, ((nb + a.sz - 1 : Nat) : Int), 0)] ++ l) ps next hp hn
    have en : nodeP ps1 (5, ((nb + a.sz - 1 : Nat) : Int), 0) n1 = (((ps1 (nb + a.sz - 1)).1, (ps1 (nb + a.sz - 1)).2.1, true), nleadP n1 (ps1 (nb + a.sz - 1)).2.1 (ps1 (nb + a.sz - 1)).1) := by
      unfold nodeP wholeP; simp
    refine ⟨fun i => if i = nb + a.sz then ((ps1 (nb + a.sz - 1)).1, (ps1 (nb + a.sz - 1)).2.1, true) else ps1 i, nleadP n1 (ps1 (nb + a.sz - 1)).2.1 (ps1 (nb + a.sz - 1)).1, ?_, fun i hi => ?_, ?_, ?_⟩
    · show linkL ((a.flat nb pb ++ [_]) ++ l) nb ps next = linkL l (nb + (a.sz + 1)) _ _
      rw [List.append_assoc, e1, List.singleton_append, linkL, en]
      rfl
    · simp only
      rw [if_neg (by omega), k1 i hi]
    · show PartOk (if nb + (a.sz + 1) - 1 = nb + a.sz then _ else _) (.star a) pb
      rw [if_pos (by omega)]
      exact ⟨p1.s1, p1.s2, p1.f, p1.l, rfl⟩
    · refine ⟨nlead_set o1.s p1.s1, fun p q => ?_⟩
      rw [nlead_in o1.s p1.s2 p1.s1, o1.f, p1.l, p1.f]
      show _ ↔ (_ ∨ (a.fol pb p q ∨ (a.lst pb p ∧ a.fst pb q)))
      simp only [or_assoc]
end Go.Stn

