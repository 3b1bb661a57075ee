/- Texts put together: AuSpread, AuBits. -/
import Derived.Test.YtgjgjgihceijnaaG20
import Derived.Test.YtgjgjgihceijnaaG21
namespace Go.Stn
/-- The set that is led to, by its number; -1: none. -/
def RowV (S : List Int) (x v : Int) : Prop := (v = -1 ∧ (x ≤ 0 ∨ 1024 ≤ x)) ∨ ∃ q : Nat, v = (q : Int) ∧ q < S.length ∧ S.getD q 0 = x ∧ 0 < x ∧ x < 1024
theorem RowV.more {S S' : List Int} {x v : Int} (h : RowV S x v) (hl : S.length ≤ S'.length) (hs : ∀ i, i < S.length → S'.getD i 0 = S.getD i 0) : RowV S' x v := by
  rcases h with h | ⟨q, h1, h2, h3, h4⟩
  · exact .inl h
  · exact .inr ⟨q, h1, by omega, (hs q h2).trans h3, h4⟩
theorem toP_row (S : List Int) (x : Int) : RowV (toP S x).2 x (toP S x).1 := by
  unfold toP
  split
  · rename_i h; exact .inl ⟨rfl, h⟩
  · rename_i h
    split
    · rename_i hm
      refine .inr ⟨findP S x, rfl, findP_lt hm, ?_, by omega, by omega⟩
      rw [List.getD_eq_getElem?_getD, findP_get hm]; rfl
    · refine .inr ⟨S.length, rfl, by simp, ?_, by omega, by omega⟩
      simp

theorem getDA_lt {α : Type} {l m : List α} {d : α} {i : Nat} (h : i < l.length) : (l ++ m).getD i d = l.getD i d := by
  rw [List.getD_eq_getElem?_getD, List.getD_eq_getElem?_getD, List.getElem?_append_left h]
theorem getDA_end {α : Type} {l : List α} {x d : α} : (l ++ [x]).getD l.length d = x := by
  rw [List.getD_eq_getElem?_getD, List.getElem?_append_right (Nat.le_refl _)]; simp
theorem aheadP_same {next : Nat → Int} {begin : Int} {S S' : List Int} {p : Nat} (h : S'.getD p 0 = S.getD p 0) : aheadP next begin S' p = aheadP next begin S p := by unfold aheadP; rw [h]

/-- What lies ahead of (s, j). -/
def ahd (K s j p g : Nat) : Prop := g < K ∧ (p < s ∨ (p = s ∧ g < j))
/-- Gone through so far: (p, g) ahead of (s, j). -/
structure SI (next : Nat → Int) (begin : Int) (G S : List Int) (s j : Nat) (val : Nat → Nat → Int) : Prop where
  ok : setsOk S
  row : ∀ p g, ahd G.length s j p g → p < S.length ∧ RowV S (andI (aheadP next begin S p) (G.getD g 0)) (val p g)
  occ : ∀ q, 0 < q → q < S.length → ∃ p g, ahd G.length s j p g ∧ p < q ∧ val p g = (q : Int)
  d1 : ∀ p g, ahd G.length s j p g → ∀ q : Nat, 0 < q → (q : Int) ≤ val p g → ∃ p' g', ahd G.length s j p' g' ∧ (p' < p ∨ (p' = p ∧ g' ≤ g)) ∧ val p' g' = (q : Int)

theorem SI.step {next : Nat → Int} {begin : Int} {G S : List Int} {s j : Nat} {val val' : Nat → Nat → Int} (h : SI next begin G S s j val) (hj : j < G.length) (hs : s < S.length)
    (hv : ∀ p g, ahd G.length s j p g → val' p g = val p g) (hx : val' s j = (toP S (andI (aheadP next begin S s) (G.getD j 0))).1) :
    SI next begin G (toP S (andI (aheadP next begin S s) (G.getD j 0))).2 s (j + 1) val' := by
  obtain ⟨h1, h2, h3, h4⟩ := toP_ok h.ok (andI (aheadP next begin S s) (G.getD j 0))
  have hrow := toP_row S (andI (aheadP next begin S s) (G.getD j 0))
  have hahead : ∀ p, p < S.length → aheadP next begin (toP S (andI (aheadP next begin S s) (G.getD j 0))).2 p = aheadP next begin S p := fun p hp => aheadP_same (h3 p hp)
  have hsplit : ∀ p g, ahd G.length s (j + 1) p g → ahd G.length s j p g ∨ (p = s ∧ g = j) := fun p g hpg => by unfold ahd at *; omega
  have hmore : ∀ p g, ahd G.length s j p g → ahd G.length s (j + 1) p g := fun p g hpg => by unfold ahd at *; omega
  have hself : ahd G.length s (j + 1) s j := ⟨hj, .inr ⟨rfl, by omega⟩⟩
  have hlex : ∀ p g, ahd G.length s j p g → (p < s ∨ (p = s ∧ g ≤ j)) := fun p g hpg => by unfold ahd at hpg; omega
  have hold : ∀ q, 0 < q → q < S.length → ∃ p g, ahd G.length s (j + 1) p g ∧ p < q ∧ val' p g = (q : Int) ∧ (p < s ∨ (p = s ∧ g ≤ j)) := fun q h0 hq => by
    obtain ⟨p, g, a, b, c⟩ := h.occ q h0 hq
    exact ⟨p, g, hmore p g a, b, by rw [hv p g a]; exact c, hlex p g a⟩
  have hnew : ∀ q, 0 < q → q < (toP S (andI (aheadP next begin S s) (G.getD j 0))).2.length → S.length ≤ q → q = S.length ∧ val' s j = (q : Int) := fun q h0 hq hge => by
    rw [hx]
    unfold toP at hq ⊢
    split at hq
    · simp only at hq; omega
    · split at hq
      · simp only at hq; omega
      · rename_i e1 e2
        simp at hq
        rw [if_neg e1, if_neg e2]
        exact ⟨by omega, by simp only; omega⟩
  refine ⟨h1, fun p g hpg => ?_, fun q h0 hq => ?_, fun p g hpg q h0 hle => ?_⟩
  · rcases hsplit p g hpg with hp | ⟨rfl, rfl⟩
    · obtain ⟨a, b⟩ := h.row p g hp
      rw [hv p g hp, hahead p a]
      exact ⟨by omega, b.more h2 h3⟩
    · rw [hahead p hs, hx]
      exact ⟨by omega, hrow⟩
  · by_cases hlt : q < S.length
    · obtain ⟨p, g, a, b, c, _⟩ := hold q h0 hlt
      exact ⟨p, g, a, b, c⟩
    · obtain ⟨e1, e2⟩ := hnew q h0 hq (by omega)
      exact ⟨s, j, hself, by omega, e2⟩
  · rcases hsplit p g hpg with hp | ⟨rfl, rfl⟩
    · rw [hv p g hp] at hle
      obtain ⟨p', g', a, b, c⟩ := h.d1 p g hp q h0 hle
      exact ⟨p', g', hmore p' g' a, b, by rw [hv p' g' a]; exact c⟩
    · rw [hx] at hle
      have hlen : q < (toP S (andI (aheadP next begin S p) (G.getD g 0))).2.length := by rcases h4 with e | e <;> omega
      by_cases hlt : q < S.length
      · obtain ⟨p', g', a, _, c, d⟩ := hold q h0 hlt
        exact ⟨p', g', a, d, c⟩
      · obtain ⟨e1, e2⟩ := hnew q h0 hlen (by omega)
        exact ⟨p, g, hself, .inr ⟨rfl, Nat.le_refl _⟩, e2⟩

/-- The rows that are made, and the one in the making. -/
def valL (R : List (List Int)) (acc : List Int) (s p g : Nat) : Int := if p < s then (R.getD p []).getD g 0 else acc.getD g 0

theorem rowP_SI {next : Nat → Int} {begin : Int} {G : List Int} {R : List (List Int)} {s : Nat} {ahead : Int} : ∀ (d j : Nat) (acc S : List Int), j + d = G.length → acc.length = j → s < S.length → ahead = aheadP next begin S s → SI next begin G S s j (valL R acc s) →
    SI next begin G (rowP ahead (G.drop j) acc S).2 s G.length (valL R (rowP ahead (G.drop j) acc S).1 s) ∧ S.length ≤ (rowP ahead (G.drop j) acc S).2.length := by
  intro d
  induction d with
  | zero =>
    intro j acc S hj _ _ _ h
    have e : j = G.length := by omega
    subst e
    rw [List.drop_length, rowP]
    exact ⟨h, Nat.le_refl _⟩
  | succ k ih =>
    intro j acc S hj hacc hs ha h
    have hjl : j < G.length := by omega
    have hg : G[j]? = some (G.getD j 0) := by rw [List.getD_eq_getElem?_getD, List.getElem?_eq_getElem hjl]; rfl
    rw [rowP_drop hg]
    obtain ⟨h1, h2, h3, h4⟩ := toP_ok h.ok (andI ahead (G.getD j 0))
    have hst : SI next begin G (toP S (andI ahead (G.getD j 0))).2 s (j + 1) (valL R (acc ++ [(toP S (andI ahead (G.getD j 0))).1]) s) := by
      rw [ha]
      refine h.step hjl hs (fun p g hpg => ?_) ?_
      · unfold valL
        by_cases e : p < s
        · rw [if_pos e, if_pos e]
        · rw [if_neg e, if_neg e, getDA_lt (by unfold ahd at hpg; omega)]
      · unfold valL
        rw [if_neg (by omega), ← hacc, getDA_end]
    have := ih (j + 1) (acc ++ [(toP S (andI ahead (G.getD j 0))).1]) (toP S (andI ahead (G.getD j 0))).2 (by omega) (by simp [hacc]) (by omega) (by rw [aheadP_same (h3 s hs)]; exact ha) hst
    exact ⟨this.1, by omega⟩

theorem spreadL_SI {next : Nat → Int} {begin : Int} {G : List Int} : ∀ f s S R, R.length = s → s ≤ S.length → s + f = 1025 → (∀ r ∈ R, r.length = G.length) → SI next begin G S s 0 (valL R [] s) →
    SI next begin G (spreadL next begin G f s S R).1 (spreadL next begin G f s S R).1.length 0 (valL (spreadL next begin G f s S R).2 [] (spreadL next begin G f s S R).1.length) := by
  intro f
  induction f with
  | zero =>
    intro s S R h1 h2 h3 h4 h
    have := sets_len h.ok
    omega
  | succ d ih =>
    intro s S R h1 h2 h3 h4 h
    rw [spreadL]
    by_cases hlt : s < S.length
    · rw [if_pos hlt]
      obtain ⟨k1, k2⟩ := rowP_SI (R := R) (s := s) (ahead := aheadP next begin S s) G.length 0 [] S (by omega) rfl hlt rfl h
      rw [List.drop_zero] at k1 k2
      have hlen := (rowP_ok (ahead := aheadP next begin S s) G [] S h.ok (fun y hy => absurd hy (List.not_mem_nil))).2.2.2.1
      refine ih (s + 1) _ _ (by simp [h1]) (by omega) (by omega) (fun r hr => ?_) ?_
      · rcases List.mem_append.1 hr with q | q
        · exact h4 r q
        · rw [List.mem_singleton] at q; rw [q, hlen]; simp
      · have hval : ∀ p g, ahd G.length s G.length p g → valL (R ++ [(rowP (aheadP next begin S s) G [] S).1]) [] (s + 1) p g = valL R (rowP (aheadP next begin S s) G [] S).1 s p g := fun p g hpg => by
          unfold valL
          have hp : p < s + 1 := by unfold ahd at hpg; omega
          rw [if_pos hp]
          by_cases e : p < s
          · rw [if_pos e, getDA_lt (by omega)]
          · rw [if_neg e]
            have e2 : p = R.length := by omega
            rw [e2, getDA_end]
        have hahd : ∀ p g, ahd G.length (s + 1) 0 p g ↔ ahd G.length s G.length p g := fun p g => by unfold ahd; omega
        refine ⟨k1.ok, fun p g hpg => ?_, fun q h0 hq => ?_, fun p g hpg q h0 hle => ?_⟩
        · rw [hval p g ((hahd p g).1 hpg)]; exact k1.row p g ((hahd p g).1 hpg)
        · obtain ⟨p, g, a, b, c⟩ := k1.occ q h0 hq
          exact ⟨p, g, (hahd p g).2 a, b, by rw [hval p g a]; exact c⟩
        · rw [hval p g ((hahd p g).1 hpg)] at hle
          obtain ⟨p', g', a, b, c⟩ := k1.d1 p g ((hahd p g).1 hpg) q h0 hle
          exact ⟨p', g', (hahd p' g').2 a, b, by rw [hval p' g' a]; exact c⟩
    · rw [if_neg hlt]
      have e : s = S.length := by omega
      subst e
      exact h

/-- The raw automaton of a condition. -/
def rawN (next : Nat → Int) (begin : Int) (G : List Int) : Nat := (spreadP next begin G).1.length
def rawS (next : Nat → Int) (begin : Int) (G : List Int) (s : Nat) : Int := (spreadP next begin G).1.getD s 0
def rawX (next : Nat → Int) (begin : Int) (G : List Int) (s g : Nat) : Int := ((spreadP next begin G).2.getD s []).getD g 0

theorem spreadP_SI (next : Nat → Int) (begin : Int) (G : List Int) : SI next begin G (spreadP next begin G).1 (rawN next begin G) 0 (valL (spreadP next begin G).2 [] (rawN next begin G)) := by
  refine spreadL_SI 1025 0 [0] [] rfl (by simp) rfl (fun r hr => absurd hr List.not_mem_nil) ⟨⟨rfl, by simp, fun x hx => by simp at hx; omega⟩, fun p g hpg => ?_, fun q h0 hq => ?_, fun p g hpg => ?_⟩
  · unfold ahd at hpg; omega
  · simp at hq; omega
  · unfold ahd at hpg; omega

theorem raw_val {next : Nat → Int} {begin : Int} {G : List Int} {p g : Nat} (hp : p < rawN next begin G) : valL (spreadP next begin G).2 [] (rawN next begin G) p g = rawX next begin G p g := by
  unfold valL rawX; rw [if_pos hp]

theorem raw_row (next : Nat → Int) (begin : Int) (G : List Int) {p g : Nat} (hp : p < rawN next begin G) (hg : g < G.length) :
    RowV (spreadP next begin G).1 (andI (if p = 0 then begin else behP next (rawS next begin G p)) (G.getD g 0)) (rawX next begin G p g) := by
  have h := (spreadP_SI next begin G).row p g ⟨hg, .inl hp⟩
  rw [raw_val hp] at h
  exact h.2

theorem raw_auto (next : Nat → Int) (begin : Int) (G : List Int) : Auto (rawN next begin G) G.length (rawX next begin G) :=
  ⟨by
    have := (spreadP_ok next begin G).1.zero
    have := (List.getElem?_eq_some_iff.1 this).1
    exact this, fun p g hp hg => raw_ok next begin G p g hp hg⟩

theorem raw_order (next : Nat → Int) (begin : Int) (G : List Int) : Order (rawN next begin G) G.length (rawX next begin G) := by
  have h := spreadP_SI next begin G
  refine ⟨fun p b q hp hb h0 hle => ?_, fun q h0 hq => ?_⟩
  · rw [← raw_val hp] at hle
    obtain ⟨p', g', a, b', c⟩ := h.d1 p b ⟨hb, .inl hp⟩ q h0 hle
    have hp' : p' < rawN next begin G := by unfold ahd at a; omega
    exact ⟨p', g', a.1, b', by rw [← raw_val hp']; exact c⟩
  · obtain ⟨p, g, a, b', c⟩ := h.occ q h0 hq
    have hp' : p < rawN next begin G := by unfold ahd at a; omega
    exact ⟨p, g, b', a.1, by rw [← raw_val hp']; exact c⟩
end Go.Stn

namespace Go.Stn
open Go.RowKit
theorem ofInt_nat (a : Nat) : BitVec.ofInt 64 (a : Int) = BitVec.ofNat 64 a := by
  apply BitVec.eq_of_toNat_eq
  simp [BitVec.toNat_ofNat]
theorem andI_nat {a b : Nat} (ha : a < 2 ^ 62) (hb : b < 2 ^ 62) : andI (a : Int) (b : Int) = ((a &&& b : Nat) : Int) := by
  have h : (a &&& b) < 2 ^ 62 := Nat.and_lt_two_pow a hb
  show IntKind.i64.wrap (((BitVec.ofInt 64 (a : Int)) &&& (BitVec.ofInt 64 (b : Int))).toNat : Int) = _
  rw [ofInt_nat, ofInt_nat, BitVec.toNat_and, BitVec.toNat_ofNat, BitVec.toNat_ofNat, Nat.mod_eq_of_lt (by omega), Nat.mod_eq_of_lt (by omega)]
  exact IntWalk.i64_in _ (by omega)
theorem orI_nat {a b : Nat} (ha : a < 2 ^ 62) (hb : b < 2 ^ 62) : orI (a : Int) (b : Int) = ((a ||| b : Nat) : Int) := by
  have h : (a ||| b) < 2 ^ 62 := Nat.or_lt_two_pow ha hb
  show IntKind.i64.wrap (((BitVec.ofInt 64 (a : Int)) ||| (BitVec.ofInt 64 (b : Int))).toNat : Int) = _
  rw [ofInt_nat, ofInt_nat, BitVec.toNat_or, BitVec.toNat_ofNat, BitVec.toNat_ofNat, Nat.mod_eq_of_lt (by omega), Nat.mod_eq_of_lt (by omega)]
  exact IntWalk.i64_in _ (by omega)

/-- A set of places. -/
def isSet (x : Int) : Prop := 0 ≤ x ∧ x < 1024
/-- Is the place in it? -/
def inS (x : Int) (p : Nat) : Bool := x.toNat.testBit p
theorem isSet_nat {x : Int} (h : isSet x) : ∃ a : Nat, x = (a : Int) ∧ a < 2 ^ 10 := ⟨x.toNat, by have := h.1; omega, by have := h.1; have := h.2; omega⟩
theorem isSet_zero : isSet 0 := ⟨by omega, by omega⟩
theorem isSet_or {x y : Int} (h : isSet x) (k : isSet y) : isSet (orI x y) := by
  obtain ⟨a, rfl, ha⟩ := isSet_nat h
  obtain ⟨b, rfl, hb⟩ := isSet_nat k
  rw [orI_nat (by omega) (by omega)]
  have := Nat.or_lt_two_pow ha hb
  exact ⟨by omega, by omega⟩
theorem isSet_and {x y : Int} (h : isSet x) (k : isSet y) : isSet (andI x y) := by
  obtain ⟨a, rfl, ha⟩ := isSet_nat h
  obtain ⟨b, rfl, hb⟩ := isSet_nat k
  rw [andI_nat (by omega) (by omega)]
  have := Nat.and_lt_two_pow a hb
  exact ⟨by omega, by omega⟩
theorem inS_or {x y : Int} (h : isSet x) (k : isSet y) (p : Nat) : inS (orI x y) p = (inS x p || inS y p) := by
  obtain ⟨a, rfl, ha⟩ := isSet_nat h
  obtain ⟨b, rfl, hb⟩ := isSet_nat k
  rw [orI_nat (by omega) (by omega)]
  unfold inS
  simp
theorem inS_and {x y : Int} (h : isSet x) (k : isSet y) (p : Nat) : inS (andI x y) p = (inS x p && inS y p) := by
  obtain ⟨a, rfl, ha⟩ := isSet_nat h
  obtain ⟨b, rfl, hb⟩ := isSet_nat k
  rw [andI_nat (by omega) (by omega)]
  unfold inS
  simp
theorem inS_zero (p : Nat) : inS 0 p = false := by unfold inS; simp
theorem isSet_pow {k : Nat} (h : k < 10) : isSet (pow2 k) := by
  unfold pow2
  have := Nat.pow_lt_pow_right (a := 2) (by omega) h
  exact ⟨Int.natCast_nonneg _, Int.ofNat_lt.2 this⟩
theorem inS_pow (k p : Nat) : inS (pow2 k) p = decide (k = p) := by
  unfold inS pow2
  rw [Int.toNat_natCast, Nat.testBit_two_pow]
theorem inS_far {x : Int} (h : isSet x) {p : Nat} (hp : 10 ≤ p) : inS x p = false := by
  obtain ⟨a, rfl, ha⟩ := isSet_nat h
  unfold inS
  rw [Int.toNat_natCast]
  exact Nat.testBit_lt_two_pow (Nat.lt_of_lt_of_le ha (Nat.pow_le_pow_right (by omega) hp))
theorem set_ext {x y : Int} (h : isSet x) (k : isSet y) (he : ∀ p, inS x p = inS y p) : x = y := by
  obtain ⟨a, rfl, ha⟩ := isSet_nat h
  obtain ⟨b, rfl, hb⟩ := isSet_nat k
  have : a = b := Nat.eq_of_testBit_eq (fun i => by have := he i; unfold inS at this; simpa using this)
  rw [this]
theorem set_pos {x : Int} (h : isSet x) : 0 < x ↔ ∃ p, inS x p = true := by
  constructor
  · intro hx
    apply Classical.byContradiction
    intro hc
    have : x = 0 := set_ext h isSet_zero (fun p => by
      rw [inS_zero]
      cases e : inS x p with
      | false => rfl
      | true => exact absurd ⟨p, e⟩ hc)
    omega
  · rintro ⟨p, hp⟩
    have := h.1
    have hne : x ≠ 0 := fun e => by rw [e, inS_zero] at hp; cases hp
    omega
theorem and_ne {x y : Int} (h : isSet x) (k : isSet y) : andI x y ≠ 0 ↔ ∃ p, inS x p = true ∧ inS y p = true := by
  have hs := isSet_and h k
  have h0 := set_pos hs
  constructor
  · intro hx
    obtain ⟨p, hp⟩ := h0.1 (by have := hs.1; omega)
    rw [inS_and h k, Bool.and_eq_true] at hp
    exact ⟨p, hp⟩
  · rintro ⟨p, h1, h2⟩ e
    have : inS (andI x y) p = true := by rw [inS_and h k, h1, h2]; rfl
    rw [e, inS_zero] at this; cases this

theorem and_pow {x : Int} (h : isSet x) {k : Nat} (hk : k < 10) : andI x (pow2 k) = 0 ↔ inS x k = false := by
  have := and_ne h (isSet_pow hk)
  constructor
  · intro e
    cases hx : inS x k with
    | false => rfl
    | true => exact absurd e (this.2 ⟨k, hx, by rw [inS_pow]; simp⟩)
  · intro e
    apply Classical.byContradiction
    intro hc
    obtain ⟨p, h1, h2⟩ := this.1 hc
    rw [inS_pow, decide_eq_true_eq] at h2
    subst h2
    rw [e] at h1; cases h1

theorem behK_set {next : Nat → Int} (hn : ∀ p, p < 10 → isSet (next p)) {pl : Int} : ∀ k, k ≤ 10 → isSet (behK next pl k) := by
  intro k
  induction k with
  | zero => intro _; exact isSet_zero
  | succ j ih =>
    intro h
    rw [behK]
    split
    · exact ih (by omega)
    · exact isSet_or (ih (by omega)) (hn j (by omega))
theorem behK_in {next : Nat → Int} (hn : ∀ p, p < 10 → isSet (next p)) {pl : Int} (hp : isSet pl) (q : Nat) : ∀ k, k ≤ 10 → (inS (behK next pl k) q = true ↔ ∃ p, p < k ∧ inS pl p = true ∧ inS (next p) q = true) := by
  intro k
  induction k with
  | zero => intro _; rw [behK, inS_zero]; constructor
            · intro h; cases h
            · rintro ⟨p, h, _⟩; omega
  | succ j ih =>
    intro h
    have hi := ih (by omega)
    rw [behK]
    by_cases e : andI pl (pow2 j) = 0
    · rw [if_pos e, hi]
      have hf := (and_pow hp (by omega)).1 e
      constructor
      · rintro ⟨p, h1, h2⟩; exact ⟨p, by omega, h2⟩
      · rintro ⟨p, h1, h2, h3⟩
        refine ⟨p, ?_, h2, h3⟩
        have : p ≠ j := fun e => by rw [e, hf] at h2; cases h2
        omega
    · rw [if_neg e, inS_or (behK_set hn j (by omega)) (hn j (by omega)), Bool.or_eq_true, hi]
      have hf : inS pl j = true := by
        cases hx : inS pl j with
        | true => rfl
        | false => exact absurd ((and_pow hp (by omega)).2 hx) e
      constructor
      · rintro (⟨p, h1, h2⟩ | h2)
        · exact ⟨p, by omega, h2⟩
        · exact ⟨j, by omega, hf, h2⟩
      · rintro ⟨p, h1, h2, h3⟩
        by_cases e2 : p = j
        · subst e2; exact .inr h3
        · exact .inl ⟨p, by omega, h2, h3⟩
theorem behP_set {next : Nat → Int} (hn : ∀ p, p < 10 → isSet (next p)) (pl : Int) : isSet (behP next pl) := behK_set hn 10 (Nat.le_refl _)
theorem behP_in {next : Nat → Int} (hn : ∀ p, p < 10 → isSet (next p)) {pl : Int} (hp : isSet pl) (q : Nat) : inS (behP next pl) q = true ↔ ∃ p, p < 10 ∧ inS pl p = true ∧ inS (next p) q = true := behK_in hn hp q 10 (Nat.le_refl _)

/-- The token of a set: the first rule with whose last places it meets. -/
theorem tokL_spec {pl : Int} (hp : isSet pl) : ∀ (l : List Int) (k : Nat), (∀ x ∈ l, isSet x) →
    (tokL l pl k = 0 ∧ ∀ x ∈ l, ¬ ∃ p, inS pl p = true ∧ inS x p = true) ∨
    ∃ r, tokL l pl k = k + r + 1 ∧ r < l.length ∧ (∃ p, inS pl p = true ∧ inS (l.getD r 0) p = true) ∧ ∀ r', r' < r → ¬ ∃ p, inS pl p = true ∧ inS (l.getD r' 0) p = true := by
  intro l
  induction l with
  | nil => intro k _; exact .inl ⟨rfl, fun x hx => absurd hx List.not_mem_nil⟩
  | cons a l ih =>
    intro k hl
    rw [tokL]
    have ha := hl a List.mem_cons_self
    by_cases e : andI pl a = 0
    · rw [if_pos e]
      have hno : ¬ ∃ p, inS pl p = true ∧ inS a p = true := fun h => (and_ne hp ha).2 h e
      rcases ih (k + 1) (fun x hx => hl x (List.mem_cons_of_mem _ hx)) with ⟨h1, h2⟩ | ⟨r, h1, h2, h3, h4⟩
      · refine .inl ⟨h1, fun x hx => ?_⟩
        rcases List.mem_cons.1 hx with e2 | e2
        · rw [e2]; exact hno
        · exact h2 x e2
      · refine .inr ⟨r + 1, by omega, by simp; omega, by simpa using h3, fun r' hr' => ?_⟩
        cases r' with
        | zero => simpa using hno
        | succ j => have := h4 j (by omega); simpa using this
    · rw [if_neg e]
      exact .inr ⟨0, by omega, by simp, by simpa using (and_ne hp ha).1 e, fun r' hr' => by omega⟩
end Go.Stn

