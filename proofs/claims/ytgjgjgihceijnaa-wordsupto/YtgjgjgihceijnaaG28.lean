/- Texts put together: AkPure, KtLeaf. -/
import Derived.Test.YtgjgjgihceijnaaG27
import Derived.Test.YtgjgjgihceijnaaG02
import Derived.Test.YtgjgjgihceijnaaG01
namespace Go.Stn
/-- A rule's tree. -/
inductive Tr where
  | let1 (a : Nat)
  | two (a b : Nat)
  | any
  | row (a b : Tr)
  | or2 (a b : Tr)
  | many (a : Tr)
  | once (a : Tr)
  | may (a : Tr)
def Tr.txt : Tr → List Nat
  | .let1 a => [a]
  | .two a b => [91, a, b, 93]
  | .any => [46]
  | .row a b => 40 :: (a.txt ++ (b.txt ++ [41]))
  | .or2 a b => 40 :: (a.txt ++ (124 :: (b.txt ++ [41])))
  | .many a => 40 :: (a.txt ++ [41, 42])
  | .once a => 40 :: (a.txt ++ [41, 43])
  | .may a => 40 :: (a.txt ++ [41, 63])
def Tr.oth : Tr → List Nat
  | .let1 a => [91, a, 45, a, 93]
  | .two a b => [40, b, 124, a, 41]
  | .any => [40, 91, 94, 97, 93, 124, 97, 41]
  | .row a b => 40 :: (a.oth ++ (41 :: 40 :: (b.oth ++ [41])))
  | .or2 a b => 40 :: (b.oth ++ (124 :: (a.oth ++ (124 :: (b.oth ++ [41])))))
  | .many a => 40 :: 40 :: (a.oth ++ [41, 42, 41, 42])
  | .once a => 40 :: (a.oth ++ (41 :: 40 :: (a.oth ++ [41, 42])))
  | .may a => 40 :: 40 :: (a.oth ++ [41, 63, 41, 63])
def Tr.pls : Tr → Nat
  | .let1 _ => 1
  | .two _ _ => 1
  | .any => 1
  | .row a b => a.pls + b.pls
  | .or2 a b => a.pls + b.pls
  | .many a => a.pls
  | .once a => a.pls
  | .may a => a.pls
def Tr.mor : Tr → Nat
  | .let1 _ => 1
  | .two _ _ => 2
  | .any => 2
  | .row a b => a.mor + b.mor
  | .or2 a b => a.mor + b.mor + b.mor
  | .many a => a.mor
  | .once a => 2 * a.mor
  | .may a => a.mor
/-- Small letters. -/
def lowL (a : Nat) : Prop := 97 ≤ a ∧ a ≤ 122
def Tr.good : Tr → Prop
  | .let1 a => lowL a
  | .two a b => lowL a ∧ lowL b
  | .any => True
  | .row a b => a.good ∧ b.good
  | .or2 a b => a.good ∧ b.good
  | .many a => a.good
  | .once a => a.good
  | .may a => a.good
def oneF (a : Nat) : Nat → Bool := withB zeroF a a
def Tr.rxT : Tr → Rx
  | .let1 a => .pl (oneF a)
  | .two a b => .pl (withB (oneF a) b b)
  | .any => .pl (fun i => !(zeroF i))
  | .row a b => .cat a.rxT b.rxT
  | .or2 a b => .alt a.rxT b.rxT
  | .many a => .star a.rxT
  | .once a => .plus a.rxT
  | .may a => .opt a.rxT
def Tr.rxO : Tr → Rx
  | .let1 a => .pl (oneF a)
  | .two a b => .alt (.pl (oneF b)) (.pl (oneF a))
  | .any => .alt (.pl (fun i => !(oneF 97 i))) (.pl (oneF 97))
  | .row a b => .cat a.rxO b.rxO
  | .or2 a b => .alt (.alt b.rxO a.rxO) b.rxO
  | .many a => .star (.star a.rxO)
  | .once a => .cat a.rxO (.star a.rxO)
  | .may a => .opt (.opt a.rxO)
theorem Tr.np_T : ∀ r : Tr, r.rxT.np = r.pls
  | .let1 _ => rfl
  | .two _ _ => rfl
  | .any => rfl
  | .row a b => by show a.rxT.np + b.rxT.np = a.pls + b.pls; rw [a.np_T, b.np_T]
  | .or2 a b => by show a.rxT.np + b.rxT.np = a.pls + b.pls; rw [a.np_T, b.np_T]
  | .many a => a.np_T
  | .once a => a.np_T
  | .may a => a.np_T
theorem Tr.np_O : ∀ r : Tr, r.rxO.np = r.mor
  | .let1 _ => rfl
  | .two _ _ => rfl
  | .any => rfl
  | .row a b => by show a.rxO.np + b.rxO.np = a.mor + b.mor; rw [a.np_O, b.np_O]
  | .or2 a b => by show b.rxO.np + a.rxO.np + b.rxO.np = a.mor + b.mor + b.mor; rw [a.np_O, b.np_O]; omega
  | .many a => a.np_O
  | .once a => by show a.rxO.np + a.rxO.np = 2 * a.mor; rw [a.np_O]; omega
  | .may a => a.np_O

theorem Plus.mono {L M : List Nat → Prop} (h : ∀ w, L w → M w) {w : List Nat} (hp : Plus L w) : Plus M w := by
  induction hp with
  | one hl => exact .one (h _ hl)
  | more hl _ ih => exact .more (h _ hl) ih
theorem Plus.congr {L M : List Nat → Prop} (h : ∀ w, L w ↔ M w) (w : List Nat) : Plus L w ↔ Plus M w := ⟨Plus.mono (fun w => (h w).1), Plus.mono (fun w => (h w).2)⟩
theorem Plus.app {L : List Nat → Prop} {u v : List Nat} (h : Plus L u) (k : Plus L v) : Plus L (u ++ v) := by
  induction h with
  | one hl => exact .more hl k
  | more hl _ ih => rw [List.append_assoc]; exact .more hl ih
theorem Plus.star2 {L : List Nat → Prop} {w : List Nat} (h : Plus (fun w => w = [] ∨ Plus L w) w) : w = [] ∨ Plus L w := by
  induction h with
  | one hl => exact hl
  | more hl _ ih =>
    rcases hl with e | e
    · rw [e, List.nil_append]; exact ih
    · rcases ih with i | i
      · rw [i, List.append_nil]; exact .inr e
      · exact .inr (e.app i)
theorem Plus.split {L : List Nat → Prop} {w : List Nat} : Plus L w ↔ ∃ u v, w = u ++ v ∧ L u ∧ (v = [] ∨ Plus L v) := by
  constructor
  · intro h
    cases h with
    | one hl => exact ⟨w, [], (List.append_nil w).symm, hl, .inl rfl⟩
    | more hl hp => exact ⟨_, _, rfl, hl, .inr hp⟩
  · rintro ⟨u, v, rfl, hu, hv | hv⟩
    · rw [hv, List.append_nil]; exact .one hu
    · exact .more hu hv
theorem oneF_iff {a b : Nat} : oneF a b = true ↔ b = a := by
  unfold oneF withB zeroF
  simp only [Bool.or_false, decide_eq_true_eq]; omega
theorem Tr.same_W : ∀ (r : Tr), r.good → ∀ w, W r.rxT w ↔ W r.rxO w
  | .let1 _, _, _ => Iff.rfl
  | .two a b, _, w => by
    show (∃ x, w = [x] ∧ x < 256 ∧ withB (oneF a) b b x = true) ↔ ((∃ x, w = [x] ∧ x < 256 ∧ oneF b x = true) ∨ (∃ x, w = [x] ∧ x < 256 ∧ oneF a x = true))
    have hw : ∀ x, withB (oneF a) b b x = true ↔ (x = b ∨ x = a) := fun x => by
      unfold withB
      rw [Bool.or_eq_true, oneF_iff, decide_eq_true_eq]; omega
    simp only [hw, oneF_iff]
    constructor
    · rintro ⟨x, h1, h2, h3 | h3⟩
      · exact .inl ⟨x, h1, h2, h3⟩
      · exact .inr ⟨x, h1, h2, h3⟩
    · rintro (⟨x, h1, h2, h3⟩ | ⟨x, h1, h2, h3⟩)
      · exact ⟨x, h1, h2, .inl h3⟩
      · exact ⟨x, h1, h2, .inr h3⟩
  | .any, _, w => by
    show (∃ x, w = [x] ∧ x < 256 ∧ (!(zeroF x)) = true) ↔ ((∃ x, w = [x] ∧ x < 256 ∧ (!(oneF 97 x)) = true) ∨ (∃ x, w = [x] ∧ x < 256 ∧ oneF 97 x = true))
    constructor
    · rintro ⟨x, h1, h2, _⟩
      by_cases h : oneF 97 x = true
      · exact .inr ⟨x, h1, h2, h⟩
      · exact .inl ⟨x, h1, h2, by simpa using h⟩
    · rintro (⟨x, h1, h2, _⟩ | ⟨x, h1, h2, _⟩) <;> exact ⟨x, h1, h2, rfl⟩
  | .row a b, h, w => by
    have ha := a.same_W h.1
    have hb := b.same_W h.2
    show (∃ u v, w = u ++ v ∧ W a.rxT u ∧ W b.rxT v) ↔ ∃ u v, w = u ++ v ∧ W a.rxO u ∧ W b.rxO v
    simp only [ha, hb]
  | .or2 a b, h, w => by
    have ha := a.same_W h.1
    have hb := b.same_W h.2
    show (W a.rxT w ∨ W b.rxT w) ↔ ((W b.rxO w ∨ W a.rxO w) ∨ W b.rxO w)
    simp only [ha, hb]
    constructor
    · rintro (h | h)
      · exact .inl (.inr h)
      · exact .inr h
    · rintro ((h | h) | h)
      · exact .inr h
      · exact .inl h
      · exact .inr h
  | .many a, h, w => by
    have ha := a.same_W h
    show (w = [] ∨ Plus (W a.rxT) w) ↔ (w = [] ∨ Plus (fun w => w = [] ∨ Plus (W a.rxO) w) w)
    rw [Plus.congr ha w]
    constructor
    · rintro (h | h)
      · exact .inl h
      · exact .inr (.one (.inr h))
    · rintro (h | h)
      · exact .inl h
      · exact h.star2
  | .once a, h, w => by
    have ha := a.same_W h
    show Plus (W a.rxT) w ↔ ∃ u v, w = u ++ v ∧ W a.rxO u ∧ (v = [] ∨ Plus (W a.rxO) v)
    rw [Plus.congr ha w, Plus.split]
  | .may a, h, w => by
    have ha := a.same_W h
    show (w = [] ∨ W a.rxT w) ↔ (w = [] ∨ (w = [] ∨ W a.rxO w))
    rw [ha w]
    constructor
    · rintro (h | h)
      · exact .inl h
      · exact .inr (.inr h)
    · rintro (h | h | h)
      · exact .inl h
      · exact .inl h
      · exact .inr h

/-- The text u stands at a. -/
def Stands (t : ByteArray) : Nat → List Nat → Prop
  | _, [] => True
  | a, b :: u => peekP t a = (b : Int) ∧ Stands t (a + 1) u
theorem Stands.app {t : ByteArray} : ∀ {u : List Nat} {a : Nat} {v : List Nat}, Stands t a (u ++ v) → Stands t a u ∧ Stands t (a + u.length) v
  | [], _, _, h => ⟨trivial, h⟩
  | b :: u, a, v, h => by
    obtain ⟨h1, h2⟩ := h
    obtain ⟨h3, h4⟩ := Stands.app h2
    exact ⟨⟨h1, h3⟩, by rw [List.length_cons, show a + (u.length + 1) = a + 1 + u.length by omega]; exact h4⟩
theorem Stands.size {t : ByteArray} : ∀ {u : List Nat} {a : Nat}, Stands t a u → 0 < u.length → a + u.length ≤ t.size
  | [], _, _, h => by simp at h
  | b :: u, a, h, _ => by
    obtain ⟨h1, h2⟩ := h
    have ha : a < t.size := by
      apply Classical.byContradiction
      intro hc
      rw [peekP_end (by omega)] at h1
      omega
    by_cases e : 0 < u.length
    · have := Stands.size h2 e
      simp only [List.length_cons]; omega
    · simp only [List.length_cons]; omega

section
variable {t : ByteArray}
theorem isB_at {a : Nat} {b c : Int} (h : peekP t a = b) : isB t c a = decide (b = c) := by unfold isB; rw [h]
theorem rd_alt1 {ex : Nat → Option (Rx × Nat)} {a n : Nat} {r : Rx} (h : pieceX t ex a = some (r, n)) (h2 : atPieceX t n = false) : altX t ex a = some (r, n) := by
  unfold altX; rw [h]; simp only; rw [altLoopX, if_pos h2]
theorem rd_alt2 {ex : Nat → Option (Rx × Nat)} {a m n : Nat} {r r2 : Rx} (h : pieceX t ex a = some (r, m)) (h2 : atPieceX t m = true) (h3 : pieceX t ex m = some (r2, n)) (h4 : atPieceX t n = false) (hs : 0 < t.size) : altX t ex a = some (.cat r r2, n) := by
  obtain ⟨k, hk⟩ : ∃ k, t.size = k + 1 := ⟨t.size - 1, by omega⟩
  unfold altX; rw [h]; simp only; rw [hk, altLoopX, if_neg (by rw [h2]; decide), h3]
  simp only
  rw [altLoopX, if_pos h4]
theorem rd_ex1 {f a n : Nat} {r : Rx} (h : altX t (exprX t f) a = some (r, n)) (h2 : isB t 124 n = false) : exprX t (f + 1) a = some (r, n) := by
  rw [exprX, h]; simp only; rw [exprLoopX, if_pos h2]
theorem rd_ex2 {f a m n : Nat} {r r2 : Rx} (h : altX t (exprX t f) a = some (r, m)) (h2 : isB t 124 m = true) (h3 : altX t (exprX t f) (m + 1) = some (r2, n)) (h4 : isB t 124 n = false) (hs : 0 < t.size) : exprX t (f + 1) a = some (.alt r r2, n) := by
  obtain ⟨k, hk⟩ : ∃ k, t.size = k + 1 := ⟨t.size - 1, by omega⟩
  rw [exprX, h]; simp only; rw [hk, exprLoopX, if_neg (by rw [h2]; decide), h3]
  simp only
  rw [exprLoopX, if_pos h4]
theorem rd_ex3 {f a m n o : Nat} {r r2 r3 : Rx} (h : altX t (exprX t f) a = some (r, m)) (h2 : isB t 124 m = true) (h3 : altX t (exprX t f) (m + 1) = some (r2, n)) (h4 : isB t 124 n = true) (h5 : altX t (exprX t f) (n + 1) = some (r3, o)) (h6 : isB t 124 o = false) (hs : 1 < t.size) : exprX t (f + 1) a = some (.alt (.alt r r2) r3, o) := by
  obtain ⟨k, hk⟩ : ∃ k, t.size = k + 1 + 1 := ⟨t.size - 2, by omega⟩
  rw [exprX, h]; simp only; rw [hk, exprLoopX, if_neg (by rw [h2]; decide), h3]
  simp only
  rw [exprLoopX, if_neg (by rw [h4]; decide), h5]
  simp only
  rw [exprLoopX, if_pos h6]
theorem rd_par0 {ex : Nat → Option (Rx × Nat)} {a n : Nat} {r : Rx} (h1 : isB t 40 a = true) (h2 : ex (a + 1) = some (r, n)) (h3 : isB t 41 n = true) (h4 : markK (peekP t (n + 1)) = 0) : pieceX t ex a = some (r, n + 1) := by
  unfold pieceX atomX; rw [if_pos h1, h2]; simp only; rw [if_pos h3]; simp only; rw [if_pos h4]
theorem rd_parM {ex : Nat → Option (Rx × Nat)} {a n : Nat} {r : Rx} {k : Int} (h1 : isB t 40 a = true) (h2 : ex (a + 1) = some (r, n)) (h3 : isB t 41 n = true) (h4 : markK (peekP t (n + 1)) = k) (hk : k ≠ 0) : pieceX t ex a = some (markX k r, n + 2) := by
  unfold pieceX atomX; rw [if_pos h1, h2]; simp only; rw [if_pos h3]; simp only; rw [h4, if_neg hk]
theorem rd_plc {ex : Nat → Option (Rx × Nat)} {a n : Nat} {g : Nat → Bool} (h1 : isB t 40 a = false) (h2 : allowedX t a = some (g, n)) (h3 : markK (peekP t n) = 0) : pieceX t ex a = some (.pl g, n) := by
  unfold pieceX atomX; rw [if_neg (by rw [h1]; decide), h2]; simp only; rw [if_pos h3]

theorem low_plain : ∀ a : Nat, a < 123 → 97 ≤ a → plainB (a : Int) spOut = true ∧ plainB (a : Int) spIn = true := by decide +kernel
theorem single_low {sp : ByteArray} {a : Nat} {x : Nat} (hp : peekP t a = (x : Int)) (hx : lowL x) (h : plainB (x : Int) sp = true) : singleX t sp a = some ((x : Int), a + 1) := by
  unfold singleX
  rw [isB_at hp, if_neg (by rw [decide_eq_true_eq]; unfold lowL at hx; omega), hp, if_pos h]
theorem low_out {x : Nat} (hx : lowL x) : plainB (x : Int) spOut = true := (low_plain x (by unfold lowL at hx; omega) hx.1).1
theorem low_in {x : Nat} (hx : lowL x) : plainB (x : Int) spIn = true := (low_plain x (by unfold lowL at hx; omega) hx.1).2
theorem al_low {a x : Nat} (hp : peekP t a = (x : Int)) (hx : lowL x) : allowedX t a = some (oneF x, a + 1) := by
  unfold allowedX
  have hx' := hx
  unfold lowL at hx'
  rw [isB_at hp, isB_at hp, if_neg (by rw [decide_eq_true_eq]; omega), if_neg (by rw [decide_eq_true_eq]; omega), single_low hp hx (low_out hx)]
  rfl
theorem al_dot {a : Nat} (hp : peekP t a = 46) : allowedX t a = some ((fun i => !(zeroF i)), a + 1) := by
  unfold allowedX
  rw [isB_at hp, isB_at hp, if_neg (by decide), if_pos (by decide)]
theorem mem_low {a x : Nat} {f : Nat → Bool} (hp : peekP t a = (x : Int)) (hx : lowL x) (h2 : isB t 45 (a + 1) = false) : memberX t f a = some (withB f x x, a + 1) := by
  unfold memberX
  rw [single_low hp hx (low_in hx)]
  simp only
  rw [if_pos h2]
theorem mem_range {a x : Nat} {f : Nat → Bool} (hp : peekP t a = (x : Int)) (hx : lowL x) (h2 : peekP t (a + 1) = 45) (h3 : peekP t (a + 2) = (x : Int)) : memberX t f a = some (withB f x x, a + 3) := by
  unfold memberX
  rw [single_low hp hx (low_in hx)]
  simp only
  rw [isB_at h2, if_neg (by decide), single_low (a := a + 1 + 1) h3 hx (low_in hx)]
  simp only
  rw [if_neg (by omega)]
theorem al_two {a x y : Nat} (h0 : peekP t a = 91) (h1 : peekP t (a + 1) = (x : Int)) (h2 : peekP t (a + 2) = (y : Int)) (h3 : peekP t (a + 3) = 93) (hx : lowL x) (hy : lowL y) (hs : 0 < t.size) : allowedX t a = some (withB (oneF x) y y, a + 4) := by
  obtain ⟨k, hk⟩ : ∃ k, t.size = k + 1 := ⟨t.size - 1, by omega⟩
  have hx' := hx
  have hy' := hy
  unfold lowL at hx' hy'
  unfold allowedX setX setRX
  rw [isB_at h0, if_pos (by decide), isB_at h1, if_neg (by rw [decide_eq_true_eq]; omega), mem_low h1 hx (by rw [isB_at (a := a + 1 + 1) h2, decide_eq_false_iff_not]; omega)]
  simp only
  rw [hk, setLoopX, isB_at (a := a + 1 + 1) h2, if_neg (by rw [decide_eq_true_eq]; omega), mem_low (a := a + 1 + 1) h2 hy (by rw [isB_at (a := a + 1 + 1 + 1) h3]; decide)]
  simp only
  rw [setLoopX, isB_at (a := a + 1 + 1 + 1) h3, if_pos (by decide)]
  rfl
theorem al_range {a x : Nat} (h0 : peekP t a = 91) (h1 : peekP t (a + 1) = (x : Int)) (h2 : peekP t (a + 2) = 45) (h3 : peekP t (a + 3) = (x : Int)) (h4 : peekP t (a + 4) = 93) (hx : lowL x) : allowedX t a = some (oneF x, a + 5) := by
  have hx' := hx
  unfold lowL at hx'
  unfold allowedX setX setRX
  rw [isB_at h0, if_pos (by decide), isB_at h1, if_neg (by rw [decide_eq_true_eq]; omega), mem_range h1 hx h2 h3]
  simp only
  rw [setLoopX, isB_at (a := a + 1 + 3) h4, if_pos (by decide)]
  rfl
theorem al_not {a : Nat} (h0 : peekP t a = 91) (h1 : peekP t (a + 1) = 94) (h2 : peekP t (a + 2) = 97) (h3 : peekP t (a + 3) = 93) : allowedX t a = some ((fun i => !(oneF 97 i)), a + 4) := by
  unfold allowedX setX setRX
  rw [isB_at h0, if_pos (by decide), isB_at h1, if_pos (by decide), mem_low (a := a + 1 + 1) (x := 97) h2 (by unfold lowL; omega) (by rw [isB_at (a := a + 1 + 1 + 1) h3]; decide)]
  simp only
  rw [setLoopX, isB_at (a := a + 1 + 1 + 1) h3, if_pos (by decide)]
  rfl

/-- Where a piece may begin; where an alternative ends. -/
def startB (b : Int) : Prop := (97 ≤ b ∧ b ≤ 122) ∨ b = 91 ∨ b = 46 ∨ b = 40
def stopB (b : Int) : Prop := b = 41 ∨ b = 124 ∨ b = 32
theorem start_at {a : Nat} {b : Int} (h : peekP t a = b) (hb : startB b) : atPieceX t a = true := by
  unfold atPieceX
  rw [h]
  rcases hb with ⟨h1, h2⟩ | h1 | h1 | h1
  · obtain ⟨x, rfl⟩ : ∃ x : Nat, b = (x : Int) := ⟨b.toNat, by omega⟩
    rw [low_out ⟨by omega, by omega⟩, Bool.or_true]
  · subst h1; rfl
  · subst h1; rfl
  · subst h1; rfl
theorem stop_at {a : Nat} {b : Int} (h : peekP t a = b) (hb : stopB b) : atPieceX t a = false := by
  unfold atPieceX
  rw [h]
  rcases hb with h1 | h1 | h1
  · subst h1; decide
  · subst h1; decide
  · subst h1; decide
theorem start_mark {b : Int} (hb : startB b) : markK b = 0 := by
  unfold markK
  rcases hb with ⟨h1, h2⟩ | h1 | h1 | h1
  all_goals rw [if_neg (by omega), if_neg (by omega), if_neg (by omega)]
theorem stop_mark {b : Int} (hb : stopB b) : markK b = 0 := by
  unfold markK
  rcases hb with h1 | h1 | h1
  all_goals rw [if_neg (by omega), if_neg (by omega), if_neg (by omega)]
theorem Tr.txt_start : ∀ (r : Tr), r.good → ∃ b u, r.txt = b :: u ∧ startB (b : Int)
  | .let1 a, h => ⟨a, [], rfl, .inl (by have h : lowL a := h; unfold lowL at h; omega)⟩
  | .two _ _, _ => ⟨_, _, rfl, by unfold startB; omega⟩
  | .any, _ => ⟨_, _, rfl, by unfold startB; omega⟩
  | .row _ _, _ => ⟨_, _, rfl, by unfold startB; omega⟩
  | .or2 _ _, _ => ⟨_, _, rfl, by unfold startB; omega⟩
  | .many _, _ => ⟨_, _, rfl, by unfold startB; omega⟩
  | .once _, _ => ⟨_, _, rfl, by unfold startB; omega⟩
  | .may _, _ => ⟨_, _, rfl, by unfold startB; omega⟩

/-- The first spelling is a piece. -/
theorem Tr.txt_piece : ∀ (r : Tr), r.good → ∀ (a f : Nat), r.txt.length ≤ f → Stands t a r.txt → markK (peekP t (a + r.txt.length)) = 0 → pieceX t (exprX t f) a = some (r.rxT, a + r.txt.length)
  | .let1 x, hg, a, f, _, hs, hm => rd_plc (by rw [isB_at hs.1, decide_eq_false_iff_not]; have hg : lowL x := hg; unfold lowL at hg; omega) (al_low hs.1 hg) hm
  | .two x y, hg, a, f, _, hs, hm => rd_plc (by rw [isB_at hs.1]; rfl) (al_two hs.1 hs.2.1 hs.2.2.1 hs.2.2.2.1 hg.1 hg.2 (by have := hs.size (Nat.succ_pos _); simp only [Tr.txt, List.length_cons] at this; omega)) hm
  | .any, _, a, f, _, hs, hm => rd_plc (by rw [isB_at hs.1]; rfl) (al_dot hs.1) hm
  | .row x y, hg, a, f, hf, hs, hm => by
    have hz := hs.size (Nat.succ_pos _)
    have hlen : (Tr.row x y).txt.length = x.txt.length + y.txt.length + 2 := by simp only [Tr.txt, List.length_cons, List.length_append, List.length_nil]; omega
    obtain ⟨h0, h1⟩ := hs
    obtain ⟨h2, h3⟩ := h1.app
    obtain ⟨h4, h5, _⟩ := h3.app
    rw [hlen] at hf hm hz ⊢
    obtain ⟨g, rfl⟩ : ∃ g, f = g + 1 := ⟨f - 1, by omega⟩
    obtain ⟨b, u, eb, hb⟩ := y.txt_start hg.2
    have h4b := h4
    rw [eb] at h4b
    have p1 := x.txt_piece hg.1 (a + 1) g (by omega) h2 (by rw [h4b.1]; exact start_mark hb)
    have p2 := y.txt_piece hg.2 (a + 1 + x.txt.length) g (by omega) h4 (by rw [h5]; decide)
    have p3 := rd_ex1 (rd_alt2 p1 (start_at h4b.1 hb) p2 (stop_at h5 (.inl rfl)) (by omega)) (by rw [isB_at h5]; rfl)
    have p4 := rd_par0 (by rw [isB_at h0]; rfl) p3 (by rw [isB_at h5]; rfl) (by rw [show a + 1 + x.txt.length + y.txt.length + 1 = a + (x.txt.length + y.txt.length + 2) by omega]; exact hm)
    rw [p4, show a + 1 + x.txt.length + y.txt.length + 1 = a + (x.txt.length + y.txt.length + 2) by omega]
    rfl
  | .or2 x y, hg, a, f, hf, hs, hm => by
    have hz := hs.size (Nat.succ_pos _)
    have hlen : (Tr.or2 x y).txt.length = x.txt.length + y.txt.length + 3 := by simp only [Tr.txt, List.length_cons, List.length_append, List.length_nil]; omega
    obtain ⟨h0, h1⟩ := hs
    obtain ⟨h2, h3⟩ := h1.app
    obtain ⟨h3, h3b⟩ := h3
    obtain ⟨h4, h5, _⟩ := h3b.app
    rw [hlen] at hf hm hz ⊢
    obtain ⟨g, rfl⟩ : ∃ g, f = g + 1 := ⟨f - 1, by omega⟩
    have p1 := rd_alt1 (x.txt_piece hg.1 (a + 1) g (by omega) h2 (by rw [h3]; decide)) (stop_at h3 (.inr (.inl rfl)))
    have p2 := rd_alt1 (y.txt_piece hg.2 (a + 1 + x.txt.length + 1) g (by omega) h4 (by rw [h5]; decide)) (stop_at h5 (.inl rfl))
    have p3 := rd_ex2 p1 (by rw [isB_at h3]; rfl) p2 (by rw [isB_at h5]; rfl) (by omega)
    have p4 := rd_par0 (by rw [isB_at h0]; rfl) p3 (by rw [isB_at h5]; rfl) (by rw [show a + 1 + x.txt.length + 1 + y.txt.length + 1 = a + (x.txt.length + y.txt.length + 3) by omega]; exact hm)
    rw [p4, show a + 1 + x.txt.length + 1 + y.txt.length + 1 = a + (x.txt.length + y.txt.length + 3) by omega]
    rfl
  | .many x, hg, a, f, hf, hs, hm => by
    have hlen : (Tr.many x).txt.length = x.txt.length + 3 := by simp only [Tr.txt, List.length_cons, List.length_append, List.length_nil]
    obtain ⟨h0, h1⟩ := hs
    obtain ⟨h2, h3, h4, _⟩ := h1.app
    rw [hlen] at hf hm ⊢
    obtain ⟨g, rfl⟩ : ∃ g, f = g + 1 := ⟨f - 1, by omega⟩
    have p1 := rd_ex1 (rd_alt1 (x.txt_piece hg (a + 1) g (by omega) h2 (by rw [h3]; decide)) (stop_at h3 (.inl rfl))) (by rw [isB_at h3]; rfl)
    have p4 := rd_parM (k := 5) (by rw [isB_at h0]; rfl) p1 (by rw [isB_at h3]; rfl) (by rw [h4]; rfl) (by decide)
    rw [p4, show a + 1 + x.txt.length + 2 = a + (x.txt.length + 3) by omega]
    rfl
  | .once x, hg, a, f, hf, hs, hm => by
    have hlen : (Tr.once x).txt.length = x.txt.length + 3 := by simp only [Tr.txt, List.length_cons, List.length_append, List.length_nil]
    obtain ⟨h0, h1⟩ := hs
    obtain ⟨h2, h3, h4, _⟩ := h1.app
    rw [hlen] at hf hm ⊢
    obtain ⟨g, rfl⟩ : ∃ g, f = g + 1 := ⟨f - 1, by omega⟩
    have p1 := rd_ex1 (rd_alt1 (x.txt_piece hg (a + 1) g (by omega) h2 (by rw [h3]; decide)) (stop_at h3 (.inl rfl))) (by rw [isB_at h3]; rfl)
    have p4 := rd_parM (k := 4) (by rw [isB_at h0]; rfl) p1 (by rw [isB_at h3]; rfl) (by rw [h4]; rfl) (by decide)
    rw [p4, show a + 1 + x.txt.length + 2 = a + (x.txt.length + 3) by omega]
    rfl
  | .may x, hg, a, f, hf, hs, hm => by
    have hlen : (Tr.may x).txt.length = x.txt.length + 3 := by simp only [Tr.txt, List.length_cons, List.length_append, List.length_nil]
    obtain ⟨h0, h1⟩ := hs
    obtain ⟨h2, h3, h4, _⟩ := h1.app
    rw [hlen] at hf hm ⊢
    obtain ⟨g, rfl⟩ : ∃ g, f = g + 1 := ⟨f - 1, by omega⟩
    have p1 := rd_ex1 (rd_alt1 (x.txt_piece hg (a + 1) g (by omega) h2 (by rw [h3]; decide)) (stop_at h3 (.inl rfl))) (by rw [isB_at h3]; rfl)
    have p4 := rd_parM (k := 3) (by rw [isB_at h0]; rfl) p1 (by rw [isB_at h3]; rfl) (by rw [h4]; rfl) (by decide)
    rw [p4, show a + 1 + x.txt.length + 2 = a + (x.txt.length + 3) by omega]
    rfl

/-- The other spelling is an alternative. -/
theorem Tr.oth_alt : ∀ (r : Tr), r.good → ∀ (a f : Nat) (b : Int), r.oth.length ≤ f → Stands t a r.oth → peekP t (a + r.oth.length) = b → stopB b → altX t (exprX t f) a = some (r.rxO, a + r.oth.length)
  | .let1 x, hg, a, f, b, _, hs, hb, hst => rd_alt1 (rd_plc (by rw [isB_at hs.1]; rfl) (al_range hs.1 hs.2.1 hs.2.2.1 hs.2.2.2.1 hs.2.2.2.2.1 hg) (by show markK (peekP t (a + 5)) = 0; rw [show peekP t (a + 5) = b from hb]; exact stop_mark hst)) (stop_at hb hst)
  | .two x y, hg, a, f, b, hf, hs, hb, hst => by
    have hz := hs.size (Nat.succ_pos _)
    simp only [Tr.oth, List.length_cons, List.length_nil] at hz hf
    obtain ⟨g, rfl⟩ : ∃ g, f = g + 1 := ⟨f - 1, by omega⟩
    obtain ⟨h0, h1, h2, h3, h4, _⟩ := hs
    have hx : lowL x := hg.1
    have hy : lowL y := hg.2
    have hx' := hx
    have hy' := hy
    unfold lowL at hx' hy'
    have p1 : altX t (exprX t g) (a + 1) = some (.pl (oneF y), a + 1 + 1) := rd_alt1 (rd_plc (by rw [isB_at h1, decide_eq_false_iff_not]; omega) (al_low h1 hy) (by rw [h2]; decide)) (stop_at h2 (.inr (.inl rfl)))
    have p2 : altX t (exprX t g) (a + 1 + 1 + 1) = some (.pl (oneF x), a + 1 + 1 + 1 + 1) := rd_alt1 (rd_plc (by rw [isB_at h3, decide_eq_false_iff_not]; omega) (al_low h3 hx) (by rw [h4]; decide)) (stop_at h4 (.inl rfl))
    have q : pieceX t (exprX t (g + 1)) a = some (.alt (.pl (oneF y)) (.pl (oneF x)), a + 1 + 1 + 1 + 1 + 1) := rd_par0 (n := a + 1 + 1 + 1 + 1) (by rw [isB_at h0]; rfl) (rd_ex2 (n := a + 1 + 1 + 1 + 1) p1 (by rw [isB_at h2]; rfl) p2 (by rw [isB_at h4]; rfl) (by omega)) (by rw [isB_at h4]; rfl) (by rw [show peekP t (a + 1 + 1 + 1 + 1 + 1) = b from hb]; exact stop_mark hst)
    exact rd_alt1 q (stop_at hb hst)
  | .any, _, a, f, b, hf, hs, hb, hst => by
    have hz := hs.size (Nat.succ_pos _)
    simp only [Tr.oth, List.length_cons, List.length_nil] at hz hf
    obtain ⟨g, rfl⟩ : ∃ g, f = g + 1 := ⟨f - 1, by omega⟩
    obtain ⟨h0, h1, h2, h3, h4, h5, h6, h7, _⟩ := hs
    have p1 : altX t (exprX t g) (a + 1) = some (.pl (fun i => !(oneF 97 i)), a + 1 + 4) := rd_alt1 (rd_plc (by rw [isB_at h1]; rfl) (al_not h1 h2 h3 h4) (by rw [show peekP t (a + 1 + 4) = 124 from h5]; decide)) (stop_at (b := 124) h5 (.inr (.inl rfl)))
    have p2 : altX t (exprX t g) (a + 1 + 4 + 1) = some (.pl (oneF 97), a + 1 + 4 + 1 + 1) := rd_alt1 (rd_plc (by rw [show isB t 40 (a + 1 + 4 + 1) = _ from isB_at h6]; rfl) (al_low (x := 97) h6 (by unfold lowL; omega)) (by rw [show peekP t (a + 1 + 4 + 1 + 1) = 41 from h7]; decide)) (stop_at (b := 41) h7 (.inl rfl))
    exact rd_alt1 (rd_par0 (by rw [isB_at h0]; rfl) (rd_ex2 p1 (by rw [show isB t 124 (a + 1 + 4) = _ from isB_at h5]; rfl) p2 (by rw [show isB t 124 (a + 1 + 4 + 1 + 1) = _ from isB_at h7]; rfl) (by omega)) (by rw [show isB t 41 (a + 1 + 4 + 1 + 1) = _ from isB_at h7]; rfl) (by rw [show peekP t (a + 1 + 4 + 1 + 1 + 1) = b from hb]; exact stop_mark hst)) (stop_at hb hst)
  | .row x y, hg, a, f, b, hf, hs, hb, hst => by
    have hz := hs.size (Nat.succ_pos _)
    have hlen : (Tr.row x y).oth.length = x.oth.length + y.oth.length + 4 := by simp only [Tr.oth, List.length_cons, List.length_append, List.length_nil]; omega
    obtain ⟨h0, h1⟩ := hs
    obtain ⟨h2, h3, h4, h5⟩ := h1.app
    obtain ⟨h5, h6, _⟩ := h5.app
    rw [hlen] at hf hb hz ⊢
    obtain ⟨g, rfl⟩ : ∃ g, f = g + 1 := ⟨f - 1, by omega⟩
    have p1 := rd_ex1 (x.oth_alt hg.1 (a + 1) g 41 (by omega) h2 h3 (.inl rfl)) (by rw [isB_at h3]; rfl)
    have p2 := rd_ex1 (y.oth_alt hg.2 (a + 1 + x.oth.length + 1 + 1) g 41 (by omega) h5 h6 (.inl rfl)) (by rw [isB_at h6]; rfl)
    have e : a + 1 + x.oth.length + 1 + 1 + y.oth.length + 1 = a + (x.oth.length + y.oth.length + 4) := by omega
    have q1 := rd_par0 (by rw [isB_at h0]; rfl) p1 (by rw [isB_at h3]; rfl) (by rw [h4]; rfl)
    have q2 := rd_par0 (by rw [isB_at h4]; rfl) p2 (by rw [isB_at h6]; rfl) (by rw [e, hb]; exact stop_mark hst)
    rw [e] at q2
    exact rd_alt2 q1 (start_at h4 (.inr (.inr (.inr rfl)))) q2 (stop_at hb hst) (by omega)
  | .or2 x y, hg, a, f, b, hf, hs, hb, hst => by
    have hz := hs.size (Nat.succ_pos _)
    have hlen : (Tr.or2 x y).oth.length = x.oth.length + y.oth.length + y.oth.length + 4 := by simp only [Tr.oth, List.length_cons, List.length_append, List.length_nil]; omega
    obtain ⟨h0, h1⟩ := hs
    obtain ⟨h2, h3, h4⟩ := h1.app
    obtain ⟨h4, h5, h6⟩ := h4.app
    obtain ⟨h6, h7, _⟩ := h6.app
    rw [hlen] at hf hb hz ⊢
    obtain ⟨g, rfl⟩ : ∃ g, f = g + 1 := ⟨f - 1, by omega⟩
    have p1 := y.oth_alt hg.2 (a + 1) g 124 (by omega) h2 h3 (.inr (.inl rfl))
    have p2 := x.oth_alt hg.1 (a + 1 + y.oth.length + 1) g 124 (by omega) h4 h5 (.inr (.inl rfl))
    have p3 := y.oth_alt hg.2 (a + 1 + y.oth.length + 1 + x.oth.length + 1) g 41 (by omega) h6 h7 (.inl rfl)
    have e : a + 1 + y.oth.length + 1 + x.oth.length + 1 + y.oth.length + 1 = a + (x.oth.length + y.oth.length + y.oth.length + 4) := by omega
    have q1 := rd_par0 (by rw [isB_at h0]; rfl) (rd_ex3 p1 (by rw [isB_at h3]; rfl) p2 (by rw [isB_at h5]; rfl) p3 (by rw [isB_at h7]; rfl) (by omega)) (by rw [isB_at h7]; rfl) (by rw [e, hb]; exact stop_mark hst)
    rw [e] at q1
    exact rd_alt1 q1 (stop_at hb hst)
  | .many x, hg, a, f, b, hf, hs, hb, hst => by
    have hlen : (Tr.many x).oth.length = x.oth.length + 6 := by simp only [Tr.oth, List.length_cons, List.length_append, List.length_nil]
    obtain ⟨h0, h0b, h1⟩ := hs
    obtain ⟨h2, h3, h4, h5, h6, _⟩ := h1.app
    rw [hlen] at hf hb ⊢
    obtain ⟨g, rfl⟩ : ∃ g, f = g + 1 + 1 := ⟨f - 2, by omega⟩
    have p1 := rd_ex1 (x.oth_alt hg (a + 1 + 1) g 41 (by omega) h2 h3 (.inl rfl)) (by rw [isB_at h3]; rfl)
    have q1 := rd_parM (k := 5) (by rw [isB_at h0b]; rfl) p1 (by rw [isB_at h3]; rfl) (by rw [h4]; rfl) (by decide)
    have p2 := rd_ex1 (rd_alt1 q1 (stop_at h5 (.inl rfl))) (by rw [show isB t 124 (a + 1 + 1 + x.oth.length + 2) = _ from isB_at h5]; rfl)
    have q2 := rd_parM (k := 5) (by rw [isB_at h0]; rfl) p2 (by rw [show isB t 41 (a + 1 + 1 + x.oth.length + 2) = _ from isB_at h5]; rfl) (by rw [show peekP t (a + 1 + 1 + x.oth.length + 2 + 1) = 42 from h6]; rfl) (by decide)
    have e : a + 1 + 1 + x.oth.length + 2 + 2 = a + (x.oth.length + 6) := by omega
    rw [e] at q2
    exact rd_alt1 q2 (stop_at hb hst)
  | .once x, hg, a, f, b, hf, hs, hb, hst => by
    have hz := hs.size (Nat.succ_pos _)
    have hlen : (Tr.once x).oth.length = x.oth.length + x.oth.length + 5 := by simp only [Tr.oth, List.length_cons, List.length_append, List.length_nil]; omega
    obtain ⟨h0, h1⟩ := hs
    obtain ⟨h2, h3, h4, h5⟩ := h1.app
    obtain ⟨h5, h6, h7, _⟩ := h5.app
    rw [hlen] at hf hb hz ⊢
    obtain ⟨g, rfl⟩ : ∃ g, f = g + 1 := ⟨f - 1, by omega⟩
    have p1 := rd_ex1 (x.oth_alt hg (a + 1) g 41 (by omega) h2 h3 (.inl rfl)) (by rw [isB_at h3]; rfl)
    have p2 := rd_ex1 (x.oth_alt hg (a + 1 + x.oth.length + 1 + 1) g 41 (by omega) h5 h6 (.inl rfl)) (by rw [isB_at h6]; rfl)
    have e : a + 1 + x.oth.length + 1 + 1 + x.oth.length + 2 = a + (x.oth.length + x.oth.length + 5) := by omega
    have q1 := rd_par0 (by rw [isB_at h0]; rfl) p1 (by rw [isB_at h3]; rfl) (by rw [h4]; rfl)
    have q2 := rd_parM (k := 5) (by rw [isB_at h4]; rfl) p2 (by rw [isB_at h6]; rfl) (by rw [h7]; rfl) (by decide)
    rw [e] at q2
    exact rd_alt2 q1 (start_at h4 (.inr (.inr (.inr rfl)))) q2 (stop_at hb hst) (by omega)
  | .may x, hg, a, f, b, hf, hs, hb, hst => by
    have hlen : (Tr.may x).oth.length = x.oth.length + 6 := by simp only [Tr.oth, List.length_cons, List.length_append, List.length_nil]
    obtain ⟨h0, h0b, h1⟩ := hs
    obtain ⟨h2, h3, h4, h5, h6, _⟩ := h1.app
    rw [hlen] at hf hb ⊢
    obtain ⟨g, rfl⟩ : ∃ g, f = g + 1 + 1 := ⟨f - 2, by omega⟩
    have p1 := rd_ex1 (x.oth_alt hg (a + 1 + 1) g 41 (by omega) h2 h3 (.inl rfl)) (by rw [isB_at h3]; rfl)
    have q1 := rd_parM (k := 3) (by rw [isB_at h0b]; rfl) p1 (by rw [isB_at h3]; rfl) (by rw [h4]; rfl) (by decide)
    have p2 := rd_ex1 (rd_alt1 q1 (stop_at h5 (.inl rfl))) (by rw [show isB t 124 (a + 1 + 1 + x.oth.length + 2) = _ from isB_at h5]; rfl)
    have q2 := rd_parM (k := 3) (by rw [isB_at h0]; rfl) p2 (by rw [show isB t 41 (a + 1 + 1 + x.oth.length + 2) = _ from isB_at h5]; rfl) (by rw [show peekP t (a + 1 + 1 + x.oth.length + 2 + 1) = 63 from h6]; rfl) (by decide)
    have e : a + 1 + 1 + x.oth.length + 2 + 2 = a + (x.oth.length + 6) := by omega
    rw [e] at q2
    exact rd_alt1 q2 (stop_at hb hst)
end
/-- A tree in one of its spellings. -/
def Tr.sp (o : Bool) (r : Tr) : List Nat := if o = true then r.oth else r.txt
def Tr.rx (o : Bool) (r : Tr) : Rx := if o = true then r.rxO else r.rxT
def Tr.cnt (o : Bool) (r : Tr) : Nat := if o = true then r.mor else r.pls
theorem Tr.np_rx (o : Bool) (r : Tr) : (r.rx o).np = r.cnt o := by cases o; exact r.np_T; exact r.np_O
theorem Tr.sp_expr {t : ByteArray} {o : Bool} {r : Tr} (hg : r.good) {a f : Nat} (hf : (r.sp o).length ≤ f) (hs : Stands t a (r.sp o)) (hb : peekP t (a + (r.sp o).length) = 32) : exprX t (f + 1) a = some (r.rx o, a + (r.sp o).length) := by
  have hi : isB t 124 (a + (r.sp o).length) = false := by rw [isB_at hb]; rfl
  cases o with
  | false => exact rd_ex1 (rd_alt1 (r.txt_piece hg a f hf hs (by rw [show peekP t (a + r.txt.length) = 32 from hb]; decide)) (stop_at hb (.inr (.inr rfl)))) hi
  | true => exact rd_ex1 (r.oth_alt hg a f 32 hf hs hb (.inr (.inr rfl))) hi
end Go.Stn

namespace Go.Stn
/-- Bytes as a text. -/
def bA (u : List Nat) : ByteArray := ⟨(u.map UInt8.ofNat).toArray⟩
theorem bA_app (u v : List Nat) : bA u ++ bA v = bA (u ++ v) := by
  apply ByteArray.ext
  rw [ByteArray.data_append]
  simp [bA]
theorem bA_size (u : List Nat) : (bA u).size = u.length := by unfold bA; show (u.map UInt8.ofNat).toArray.size = _; simp
/-- A part of the rules: how it is made, of which; its letters; its tree. -/
structure Nd where
  k : Nat
  a : Nat
  b : Nat
  l : Nat
  r : Nat
  tr : Tr
def Nd.cells (x : Nd) : List Value := [.int .i64 (x.k : Int), .int .u8 (x.a : Int), .int .u8 (x.b : Int), .int .i64 (x.l : Int), .int .i64 (x.r : Int), .string (bA x.tr.txt), .string (bA x.tr.oth), .int .i64 (x.tr.pls : Int), .int .i64 (x.tr.mor : Int)]
/-- A step: its kind, its letters. -/
structure OpK where
  kind : Int
  a : Int
  b : Int
def OpK.ok (o : OpK) : Prop := isI o.kind ∧ isI o.a ∧ isI o.b
def OpK.cells (o : OpK) : List Value := [.int .i64 o.kind, .int .i64 o.a, .int .i64 o.b]
def leafP (o : OpK) : Nd := if pickN o.kind 8 = 1 then ⟨1, letN o.a, letN o.b, 0, 0, .two (letN o.a) (letN o.b)⟩ else if pickN o.kind 8 = 2 then ⟨2, 0, 0, 0, 0, .any⟩ else ⟨0, letN o.a, 0, 0, 0, .let1 (letN o.a)⟩
theorem letN_low (c : Int) : lowL (letN c) := by
  have h := pickN_lt c (n := 6) (by omega)
  unfold letN lowL
  generalize pickN c 6 = k at *
  have hk : k = 0 ∨ k = 1 ∨ k = 2 ∨ k = 3 ∨ k = 4 ∨ k = 5 := by omega
  rcases hk with rfl | rfl | rfl | rfl | rfl | rfl <;> simp
theorem leafP_good (o : OpK) : (leafP o).tr.good := by
  unfold leafP
  split
  · exact ⟨letN_low _, letN_low _⟩
  · split
    · trivial
    · exact letN_low _
end Go.Stn
namespace Go.Proofs.Ytgjgjgihceijnaa
open Go.RowKit Go.Stn
theorem Try.runText1 (X : World) (B a0 : Nat) (ha : a0 < 256) (hc : X.cell? ⟨B, 0, none⟩ = some (.int .u8 (a0 : Int))) : (convert 78 9 (.slice (some ⟨B, 0, none⟩) 1 1)).run Try.prog X = .ok (.string (bA [a0])) X := by
  have := run_convert_bytes_back (P := Try.prog) X 78 9 5 ⟨B, 0, none⟩ 1 [UInt8.ofNat a0] Try.underlying78 Try.underlying5 Try.underlying9 (fun j hj => by
    have hj0 : j = 0 := by simp at hj; omega
    subst hj0
    have e : ([UInt8.ofNat a0][0]).toNat = a0 := by show (UInt8.ofNat a0).toNat = a0; simp; omega
    rw [e]
    exact hc)
  exact this
theorem nine_range (X : World) (B : Nat) (v0 v1 v2 v3 v4 v5 v6 v7 v8 : Value) (h : X.there B 0 9) : (((((((((X.setCell ⟨B, 0, none⟩ v0).setCell ⟨B, 1, none⟩ v1).setCell ⟨B, 2, none⟩ v2).setCell ⟨B, 3, none⟩ v3).setCell ⟨B, 4, none⟩ v4).setCell ⟨B, 5, none⟩ v5).setCell ⟨B, 6, none⟩ v6).setCell ⟨B, 7, none⟩ v7).setCell ⟨B, 8, none⟩ v8).rangeAt B 0 [v0, v1, v2, v3, v4, v5, v6, v7, v8] :=
  World.rangeAt_setCells_same X B 0 [v0, v1, v2, v3, v4, v5, v6, v7, v8] h
theorem nine_below {a X : World} {A B : Nat} (h : Below A a X) (hB : A ≤ B) (v0 v1 v2 v3 v4 v5 v6 v7 v8 : Value) : Below A a (((((((((X.setCell ⟨B, 0, none⟩ v0).setCell ⟨B, 1, none⟩ v1).setCell ⟨B, 2, none⟩ v2).setCell ⟨B, 3, none⟩ v3).setCell ⟨B, 4, none⟩ v4).setCell ⟨B, 5, none⟩ v5).setCell ⟨B, 6, none⟩ v6).setCell ⟨B, 7, none⟩ v7).setCell ⟨B, 8, none⟩ v8) :=
  below_setCells [v0, v1, v2, v3, v4, v5, v6, v7, v8] 0 X B h hB
theorem there_drewN {X : World} {b o n : Nat} (h : X.there b o n) (q : Nat) : (X.drewN q).there b o n := h
theorem leaf_there (w : World) (o1 o3 o4 : Obj) (c : Array Value) (t : TypeId) (hc : c.size = 9) (q q' : Nat) : ((((((w.alloc o1).alloc (.cells c t)).drewN q).alloc o3).alloc o4).drewN q').there (w.heap.size + 1) 0 9 := by
  have h1 : ((w.alloc o1).alloc (.cells c t)).there (w.heap.size + 1) 0 9 := there_newA _ _ _ _ _ hc (by simp)
  have h2 : ((((w.alloc o1).alloc (.cells c t)).drewN q).alloc o3).there (w.heap.size + 1) 0 9 := there_below (there_drewN h1 q) ((Below.refl (w.heap.size + 2) _).alloc (by simp) o3) (by omega)
  exact there_drewN (there_below h2 ((Below.refl (w.heap.size + 2) _).alloc (by simp) o4) (by omega)) q'
theorem bdN {B : Nat} {a w : World} (h : Below B a w) (q : Nat) : Below B a (w.drewN q) := ⟨h.os, h.tape, h.output, h.size, h.block⟩
theorem leaf_below (w : World) (o1 o2 o3 o4 : Obj) (q q' : Nat) : Below w.heap.size w ((((((w.alloc o1).alloc o2).drewN q).alloc o3).alloc o4).drewN q') :=
  bdN (((bdN (((Below.refl w.heap.size w).alloc (Nat.le_refl _) o1).alloc (by simp) o2) q).alloc (by simp; omega) o3).alloc (by simp; omega) o4) q'
theorem Try.knodeSize : (Try.prog.info? 109).map (fun i => i.size) = some 9 := by kernel_rfl

set_option maxRecDepth 100000 in
set_option maxHeartbeats 2000000 in
theorem kleaf_any (o : OpK) (ho : o.ok) (w : World) :
    Calls Try.prog 50 #[.agg o.cells.toArray] w fun e w' => e = .returned (.agg (leafP o).cells.toArray) ∧ Below w.heap.size w w' := by
  obtain ⟨h1, h2, h3⟩ := ho
  have hla := letN_low o.a
  have hlb := letN_low o.b
  unfold lowL at hla hlb
  have HL : Hid (leafP o = if pickN o.kind 8 = 1 then ⟨1, letN o.a, letN o.b, 0, 0, .two (letN o.a) (letN o.b)⟩ else if pickN o.kind 8 = 2 then ⟨2, 0, 0, 0, 0, .any⟩ else ⟨0, letN o.a, 0, 0, 0, .let1 (letN o.a)⟩) := rfl
  obtain ⟨kd, oa, ob⟩ := o
  simp only at h1 h2 h3 hla hlb HL
  have he : (OpK.cells ⟨kd, oa, ob⟩).toArray = #[.int .i64 kd, .int .i64 oa, .int .i64 ob] := rfl
  rw [he]
  go_enter Try.func50, Try.ntmps50
  go_wp2_with fail
  refine (kletter_any oa h2 _).mono ?_
  rintro e w1 ⟨rfl, q1, rfl⟩
  go_wp2_with fail
  refine (kletter_any ob h3 _).mono ?_
  rintro e w2 ⟨rfl, q2, rfl⟩
  generalize letN oa = la at *
  generalize letN ob = lb at *
  go_wp2_with fail
  rw [Try.runText1 _ _ la (by omega) ((World.cell?_alloc_at _ _ _ 0 (by simp)).trans rfl)]
  go_wp2_with fail
  rw [Try.runText1 _ _ lb (by omega) ((World.cell?_alloc_at _ _ _ 0 (by simp)).trans rfl)]
  go_wp2_with fail
  refine (kpick_any kd 8 h1 (by omega) (by omega) _).mono ?_
  rintro e w3 ⟨rfl, q3, rfl⟩
  have hk8 := pickN_lt kd (n := 8) (by omega)
  generalize pickN kd 8 = k at *
  by_cases e1 : k = 1
  · have HX : Hid (leafP ⟨kd, oa, ob⟩ = ⟨1, la, lb, 0, 0, .two la lb⟩) := by unfold Hid; rw [HL.out, if_pos e1]
    subst e1
    go_wp2_with fail
    refine ret_cell1 Try.results50 (w.heap.size + 1) 0 _ _ rfl (nine_range _ _ _ _ _ _ _ _ _ _ _ (leaf_there _ _ _ _ _ _ rfl _ _)) Try.underlying109 rfl Try.knodeSize rfl ⟨?_, nine_below (leaf_below _ _ _ _ _ _ _) (by omega) _ _ _ _ _ _ _ _ _⟩
    rw [HX.out]
    have a1 : (⟨#[91]⟩ : ByteArray) = bA [91] := rfl
    have a2 : (⟨#[93]⟩ : ByteArray) = bA [93] := rfl
    have a3 : (⟨#[40]⟩ : ByteArray) = bA [40] := rfl
    have a4 : (⟨#[124]⟩ : ByteArray) = bA [124] := rfl
    have a5 : (⟨#[41]⟩ : ByteArray) = bA [41] := rfl
    simp only [a1, a2, a3, a4, a5, bA_app]
    rfl
  · by_cases e2 : k = 2
    · have HX : Hid (leafP ⟨kd, oa, ob⟩ = ⟨2, 0, 0, 0, 0, .any⟩) := by unfold Hid; rw [HL.out, if_neg e1, if_pos e2]
      subst e2
      go_wp2_with fail
      refine ret_cell1 Try.results50 (w.heap.size + 1) 0 _ _ rfl (nine_range _ _ _ _ _ _ _ _ _ _ _ (leaf_there _ _ _ _ _ _ rfl _ _)) Try.underlying109 rfl Try.knodeSize rfl ⟨?_, nine_below (leaf_below _ _ _ _ _ _ _) (by omega) _ _ _ _ _ _ _ _ _⟩
      rw [HX.out]
      rfl
    · have d1 : ((k : Int) == 1) = false := by rw [beq_eq_false_iff_ne]; omega
      have d2 : ((k : Int) == 2) = false := by rw [beq_eq_false_iff_ne]; omega
      have HX : Hid (leafP ⟨kd, oa, ob⟩ = ⟨0, la, 0, 0, 0, .let1 la⟩) := by unfold Hid; rw [HL.out, if_neg e1, if_neg e2]
      clear e1 e2
      go_wp2_with fail
      refine ret_cell1 Try.results50 (w.heap.size + 1) 0 _ _ rfl (nine_range _ _ _ _ _ _ _ _ _ _ _ (leaf_there _ _ _ _ _ _ rfl _ _)) Try.underlying109 rfl Try.knodeSize rfl ⟨?_, nine_below (leaf_below _ _ _ _ _ _ _) (by omega) _ _ _ _ _ _ _ _ _⟩
      rw [HX.out]
      have a1 : (⟨#[91]⟩ : ByteArray) = bA [91] := rfl
      have a2 : (⟨#[93]⟩ : ByteArray) = bA [93] := rfl
      have a3 : (⟨#[45]⟩ : ByteArray) = bA [45] := rfl
      simp only [a1, a2, a3, bA_app]
      rfl
end Go.Proofs.Ytgjgjgihceijnaa

