/- Texts put together: LyPure, LyRd, LyNums. -/
import Derived.Test.YtgjgjgihceijnaaG02
import Derived.Test.YtgjgjgihceijnaaG01
import Derived.Test.YtgjgjgihceijnaaChecked
import Derived.WalkKit
import Derived.WalkSpells
import Derived.WalkLawsBesides
import Derived.Deep.QuietTactic
import Derived.Deep.LoopGhost
import Derived.BigQuiet
namespace Go.Stn
/-- A reader's state: where it stands, whether it is bad. -/
abbrev LSt := Nat × Bool

def numP (s : ByteArray) (lo hi : Nat) (r : LSt) : Nat × LSt :=
  if r.1 < s.size then
    if bt s r.1 < lo ∨ hi < bt s r.1 then (lo, (r.1 + 1, true)) else (bt s r.1, (r.1 + 1, r.2))
  else (lo, (r.1, true))

def numsP (s : ByteArray) (hi : Nat) : Nat → List Nat → LSt → List Nat × LSt
  | 0, l, r => (l, r)
  | n + 1, l, r => numsP s hi n (l ++ [(numP s 0 hi r).1]) (numP s 0 hi r).2

def leadP (s : ByteArray) (count : Nat) (r : LSt) : Int × LSt :=
  if (numP s 0 255 r).1 = 255 then (-1, (numP s 0 255 r).2)
  else if count ≤ (numP s 0 255 r).1 then (((numP s 0 255 r).1 : Int), ((numP s 0 255 r).2.1, true))
  else (((numP s 0 255 r).1 : Int), (numP s 0 255 r).2)

def leadsP (s : ByteArray) (count : Nat) : Nat → List Int → LSt → List Int × LSt
  | 0, l, r => (l, r)
  | n + 1, l, r => leadsP s count n (l ++ [(leadP s count r).1]) (leadP s count r).2

def stsP (s : ByteArray) (rules classes count : Nat) : Nat → List (Nat × List Int) → LSt → List (Nat × List Int) × LSt
  | 0, l, r => (l, r)
  | n + 1, l, r => stsP s rules classes count n (l ++ [((numP s 0 rules r).1, (leadsP s count classes [] (numP s 0 rules r).2).1)]) (leadsP s count classes [] (numP s 0 rules r).2).2

def condP (s : ByteArray) (rules classes : Nat) (r : LSt) : List (Nat × List Int) × LSt :=
  stsP s rules classes (numP s 1 100 r).1 (numP s 1 100 r).1 [] (numP s 1 100 r).2

def condsP (s : ByteArray) (rules classes : Nat) : Nat → List (List (Nat × List Int)) → LSt → List (List (Nat × List Int)) × LSt
  | 0, l, r => (l, r)
  | n + 1, l, r => condsP s rules classes n (l ++ [(condP s rules classes r).1]) (condP s rules classes r).2

/-- Is one above? -/
def overB (l : List Nat) (m : Nat) : Bool := decide (∃ x ∈ l, m < x)

/-- The head: rules, what is behind each, conditions, classes. -/
def lh3 (s : ByteArray) : LSt := (numP s 1 1 (numP s 84 84 (numP s 83 83 (0, false)).2).2).2
def lRules (s : ByteArray) : Nat := (numP s 1 8 (lh3 s)).1
def lh4 (s : ByteArray) : LSt := (numP s 1 8 (lh3 s)).2
def lBehind (s : ByteArray) : List Nat := (numsP s 5 (lRules s) [] (lh4 s)).1
def lh5 (s : ByteArray) : LSt := (numsP s 5 (lRules s) [] (lh4 s)).2
def lMany (s : ByteArray) : Nat := (numP s 1 4 (lh5 s)).1
def lh6 (s : ByteArray) : LSt := ((numP s 1 4 (lh5 s)).2.1, (numP s 1 4 (lh5 s)).2.2 || overB (lBehind s) (1 + lMany s))
def lClasses (s : ByteArray) : Nat := 1 + (numP s 0 255 (lh6 s)).1
def lh7 (s : ByteArray) : LSt := (numP s 0 255 (lh6 s)).2
def lClassOf (s : ByteArray) : List Nat := (numsP s (lClasses s - 1) 256 [] (lh7 s)).1
def lh8 (s : ByteArray) : LSt := (numsP s (lClasses s - 1) 256 [] (lh7 s)).2
def lConds (s : ByteArray) : List (List (Nat × List Int)) := (condsP s (lRules s) (lClasses s) (lMany s) [] (lh8 s)).1
def lh9 (s : ByteArray) : LSt := (condsP s (lRules s) (lClasses s) (lMany s) [] (lh8 s)).2

theorem numP_le {s : ByteArray} {lo hi : Nat} {r : LSt} (h : lo ≤ hi) : lo ≤ (numP s lo hi r).1 ∧ (numP s lo hi r).1 ≤ hi := by
  unfold numP; split
  · split
    · exact ⟨Nat.le_refl _, h⟩
    · rename_i hn; simp only; omega
  · exact ⟨Nat.le_refl _, h⟩
theorem numP_at {s : ByteArray} {lo hi : Nat} {r : LSt} (h : r.1 ≤ s.size) : (numP s lo hi r).2.1 ≤ s.size := by
  unfold numP; split
  · split <;> simp only <;> omega
  · exact h
theorem numP_bad {s : ByteArray} {lo hi : Nat} {r : LSt} (h : r.2 = true) : (numP s lo hi r).2.2 = true := by
  unfold numP; split
  · split
    · rfl
    · exact h
  · rfl
theorem numP_yes {s : ByteArray} {lo hi a : Nat} (h : a < s.size) (h1 : lo ≤ bt s a) (h2 : bt s a ≤ hi) : numP s lo hi (a, false) = (bt s a, (a + 1, false)) := by
  unfold numP; rw [if_pos h, if_neg (by simp only; omega)]
theorem numP_good {s : ByteArray} {lo hi : Nat} {r : LSt} (h : (numP s lo hi r).2.2 = false) : r.2 = false ∧ r.1 < s.size ∧ lo ≤ bt s r.1 ∧ bt s r.1 ≤ hi := by
  unfold numP at h
  split at h
  · split at h
    · cases h
    · rename_i h1 h2; exact ⟨h, h1, by omega, by omega⟩
  · cases h

theorem numsP_at {s : ByteArray} {hi : Nat} : ∀ n l r, r.1 ≤ s.size → (numsP s hi n l r).2.1 ≤ s.size := by
  intro n; induction n with
  | zero => intro l r h; exact h
  | succ k ih => intro l r h; exact ih _ _ (numP_at h)
theorem numsP_len {s : ByteArray} {hi : Nat} : ∀ n l r, (numsP s hi n l r).1.length = l.length + n := by
  intro n; induction n with
  | zero => intro l r; rfl
  | succ k ih => intro l r; rw [numsP, ih]; simp; omega
theorem numsP_le {s : ByteArray} {hi : Nat} : ∀ n l r, (∀ x ∈ l, x ≤ hi) → ∀ x ∈ (numsP s hi n l r).1, x ≤ hi := by
  intro n; induction n with
  | zero => intro l r h; exact h
  | succ k ih =>
    intro l r h
    refine ih _ _ (fun x hx => ?_)
    rcases List.mem_append.1 hx with h1 | h1
    · exact h x h1
    · rw [List.mem_singleton] at h1; rw [h1]; exact (numP_le (Nat.zero_le _)).2
theorem numsP_good {s : ByteArray} {hi : Nat} : ∀ n l r, (numsP s hi n l r).2.2 = false → r.2 = false ∧ (r.1 ≤ s.size → r.1 + n ≤ s.size) ∧ ∀ j, j < n → bt s (r.1 + j) ≤ hi := by
  intro n; induction n with
  | zero => intro l r h; exact ⟨h, fun h => h, fun j hj => by omega⟩
  | succ k ih =>
    intro l r h
    rw [numsP] at h
    obtain ⟨h1, h2, h3⟩ := ih _ _ h
    obtain ⟨g1, g2, g3, g4⟩ := numP_good h1
    have e : numP s 0 hi r = (bt s r.1, (r.1 + 1, false)) := by
      have : r = (r.1, false) := by rw [← g1]
      rw [this]; exact numP_yes g2 (by omega) g4
    rw [e] at h2 h3
    simp only at h2 h3
    refine ⟨g1, fun _ => by have := h2 (by omega); omega, fun j hj => ?_⟩
    cases j with
    | zero => exact g4
    | succ m => have := h3 m (by omega); rw [show r.1 + (m + 1) = r.1 + 1 + m by omega]; exact this
theorem numsP_yes {s : ByteArray} {hi : Nat} : ∀ n l a, a + n ≤ s.size → (∀ j, j < n → bt s (a + j) ≤ hi) → numsP s hi n l (a, false) = (l ++ (List.range n).map (fun j => bt s (a + j)), (a + n, false)) := by
  intro n; induction n with
  | zero => intro l a _ _; simp [numsP]
  | succ k ih =>
    intro l a h1 h2
    have e := numP_yes (s := s) (lo := 0) (hi := hi) (a := a) (by omega) (Nat.zero_le _) (h2 0 (by omega))
    rw [numsP, e]
    rw [ih _ _ (by omega) (fun j hj => by have := h2 (j + 1) (by omega); rw [show a + 1 + j = a + (j + 1) by omega]; exact this)]
    refine Prod.ext ?_ (by simp only; congr 1; omega)
    simp only [List.append_assoc]
    congr 1
    rw [List.range_succ_eq_map]
    simp only [List.map_cons, List.map_map]
    rw [List.singleton_append]
    congr 1
    refine List.map_congr_left (fun j _ => ?_)
    simp only [Function.comp]
    rw [show a + 1 + j = a + (j + 1) by omega]

/-- Where a lead byte leads. -/
def leadI (x : Nat) : Int := if x = 255 then -1 else (x : Int)

theorem leadP_at {s : ByteArray} {n : Nat} {r : LSt} (h : r.1 ≤ s.size) : (leadP s n r).2.1 ≤ s.size := by
  unfold leadP; split
  · exact numP_at h
  · split <;> exact numP_at h
theorem leadP_bad {s : ByteArray} {n : Nat} {r : LSt} (h : r.2 = true) : (leadP s n r).2.2 = true := by
  unfold leadP; split
  · exact numP_bad h
  · split
    · rfl
    · exact numP_bad h
theorem leadP_good {s : ByteArray} {n : Nat} {r : LSt} (h : (leadP s n r).2.2 = false) : r.2 = false ∧ r.1 < s.size ∧ (bt s r.1 < n ∨ bt s r.1 = 255) := by
  have hg : (numP s 0 255 r).2.2 = false := by
    unfold leadP at h; split at h
    · exact h
    · split at h
      · cases h
      · exact h
  obtain ⟨g1, g2, g3, g4⟩ := numP_good hg
  have e : numP s 0 255 r = (bt s r.1, (r.1 + 1, false)) := by
    have : r = (r.1, false) := by rw [← g1]
    rw [this]; exact numP_yes g2 (by omega) g4
  refine ⟨g1, g2, ?_⟩
  unfold leadP at h
  rw [e] at h
  simp only at h
  split at h
  · right; assumption
  · split at h
    · cases h
    · left; omega
theorem leadP_yes {s : ByteArray} {n a : Nat} (h : a < s.size) (h1 : bt s a < n ∨ bt s a = 255) : leadP s n (a, false) = (leadI (bt s a), (a + 1, false)) := by
  have e := numP_yes (s := s) (lo := 0) (hi := 255) (a := a) h (Nat.zero_le _) (by have := bt_lt s a; omega)
  unfold leadP leadI
  rw [e]
  simp only
  by_cases h2 : bt s a = 255
  · rw [if_pos h2, if_pos h2]
  · rw [if_neg h2, if_neg h2, if_neg (by omega)]

theorem leadsP_at {s : ByteArray} {c : Nat} : ∀ n l r, r.1 ≤ s.size → (leadsP s c n l r).2.1 ≤ s.size := by
  intro n; induction n with
  | zero => intro l r h; exact h
  | succ k ih => intro l r h; exact ih _ _ (leadP_at h)
theorem leadsP_bad {s : ByteArray} {c : Nat} : ∀ n l r, r.2 = true → (leadsP s c n l r).2.2 = true := by
  intro n; induction n with
  | zero => intro l r h; exact h
  | succ k ih => intro l r h; exact ih _ _ (leadP_bad h)
theorem leadsP_good {s : ByteArray} {c : Nat} : ∀ n l r, (leadsP s c n l r).2.2 = false → r.2 = false ∧ (r.1 ≤ s.size → r.1 + n ≤ s.size) ∧ ∀ j, j < n → bt s (r.1 + j) < c ∨ bt s (r.1 + j) = 255 := by
  intro n; induction n with
  | zero => intro l r h; exact ⟨h, fun h => h, fun j hj => by omega⟩
  | succ k ih =>
    intro l r h
    rw [leadsP] at h
    obtain ⟨h1, h2, h3⟩ := ih _ _ h
    obtain ⟨g1, g2, g4⟩ := leadP_good h1
    have e : leadP s c r = (leadI (bt s r.1), (r.1 + 1, false)) := by
      have : r = (r.1, false) := by rw [← g1]
      rw [this]; exact leadP_yes g2 g4
    rw [e] at h2 h3
    simp only at h2 h3
    refine ⟨g1, fun _ => by have := h2 (by omega); omega, fun j hj => ?_⟩
    cases j with
    | zero => exact g4
    | succ m => have := h3 m (by omega); rw [show r.1 + (m + 1) = r.1 + 1 + m by omega]; exact this
theorem leadsP_yes {s : ByteArray} {c : Nat} : ∀ n l a, a + n ≤ s.size → (∀ j, j < n → bt s (a + j) < c ∨ bt s (a + j) = 255) → leadsP s c n l (a, false) = (l ++ (List.range n).map (fun j => leadI (bt s (a + j))), (a + n, false)) := by
  intro n; induction n with
  | zero => intro l a _ _; simp [leadsP]
  | succ k ih =>
    intro l a h1 h2
    have e := leadP_yes (s := s) (n := c) (a := a) (by omega) (h2 0 (by omega))
    rw [leadsP, e]
    rw [ih _ _ (by omega) (fun j hj => by have := h2 (j + 1) (by omega); rw [show a + 1 + j = a + (j + 1) by omega]; exact this)]
    refine Prod.ext ?_ (by simp only; congr 1; omega)
    simp only [List.append_assoc]
    congr 1
    rw [List.range_succ_eq_map]
    simp only [List.map_cons, List.map_map]
    rw [List.singleton_append]
    congr 1
    refine List.map_congr_left (fun j _ => ?_)
    simp only [Function.comp]
    rw [show a + 1 + j = a + (j + 1) by omega]

/-- A state's row, as it is read. -/
def rowV (s : ByteArray) (classes a : Nat) : Nat × List Int := (bt s a, (List.range classes).map fun k => leadI (bt s (a + (k + 1))))

theorem stsP_at {s : ByteArray} {ru cl c : Nat} : ∀ n l r, r.1 ≤ s.size → (stsP s ru cl c n l r).2.1 ≤ s.size := by
  intro n; induction n with
  | zero => intro l r h; exact h
  | succ k ih => intro l r h; exact ih _ _ (leadsP_at _ _ _ (numP_at h))
theorem stsP_bad {s : ByteArray} {ru cl c : Nat} : ∀ n l r, r.2 = true → (stsP s ru cl c n l r).2.2 = true := by
  intro n; induction n with
  | zero => intro l r h; exact h
  | succ k ih => intro l r h; exact ih _ _ (leadsP_bad _ _ _ (numP_bad h))
theorem row_good {s : ByteArray} {ru cl c : Nat} {r : LSt} (h : (leadsP s c cl [] (numP s 0 ru r).2).2.2 = false) : r.2 = false ∧ r.1 + 1 + cl ≤ s.size ∧ rowOk s ru cl c r.1 = true := by
  obtain ⟨h1, h2, h3⟩ := leadsP_good _ _ _ h
  obtain ⟨g1, g2, g3, g4⟩ := numP_good h1
  have e : numP s 0 ru r = (bt s r.1, (r.1 + 1, false)) := by
    have : r = (r.1, false) := by rw [← g1]
    rw [this]; exact numP_yes g2 (by omega) g4
  rw [e] at h2 h3
  simp only at h2 h3
  refine ⟨g1, h2 (by omega), rowOk_iff.2 ⟨g4, fun k hk => ?_⟩⟩
  have := h3 k hk
  rw [show r.1 + (k + 1) = r.1 + 1 + k by omega]; exact this
theorem row_yes {s : ByteArray} {ru cl c a : Nat} (h : a + 1 + cl ≤ s.size) (h1 : rowOk s ru cl c a = true) :
    numP s 0 ru (a, false) = (bt s a, (a + 1, false)) ∧ leadsP s c cl [] (a + 1, false) = ((rowV s cl a).2, (a + (1 + cl), false)) := by
  obtain ⟨h2, h3⟩ := rowOk_iff.1 h1
  refine ⟨numP_yes (by omega) (by omega) h2, ?_⟩
  rw [leadsP_yes _ _ _ (by omega) (fun j hj => by have := h3 j hj; rw [show a + 1 + j = a + (j + 1) by omega]; exact this)]
  refine Prod.ext ?_ (by simp only; congr 1; omega)
  simp only [List.nil_append, rowV]
  refine List.map_congr_left (fun j _ => ?_)
  rw [show a + 1 + j = a + (j + 1) by omega]
theorem stsP_good {s : ByteArray} {ru cl c : Nat} : ∀ n l r, (stsP s ru cl c n l r).2.2 = false → r.2 = false ∧ (r.1 ≤ s.size → r.1 + n * (1 + cl) ≤ s.size) ∧ ∀ j, j < n → rowOk s ru cl c (r.1 + j * (1 + cl)) = true := by
  intro n; induction n with
  | zero => intro l r h; exact ⟨h, fun h => by omega, fun j hj => by omega⟩
  | succ k ih =>
    intro l r h
    rw [stsP] at h
    obtain ⟨h1, h2, h3⟩ := ih _ _ h
    obtain ⟨g1, g2, g4⟩ := row_good h1
    have er : r = (r.1, false) := by rw [← g1]
    obtain ⟨e1, e2⟩ := row_yes g2 g4
    rw [← er] at e1
    rw [e1] at h2 h3
    simp only at h2 h3
    rw [e2] at h2 h3
    simp only at h2 h3
    refine ⟨g1, fun _ => by have := h2 (by omega); rw [Nat.add_mul]; omega, fun j hj => ?_⟩
    cases j with
    | zero => simpa using g4
    | succ m => have := h3 m (by omega); rw [show r.1 + (m + 1) * (1 + cl) = r.1 + (1 + cl) + m * (1 + cl) by rw [Nat.add_mul]; omega]; exact this
theorem stsP_yes {s : ByteArray} {ru cl c : Nat} : ∀ n l a, a + n * (1 + cl) ≤ s.size → (∀ j, j < n → rowOk s ru cl c (a + j * (1 + cl)) = true) →
    stsP s ru cl c n l (a, false) = (l ++ (List.range n).map (fun j => rowV s cl (a + j * (1 + cl))), (a + n * (1 + cl), false)) := by
  intro n; induction n with
  | zero => intro l a _ _; simp [stsP]
  | succ k ih =>
    intro l a h1 h2
    rw [Nat.add_mul] at h1
    obtain ⟨e1, e2⟩ := row_yes (s := s) (ru := ru) (cl := cl) (c := c) (a := a) (by omega) (by simpa using h2 0 (by omega))
    rw [stsP, e1]
    simp only
    rw [e2]
    simp only
    rw [ih _ _ (by omega) (fun j hj => by have := h2 (j + 1) (by omega); rw [show a + (1 + cl) + j * (1 + cl) = a + (j + 1) * (1 + cl) by rw [Nat.add_mul]; omega]; exact this)]
    refine Prod.ext ?_ (by simp only; congr 1; rw [Nat.add_mul]; omega)
    simp only [List.append_assoc]
    congr 1
    rw [List.range_succ_eq_map]
    simp only [List.map_cons, List.map_map]
    rw [List.singleton_append]
    congr 1
    · simp [rowV]
    refine List.map_congr_left (fun j _ => ?_)
    simp only [Function.comp]
    rw [show a + (1 + cl) + j * (1 + cl) = a + (j + 1) * (1 + cl) by rw [Nat.add_mul]; omega]

theorem condP_at {s : ByteArray} {ru cl : Nat} {r : LSt} (h : r.1 ≤ s.size) : (condP s ru cl r).2.1 ≤ s.size := stsP_at _ _ _ (numP_at h)
theorem condP_bad {s : ByteArray} {ru cl : Nat} {r : LSt} (h : r.2 = true) : (condP s ru cl r).2.2 = true := stsP_bad _ _ _ (numP_bad h)
theorem condP_good {s : ByteArray} {ru cl : Nat} {r : LSt} (h : (condP s ru cl r).2.2 = false) : r.2 = false ∧ stOk s ru cl r.1 = true := by
  unfold condP at h
  obtain ⟨h1, h2, h3⟩ := stsP_good _ _ _ h
  obtain ⟨g1, g2, g3, g4⟩ := numP_good h1
  have e : numP s 1 100 r = (bt s r.1, (r.1 + 1, false)) := by
    have : r = (r.1, false) := by rw [← g1]
    rw [this]; exact numP_yes g2 g3 g4
  rw [e] at h2 h3
  simp only at h2 h3
  exact ⟨g1, stOk_iff.2 ⟨by omega, g4, by omega, h2 (by omega), h3⟩⟩
theorem condP_yes {s : ByteArray} {ru cl a : Nat} (h : stOk s ru cl a = true) : condP s ru cl (a, false) = ((List.range (bt s a)).map (fun j => rowV s cl (a + 1 + j * (1 + cl))), (stNext s ru cl a, false)) := by
  obtain ⟨h1, h2, h3, h4, h5⟩ := stOk_iff.1 h
  have e := numP_yes (s := s) (lo := 1) (hi := 100) (a := a) (by omega) (by omega) h2
  unfold condP
  rw [e]
  simp only
  rw [stsP_yes _ _ _ h4 h5, (st_yes h).2]
  simp

theorem condsP_at {s : ByteArray} {ru cl : Nat} : ∀ n l r, r.1 ≤ s.size → (condsP s ru cl n l r).2.1 ≤ s.size := by
  intro n; induction n with
  | zero => intro l r h; exact h
  | succ k ih => intro l r h; exact ih _ _ (condP_at h)
theorem condsP_good {s : ByteArray} : ∀ n l c r, r.1 = iAt s c → (condsP s (iR s) (iK s) n l r).2.2 = false → r.2 = false ∧ (∀ j, j < n → stOk s (iR s) (iK s) (iAt s (c + j)) = true) ∧ (condsP s (iR s) (iK s) n l r).2.1 = iAt s (c + n) := by
  intro n; induction n with
  | zero => intro l c r hr h; exact ⟨h, fun j hj => by omega, hr⟩
  | succ k ih =>
    intro l c r hr h
    rw [condsP] at h ⊢
    have hbad : (condP s (iR s) (iK s) r).2.2 = false := by
      cases hb : (condP s (iR s) (iK s) r).2.2 with
      | false => rfl
      | true =>
        have : ∀ n l (r : LSt), r.2 = true → (condsP s (iR s) (iK s) n l r).2.2 = true := by
          intro n; induction n with
          | zero => intro l r h; exact h
          | succ k ih => intro l r h; exact ih _ _ (condP_bad h)
        rw [this _ _ _ hb] at h; cases h
    obtain ⟨g1, g2⟩ := condP_good hbad
    have er : r = (r.1, false) := by rw [← g1]
    have e := condP_yes g2
    rw [← er, hr] at e
    obtain ⟨h1, h2, h3⟩ := ih (l ++ [(condP s (iR s) (iK s) r).1]) (c + 1) (condP s (iR s) (iK s) r).2 (by rw [e]; rfl) h
    refine ⟨g1, fun j hj => ?_, by rw [h3]; congr 1; omega⟩
    cases j with
    | zero => rw [hr] at g2; exact g2
    | succ m => have := h2 m (by omega); rw [show c + (m + 1) = c + 1 + m by omega]; exact this
theorem condsP_yes {s : ByteArray} : ∀ n l c, (∀ j, j < n → stOk s (iR s) (iK s) (iAt s (c + j)) = true) →
    condsP s (iR s) (iK s) n l (iAt s c, false) = (l ++ (List.range n).map (fun j => (List.range (nSt s (c + j))).map fun st => rowV s (iK s) (rwAt s (c + j) st)), (iAt s (c + n), false)) := by
  intro n; induction n with
  | zero => intro l c _; simp [condsP]
  | succ k ih =>
    intro l c h
    have e := condP_yes (h 0 (by omega))
    rw [Nat.add_zero] at e
    rw [condsP, e]
    simp only
    have e2 : stNext s (iR s) (iK s) (iAt s c) = iAt s (c + 1) := rfl
    rw [e2, ih _ _ (fun j hj => by have := h (j + 1) (by omega); rw [show c + 1 + j = c + (j + 1) by omega]; exact this)]
    refine Prod.ext ?_ (by simp only; congr 2; omega)
    simp only [List.append_assoc]
    congr 1
    rw [List.range_succ_eq_map]
    simp only [List.map_cons, List.map_map]
    rw [List.singleton_append]
    refine congr (congrArg List.cons rfl) ?_
    refine List.map_congr_left (fun j _ => ?_)
    simp only [Function.comp]
    rw [show c + 1 + j = c + (j + 1) by omega]

end Go.Stn

namespace Go.Proofs.Ytgjgjgihceijnaa
open Go.RowKit Go.Stn

theorem hidZ {p : Prop} (h : p) : Hid p := h

/-- The reader at block rb. -/
structure LRd (w : World) (rb : Nat) (s : ByteArray) (r : LSt) : Prop where
  c0 : w.cell? ⟨rb, 0, none⟩ = some (.string s)
  c1 : w.cell? ⟨rb, 1, none⟩ = some (.int .i64 r.1)
  c2 : w.cell? ⟨rb, 2, none⟩ = some (.bool r.2)
  fz : ∀ i, w.frozen? ⟨rb, i, none⟩ = false
  hb : rb < w.heap.size

variable {w w' : World} {rb : Nat} {s : ByteArray} {r : LSt}

theorem LRd.block (h : LRd w rb s r) (he : w'.heap[rb]? = w.heap[rb]?) (hz : w.heap.size ≤ w'.heap.size) : LRd w' rb s r :=
  ⟨(World.cell?_of_block (w := w) (a := ⟨rb, 0, none⟩) he).trans h.c0, (World.cell?_of_block (w := w) (a := ⟨rb, 1, none⟩) he).trans h.c1, (World.cell?_of_block (w := w) (a := ⟨rb, 2, none⟩) he).trans h.c2,
    fun i => (World.frozen?_of_block (w := w) (a := ⟨rb, i, none⟩) he).trans (h.fz i), by have := h.hb; omega⟩
theorem LRd.drewN (h : LRd w rb s r) (q : Nat) : LRd (w.drewN q) rb s r := ⟨h.c0, h.c1, h.c2, h.fz, h.hb⟩
theorem LRd.grown {v : Option Nat} (h : LRd w rb s r) (hg : w.grownBy w' v) (hv : some rb ≠ v) : LRd w' rb s r := h.block (hg.block rb h.hb hv) hg.size
theorem LRd.below {B : Nat} (h : LRd w rb s r) (hg : Below B w w') (hv : rb < B) : LRd w' rb s r := h.block (hg.block rb hv) hg.size
theorem LRd.setBad (h : LRd w rb s r) : LRd (w.setCell ⟨rb, 2, none⟩ (.bool true)) rb s (r.1, true) := by
  have o : ∀ j u, j ≠ 2 → w.cell? ⟨rb, j, none⟩ = some u → (w.setCell ⟨rb, 2, none⟩ (.bool true)).cell? ⟨rb, j, none⟩ = some u := fun j u hj hu => by
    rw [World.cell?_setCell_other (h := by intro e; injection e; omega)]; exact hu
  exact ⟨o 0 _ (by omega) h.c0, o 1 _ (by omega) h.c1, World.cell?_setCell_same _ _ _ h.c2, fun i => by rw [World.frozen?_setCell]; exact h.fz i, by have := h.hb; simp [World.setCell]; omega⟩
theorem LRd.adv (h : LRd w rb s r) : LRd (w.setCell ⟨rb, 1, none⟩ (.int .i64 ((r.1 : Int) + 1))) rb s (r.1 + 1, r.2) := by
  have o : ∀ j u, j ≠ 1 → w.cell? ⟨rb, j, none⟩ = some u → (w.setCell ⟨rb, 1, none⟩ (.int .i64 ((r.1 : Int) + 1))).cell? ⟨rb, j, none⟩ = some u := fun j u hj hu => by
    rw [World.cell?_setCell_other (h := by intro e; injection e; omega)]; exact hu
  exact ⟨o 0 _ (by omega) h.c0, World.cell?_setCell_same _ _ _ h.c1, o 2 _ (by omega) h.c2, fun i => by rw [World.frozen?_setCell]; exact h.fz i, by have := h.hb; simp [World.setCell]; omega⟩

set_option maxRecDepth 100000 in
set_option maxHeartbeats 1000000 in
theorem lnumber_any (s : ByteArray) (r : LSt) (lo hi : Nat) (rb : Nat) (w : World) (hs : s.size ≤ 120000) (h : LRd w rb s r) (hr : r.1 ≤ s.size) :
    Calls Try.prog 85 #[.pointer (some ⟨rb, 0, none⟩), .int .i64 lo, .int .i64 hi] w fun e w' =>
      e = .returned (.int .i64 ((numP s lo hi r).1 : Int)) ∧ w.grownBy w' (some rb) ∧ LRd w' rb s (numP s lo hi r).2 := by
  have HR := hidZ h
  have c0 := h.c0
  have c1 := h.c1
  have c2 := h.c2
  have f1 := h.fz 1
  have f2 := h.fz 2
  clear h
  obtain ⟨a, b⟩ := r
  simp only at *
  by_cases he : s.size ≤ a
  · have hd : decide ((s.size : Int) ≤ (a : Int)) = true := by simp; omega
    have HE : Hid (numP s lo hi (a, b) = (lo, (a, true))) := by unfold Hid numP; rw [if_neg (by simp only; omega)]
    go_enter Try.func85, Try.ntmps85
    go_wp2
    go_quiet (fail)
    go_wp2
    go_ret
    rw [HE.out]
    exact ⟨rfl, grown_set (grown_drewN (World.grownBy.refl _ _) _) _ _, (HR.out.drewN _).setBad⟩
  · have hd : decide ((s.size : Int) ≤ (a : Int)) = false := by simp; omega
    have hbe := bt_eq s a (by omega)
    have hbl := bt_lt s a
    have hI : (0 : Int) ≤ (a : Int) ∧ (a : Int) < (s.size : Int) := by omega
    have hwb : IntKind.i64.wrap (bt s a : Int) = (bt s a : Int) := IntWalk.i64_in _ (by omega)
    by_cases h1 : bt s a < lo
    · have HE : Hid (numP s lo hi (a, b) = (lo, (a + 1, true))) := by unfold Hid numP; rw [if_pos (by simp only; omega), if_pos (.inl h1)]
      have hd1 : decide ((bt s a : Int) < (lo : Int)) = true := by simp; omega
      go_enter Try.func85, Try.ntmps85
      go_wp2
      go_quiet (fail)
      go_wp2
      go_quiet (fail)
      go_wp2
      go_ret
      rw [HE.out]
      exact ⟨rfl, grown_set (grown_set (grown_drewN (World.grownBy.refl _ _) _) _ _) _ _, ((HR.out.drewN _).adv).setBad⟩
    · have hd1 : decide ((bt s a : Int) < (lo : Int)) = false := by simp; omega
      by_cases h2 : hi < bt s a
      · have HE : Hid (numP s lo hi (a, b) = (lo, (a + 1, true))) := by unfold Hid numP; rw [if_pos (by simp only; omega), if_pos (.inr h2)]
        have hd2 : decide ((hi : Int) < (bt s a : Int)) = true := by simp; omega
        go_enter Try.func85, Try.ntmps85
        go_wp2
        go_quiet (fail)
        go_wp2
        go_quiet (fail)
        go_wp2
        go_ret
        rw [HE.out]
        exact ⟨rfl, grown_set (grown_set (grown_drewN (World.grownBy.refl _ _) _) _ _) _ _, ((HR.out.drewN _).adv).setBad⟩
      · have HE : Hid (numP s lo hi (a, b) = (bt s a, (a + 1, b))) := by unfold Hid numP; rw [if_pos (by simp only; omega), if_neg (by simp only; omega)]
        have hd2 : decide ((hi : Int) < (bt s a : Int)) = false := by simp; omega
        go_enter Try.func85, Try.ntmps85
        go_wp2
        go_quiet (fail)
        go_wp2
        go_quiet (fail)
        go_wp2
        go_ret
        rw [HE.out]
        exact ⟨rfl, grown_set (grown_drewN (World.grownBy.refl _ _) _) _ _, (HR.out.drewN _).adv⟩
end Go.Proofs.Ytgjgjgihceijnaa

namespace Go.Stn
open Go.RowKit
/-- 'append' of one element within the capacity: its cells lie in the block made just before. -/
theorem wpList_fits1 {P : Program} (w : World) {ops : Array Oper} {rest : List Oper} {o : Oper} {a : Act} {Q : Exit → Act → World → Prop} (hgd : o.guard = none) (s x : Operand) (t : TypeId)
    (ho : o.op = .call { callee := .builtin .append, args := #[s, x], argTypes := #[t, t] })
    (base : Nat) (e : TypeId) (z : Value) (size bytes : Nat) (ht : P.underlying t = some (.slice e)) (hinfo : (P.info? e).map (fun i => (i.zero, i.size, i.bytes)) = some (some z, size, bytes))
    (g k cap : Nat) (xs cs : List Value) (e' : TypeId) (hs : a.eval s = .slice (some ⟨g, 0, none⟩) k cap) (hown : w.ownsRow base e size (.slice (some ⟨g, 0, none⟩) k cap) k xs)
    (B : Nat) (hB : w.heap.size = B) (hx : a.eval x = .slice (some ⟨B, 0, none⟩) 1 1) (hl : cs.length = size) (h1 : ∀ u ∈ cs, u.oneCell' = true) (hk : k + 1 ≤ cap)
    (h : ∀ w', w'.ownsRow base e size (.slice (some ⟨g, 0, none⟩) (k + 1) cap) (k + 1) (xs ++ cs) → (w.alloc (.cells cs.toArray e')).grownBy w' (some g) →
      wpList P ops Q rest (a.put o.dst (.slice (some ⟨g, 0, none⟩) (k + 1) cap)) w') : wpList P ops Q (o :: rest) a (w.alloc (.cells cs.toArray e')) := by
  subst hB
  obtain ⟨i, hi, hz, hsize, hb⟩ := info_parts hinfo
  refine wpList_append_fits _ hgd s x t ho base e i size ht hi hsize g k cap xs hs (hown.alloc _) ⟨w.heap.size, 0, none⟩ 1 1 cs hx (by omega) ?_ h1 hk h
  have := World.news_of_block (w := w.alloc (.cells cs.toArray e')) (B := w.heap.size) (cs := cs.toArray) (t := e') (fr := (0, 0)) (heap_alloc_new w _)
  simpa using this

theorem grown_new {a w w' : World} {r : Option Nat} {B : Nat} (h : a.grownBy w r) (k : w.grownBy w' (some B)) (hB : a.heap.size ≤ B) : a.grownBy w' r :=
  ⟨k.os.trans h.os, k.tape.trans h.tape, k.output.trans h.output, Nat.le_trans h.size k.size, fun i hi hr => (k.block i (Nat.lt_of_lt_of_le hi h.size) (by intro e; injection e; omega)).trans (h.block i hi hr)⟩
theorem grown_any {a w : World} (h : a.grownBy w none) (r : Option Nat) : a.grownBy w r := ⟨h.os, h.tape, h.output, h.size, fun i hi _ => h.block i hi (by simp)⟩

/-- A list of numbers as it lies in memory. -/
def natC (l : List Nat) : List Value := l.map fun (x : Nat) => Value.int .i64 (x : Int)
def intC (l : List Int) : List Value := l.map fun (x : Int) => Value.int .i64 x
theorem natC_snoc (l : List Nat) (x : Nat) : natC (l ++ [x]) = natC l ++ [.int .i64 (x : Int)] := by simp [natC]
theorem intC_snoc (l : List Int) (x : Int) : intC (l ++ [x]) = intC l ++ [.int .i64 x] := by simp [intC]
end Go.Stn
namespace Go.Proofs.Ytgjgjgihceijnaa
open Go.RowKit Go.Stn

theorem Try.infoInt : (Try.prog.info? 3).map (fun i => (i.zero, i.size, i.bytes)) = some (some (.int .i64 0), 1, 8) := by kernel_rfl

set_option maxRecDepth 100000 in
theorem llead_any (s : ByteArray) (r : LSt) (n : Nat) (rb : Nat) (w : World) (hs : s.size ≤ 120000) (h : LRd w rb s r) (hr : r.1 ≤ s.size) :
    Calls Try.prog 113 #[.pointer (some ⟨rb, 0, none⟩), .int .i64 n] w fun e w' =>
      e = .returned (.int .i64 (leadP s n r).1) ∧ w.grownBy w' (some rb) ∧ LRd w' rb s (leadP s n r).2 := by
  have hn := lnumber_any s r 0 255 rb w hs h hr
  have HP : Hid (leadP s n r = if (numP s 0 255 r).1 = 255 then (-1, (numP s 0 255 r).2)
    else if n ≤ (numP s 0 255 r).1 then (((numP s 0 255 r).1 : Int), ((numP s 0 255 r).2.1, true)) else (((numP s 0 255 r).1 : Int), (numP s 0 255 r).2)) := rfl
  generalize numP s 0 255 r = N at *
  obtain ⟨x, r1⟩ := N
  simp only at *
  clear h hr
  go_enter Try.func113, Try.ntmps113
  go_wp2_with fail
  refine hn.mono ?_
  rintro e w1 ⟨rfl, hg, hl⟩
  have HG := hidZ hg
  have HL := hidZ hl
  clear hg hn
  by_cases h255 : x = 255
  · have hd : ((x : Int) == 255) = true := by rw [h255]; rfl
    have HE : Hid (leadP s n r = (-1, r1)) := HP.out.trans (if_pos h255)
    clear hl h255
    go_wp2
    go_ret
    rw [HE.out]
    exact ⟨rfl, HG.out, HL.out⟩
  · have hd : ((x : Int) == 255) = false := by rw [beq_eq_false_iff_ne]; omega
    by_cases hle : n ≤ x
    · have hd2 : decide ((n : Int) ≤ (x : Int)) = true := by simp; omega
      have HE : Hid (leadP s n r = ((x : Int), (r1.1, true))) := by unfold Hid; rw [HP.out, if_neg h255, if_pos hle]
      have f2 := hl.fz 2
      have c2 := hl.c2
      clear hl h255
      go_wp2
      go_ret
      rw [HE.out]
      exact ⟨rfl, grown_set HG.out _ _, HL.out.setBad⟩
    · have hd2 : decide ((n : Int) ≤ (x : Int)) = false := by simp; omega
      have HE : Hid (leadP s n r = ((x : Int), r1)) := by unfold Hid; rw [HP.out, if_neg h255, if_neg hle]
      clear hl h255
      go_wp2
      go_ret
      rw [HE.out]
      exact ⟨rfl, HG.out, HL.out⟩

set_option maxRecDepth 100000 in
set_option maxHeartbeats 1000000 in
theorem lnumbers_any (s : ByteArray) (r : LSt) (n hi : Nat) (rb : Nat) (w : World) (hs : s.size ≤ 120000) (hn : n ≤ 1000) (h : LRd w rb s r) (hr : r.1 ≤ s.size) :
    Calls Try.prog 86 #[.pointer (some ⟨rb, 0, none⟩), .int .i64 n, .int .i64 hi] w fun e w' =>
      e = .returned (.slice (some ⟨w.heap.size, 0, none⟩) n n) ∧ w'.ownsRow w.heap.size 3 1 (.slice (some ⟨w.heap.size, 0, none⟩) n n) n (natC (numsP s hi n [] r).1) ∧
      w.grownBy w' (some rb) ∧ LRd w' rb s (numsP s hi n [] r).2 := by
  obtain ⟨i0, hi0, hz0, hz1, hz2⟩ := info_parts Try.infoInt
  have HI : Hid (Try.prog.info? 3 = some i0 ∧ i0.zero = some (.int .i64 0) ∧ i0.size = 1 ∧ i0.bytes = 8) := ⟨hi0, hz0, hz1, hz2⟩
  clear hi0 hz0 hz1 hz2
  have HR := hidZ h
  have hrb := h.hb
  clear h
  go_enter Try.func86, Try.ntmps86
  go_wp2_with (at_make; refine wpList_make_own w rfl _ _ 30 rfl w.heap.size 3 i0 (.int .i64 0) 1 Try.underlying30 HI.out.1 HI.out.2.1 HI.out.2.2.1 .i64 .i64 _ n rfl rfl rfl (by rw [HI.out.2.2.2]; omega) (by unfold maxLen; omega) (Nat.le_refl _) ?_; intro w1 hown hg)
  have HR1 := hidZ (HR.out.grown hg (by simp))
  have HG1 := hidZ (grown_any hg (some rb))
  have HO1 := hidZ hown
  have hsz1 := hg.size
  clear hown hg HR
  generalize hB : w.heap.size = B at *
  go_loopg [7] n (fun gk x wr => ∃ (xs : List Nat) (k : Nat) (r' : LSt), x = .slice (some ⟨B, 0, none⟩) k n ∧ xs.length = k ∧ k + gk = n ∧ r'.1 ≤ s.size ∧ numsP s hi n [] r = numsP s hi gk xs r' ∧
    wr.ownsRow B 3 1 (.slice (some ⟨B, 0, none⟩) k n) k (natC xs) ∧ w.grownBy wr (some rb) ∧ LRd wr rb s r')
  case atStart => exact ⟨[], 0, r, rfl, rfl, by omega, hr, rfl, HO1.out, HG1.out, HR1.out⟩
  case round =>
    obtain ⟨xs, k, r', rfl, hxl, hkn, hr', heq, hown, hg, hl⟩ := hrel
    have HQ := hidZ heq
    have HO := hidZ hown
    have HG := hidZ hg
    have HL := hidZ hl
    have HX := hidZ hxl
    have hsz : B ≤ wr.heap.size := by have := hg.size; omega
    clear heq hown hg hl hxl HR1 HG1 HO1
    by_cases hlt : k < n
    · obtain ⟨g', rfl⟩ : ∃ g', gk = g' + 1 := ⟨gk - 1, by omega⟩
      have HQ2 : Hid (numsP s hi n [] r = numsP s hi g' (xs ++ [(numP s 0 hi r').1]) (numP s 0 hi r').2) := HQ.out
      have hc := lnumber_any s r' 0 hi rb wr hs HL.out hr'
      have ha := numP_at (lo := 0) (hi := hi) hr'
      generalize numP s 0 hi r' = N at *
      obtain ⟨x, r2⟩ := N
      simp only at *
      have hd : decide ((k : Int) < (n : Int)) = true := by simp; omega
      go_wp2_with fail
      refine hc.mono ?_
      rintro e w2 ⟨rfl, hg2, hl2⟩
      have HO2 : Hid (w2.ownsRow B 3 1 (.slice (some ⟨B, 0, none⟩) k n) k (natC xs)) := hidZ (HO.out.kept hg2 (.inr (by simp [Value.ownBlock]; omega)))
      have HG2 := hidZ (grown_trans HG.out hg2)
      have HL2 := hidZ hl2
      have hsz2 : B ≤ w2.heap.size := by have := hg2.size; omega
      clear hg2 hl2 HO HG HL hc
      go_wp2_with (first | (at_builtin; refine wpList_fits1 w2 rfl _ _ 30 rfl B 3 (.int .i64 0) 1 8 Try.underlying30 Try.infoInt B k n (natC xs) [.int .i64 (x : Int)] _ rfl HO2.out _ rfl rfl rfl (by simp [Value.oneCell']) (by omega) ?_; intro w3 hown3 hgrow3))
      go_roundg g'
      case measure => omega
      case rel =>
        have hg3 := grown_alloc2 HG2.out (.cells #[.int .i64 (x : Int)] 3)
        refine ⟨xs ++ [x], k + 1, r2, rfl, by simp [HX.out], by omega, ha, HQ2.out, by rw [natC_snoc]; exact hown3, grown_new hg3 hgrow3 (by omega), ?_⟩
        exact (HL2.out.below ((Below.refl _ _).alloc hsz2 _) (by omega)).grown hgrow3 (by simp; omega)
    · have e : k = n := by omega
      subst e
      have e2 : gk = 0 := by omega
      subst e2
      have HE : Hid (numsP s hi k [] r = (xs, r')) := HQ.out
      have hd : decide ((k : Int) < (k : Int)) = false := by simp
      go_wp2
      go_ret
      rw [HE.out]
      subst hB
      exact ⟨rfl, HO.out, HG.out, HL.out⟩
end Go.Proofs.Ytgjgjgihceijnaa

