/- Plain functions: the states of a condition, read off an image. -/
import Derived.Test.YtgjgjgihceijnaaCkPure
namespace Go.Stn

/-- One row of a state table is fine: the mark at most rules, each lead below n or 255. -/
def rowOk (s : ByteArray) (rules many n at_ : Nat) : Bool :=
  decide (bt s at_ ≤ rules) && decide (∀ k, k < many → bt s (at_ + (k + 1)) < n ∨ bt s (at_ + (k + 1)) = 255)

/-- A condition's part of an image that begins at i is fine. -/
def stOk (s : ByteArray) (rules many i : Nat) : Bool :=
  decide (i + 1 ≤ s.size) && (decide (bt s i ≤ 100) && (decide (bt s i ≠ 0) && (decide (i + 1 + bt s i * (1 + many) ≤ s.size) &&
    decide (∀ st, st < bt s i → rowOk s rules many (bt s i) (i + 1 + st * (1 + many)) = true))))

theorem rowOk_iff {s : ByteArray} {rules many n at_ : Nat} : rowOk s rules many n at_ = true ↔
    bt s at_ ≤ rules ∧ ∀ k, k < many → bt s (at_ + (k + 1)) < n ∨ bt s (at_ + (k + 1)) = 255 := by
  unfold rowOk; simp only [Bool.and_eq_true, decide_eq_true_eq]

theorem stOk_iff {s : ByteArray} {rules many i : Nat} : stOk s rules many i = true ↔
    i + 1 ≤ s.size ∧ bt s i ≤ 100 ∧ bt s i ≠ 0 ∧ i + 1 + bt s i * (1 + many) ≤ s.size ∧
      ∀ st, st < bt s i → rowOk s rules many (bt s i) (i + 1 + st * (1 + many)) = true := by
  unfold stOk; simp only [Bool.and_eq_true, decide_eq_true_eq]

/-- What states answers: how many, the place behind. -/
def stN (s : ByteArray) (rules many i : Nat) : Nat := if stOk s rules many i = true then bt s i else 0
def stNext (s : ByteArray) (rules many i : Nat) : Nat := if stOk s rules many i = true then i + 1 + bt s i * (1 + many) else i

/-- What states answers, as a value. -/
theorem st_no {s : ByteArray} {rules many i : Nat} (h : ¬ (stOk s rules many i = true)) :
    stN s rules many i = 0 ∧ stNext s rules many i = i ∧ stOk s rules many i = false := by
  refine ⟨?_, ?_, ?_⟩
  · simp [stN, h]
  · simp [stNext, h]
  · simpa using h

theorem st_yes {s : ByteArray} {rules many i : Nat} (h : stOk s rules many i = true) :
    stN s rules many i = bt s i ∧ stNext s rules many i = i + 1 + bt s i * (1 + many) := by
  refine ⟨?_, ?_⟩
  · simp [stN, h]
  · simp [stNext, h]

end Go.Stn
