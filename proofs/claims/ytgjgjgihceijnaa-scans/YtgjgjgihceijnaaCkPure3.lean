/- Plain functions: an image, as stencilref.Parse reads it. -/
import Derived.Test.YtgjgjgihceijnaaCkPure2
namespace Go.Stn

/-- How many rules, conditions, classes an image tells. -/
def iR (s : ByteArray) : Nat := bt s 3
def iM (s : ByteArray) : Nat := bt s (4 + iR s)
def iK (s : ByteArray) : Nat := bt s (5 + iR s) + 1

/-- Where the part of condition c begins. -/
def iAt (s : ByteArray) : Nat → Nat
  | 0 => 262 + iR s
  | c + 1 => stNext s (iR s) (iK s) (iAt s c)

/-- The head of an image: letters, rules, conditions. -/
def headA (s : ByteArray) : Bool :=
  decide (4 ≤ s.size) && (decide (bt s 0 = 83 ∧ bt s 1 = 84 ∧ bt s 2 = 1) && (decide (1 ≤ iR s) && decide (iR s ≤ 8)))
def headB (s : ByteArray) : Bool := belowB s (4 + iR s) 1 4 && decide (iM s ≠ 0)
def headC (s : ByteArray) : Bool := belowB s 4 (iR s) (1 + (iM s : Int)) && belowB s (5 + iR s) 1 255
def headD (s : ByteArray) : Bool := belowB s (6 + iR s) 256 ((iK s : Int) - 1)

/-- Is a text an image? -/
def imgOk (s : ByteArray) : Bool :=
  headA s && (headB s && (headC s && (headD s && (decide (∀ c, c < iM s → stOk s (iR s) (iK s) (iAt s c) = true) && decide (iAt s (iM s) = s.size)))))

theorem iK_pos (s : ByteArray) : 1 ≤ iK s := by unfold iK; omega
theorem iK_le (s : ByteArray) : iK s ≤ 256 := by unfold iK; have := bt_lt s (5 + iR s); omega

theorem imgOk_iff {s : ByteArray} : imgOk s = true ↔
    headA s = true ∧ headB s = true ∧ headC s = true ∧ headD s = true ∧ (∀ c, c < iM s → stOk s (iR s) (iK s) (iAt s c) = true) ∧ iAt s (iM s) = s.size := by
  unfold imgOk; simp only [Bool.and_eq_true, decide_eq_true_eq]

theorem headA_iff {s : ByteArray} : headA s = true ↔ 4 ≤ s.size ∧ (bt s 0 = 83 ∧ bt s 1 = 84 ∧ bt s 2 = 1) ∧ 1 ≤ iR s ∧ iR s ≤ 8 := by
  unfold headA; simp only [Bool.and_eq_true, decide_eq_true_eq]

theorem iAt_step {s : ByteArray} {c : Nat} (h : stOk s (iR s) (iK s) (iAt s c) = true) :
    iAt s (c + 1) = iAt s c + 1 + bt s (iAt s c) * (1 + iK s) ∧ iAt s (c + 1) ≤ s.size := by
  have h2 : iAt s (c + 1) = stNext s (iR s) (iK s) (iAt s c) := rfl
  rw [h2, (st_yes h).2]
  exact ⟨rfl, (stOk_iff.1 h).2.2.2.1⟩

theorem belowB_size {s : ByteArray} {i n : Nat} {m : Int} (h : belowB s i n m = true) : i + n ≤ s.size := by
  unfold belowB at h; simp only [Bool.and_eq_true, decide_eq_true_eq] at h; exact h.1
theorem belowB_le {s : ByteArray} {i n : Nat} {m : Int} (h : belowB s i n m = true) : ∀ j, j < n → (bt s (i + j) : Int) ≤ m := by
  unfold belowB at h; simp only [Bool.and_eq_true, decide_eq_true_eq] at h; exact h.2

theorem not_img_A {s : ByteArray} (h : headA s = false) : imgOk s = false := by
  unfold imgOk; rw [h]; rfl
theorem not_img_B {s : ByteArray} (h : headB s = false) : imgOk s = false := by
  unfold imgOk; rw [h]; simp
theorem not_img_C {s : ByteArray} (h : headC s = false) : imgOk s = false := by
  unfold imgOk; rw [h]; simp
theorem not_img_D {s : ByteArray} (h : headD s = false) : imgOk s = false := by
  unfold imgOk; rw [h]; simp
theorem not_img_st {s : ByteArray} {c : Nat} (hc : c < iM s) (h : stOk s (iR s) (iK s) (iAt s c) = false) : imgOk s = false := by
  cases hi : imgOk s with
  | false => rfl
  | true => rw [imgOk_iff] at hi; rw [hi.2.2.2.2.1 c hc] at h; cases h

end Go.Stn
