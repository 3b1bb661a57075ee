/- Plain functions: stepping through an image's tables. -/
import Derived.Test.YtgjgjgihceijnaaCkPure3
namespace Go.Stn

/-- How many states a condition has. -/
def nSt (s : ByteArray) (c : Nat) : Nat := bt s (iAt s c)
/-- The place of a state's row. -/
def rwAt (s : ByteArray) (c st : Nat) : Nat := iAt s c + 1 + st * (1 + iK s)
/-- A byte's class. -/
def clsN (s : ByteArray) (v : Nat) : Nat := bt s (6 + iR s + v)
/-- Where a byte leads: the byte of the table. -/
def leadN (s : ByteArray) (c st v : Nat) : Nat := bt s (rwAt s c st + 1 + clsN s v)
/-- A state's first byte. -/
def markN (s : ByteArray) (c st : Nat) : Nat := bt s (rwAt s c st)

theorem img_head {s : ByteArray} (h : imgOk s = true) : iR s ≤ 8 ∧ 1 ≤ iR s ∧ 1 ≤ iM s ∧ iM s ≤ 4 ∧ 6 + iR s + 256 ≤ s.size := by
  rw [imgOk_iff] at h
  have hA := headA_iff.1 h.1
  have hB := h.2.1
  unfold headB at hB
  simp only [Bool.and_eq_true, decide_eq_true_eq] at hB
  have hm := belowB_le hB.1 0 (by omega)
  have hD := h.2.2.2.1
  unfold headD at hD
  have := belowB_size hD
  have e : (bt s (4 + iR s + 0) : Int) = (iM s : Int) := rfl
  rw [e] at hm
  exact ⟨hA.2.2.2, hA.2.2.1, by omega, by omega, by omega⟩

theorem cls_lt {s : ByteArray} (h : imgOk s = true) (v : Nat) (hv : v < 256) : clsN s v < iK s := by
  rw [imgOk_iff] at h
  have hD := h.2.2.2.1
  unfold headD at hD
  have := belowB_le hD v hv
  unfold clsN
  omega

theorem img_st {s : ByteArray} (h : imgOk s = true) {c : Nat} (hc : c < iM s) : stOk s (iR s) (iK s) (iAt s c) = true := (imgOk_iff.1 h).2.2.2.2.1 c hc

theorem row_in {s : ByteArray} (h : imgOk s = true) {c st : Nat} (hc : c < iM s) (hst : st < nSt s c) : rwAt s c st + iK s < s.size := by
  have hs := stOk_iff.1 (img_st h hc)
  have h4 := hs.2.2.2.1
  unfold rwAt nSt at *
  have : st * (1 + iK s) + (1 + iK s) ≤ bt s (iAt s c) * (1 + iK s) := by
    have := Nat.mul_le_mul_right (1 + iK s) (show st + 1 ≤ bt s (iAt s c) from hst)
    rw [Nat.add_mul] at this; omega
  omega

theorem lead_in {s : ByteArray} (h : imgOk s = true) {c st v : Nat} (hc : c < iM s) (hst : st < nSt s c) (hv : v < 256) : rwAt s c st + 1 + clsN s v < s.size := by
  have := row_in h hc hst
  have := cls_lt h v hv
  omega

theorem lead_lt {s : ByteArray} (h : imgOk s = true) {c st v : Nat} (hc : c < iM s) (hst : st < nSt s c) (hv : v < 256) : leadN s c st v < nSt s c ∨ leadN s c st v = 255 := by
  have hs := stOk_iff.1 (img_st h hc)
  have hr := hs.2.2.2.2 st hst
  rw [rowOk_iff] at hr
  have := hr.2 (clsN s v) (cls_lt h v hv)
  unfold leadN rwAt nSt
  have e : iAt s c + 1 + st * (1 + iK s) + (clsN s v + 1) = iAt s c + 1 + st * (1 + iK s) + 1 + clsN s v := by omega
  rw [e] at this
  exact this

theorem mark_le {s : ByteArray} (h : imgOk s = true) {c st : Nat} (hc : c < iM s) (hst : st < nSt s c) : markN s c st ≤ iR s := by
  have hs := stOk_iff.1 (img_st h hc)
  have hr := hs.2.2.2.2 st hst
  rw [rowOk_iff] at hr
  exact hr.1

theorem nSt_le {s : ByteArray} (h : imgOk s = true) {c : Nat} (hc : c < iM s) : nSt s c ≤ 100 ∧ 1 ≤ nSt s c := by
  have hs := stOk_iff.1 (img_st h hc)
  unfold nSt
  have := hs.2.1
  have := hs.2.2.1
  omega

theorem rwAt_int (s : ByteArray) (c st : Nat) : ((iAt s c + 1 : Nat) : Int) + (st : Int) * (1 + (iK s : Int)) = (rwAt s c st : Int) := by
  unfold rwAt; simp

end Go.Stn
