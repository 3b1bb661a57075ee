/- Plain functions: what stencilref's reading of an image computes, over bytes. -/
namespace Go.Stn

/-- The byte of a text at a place; 0 behind its end. -/
def bt (s : ByteArray) (i : Nat) : Nat := (s.data.toList.getD i 0).toNat

theorem bt_lt (s : ByteArray) (i : Nat) : bt s i < 256 := by
  unfold bt; exact UInt8.toNat_lt _

theorem bt_eq (s : ByteArray) (i : Nat) (h : i < s.size) : (s[i]).toNat = bt s i := by
  unfold bt
  have : i < s.data.toList.length := by simpa using h
  rw [List.getD_eq_getElem?_getD, List.getElem?_eq_getElem this]
  rfl

/-- Are the bytes of s from i on, n of them, there, and none above most? -/
def belowB (s : ByteArray) (i n : Nat) (most : Int) : Bool :=
  decide (i + n ≤ s.size) && decide (∀ j, j < n → (bt s (i + j) : Int) ≤ most)

theorem belowB_short {s : ByteArray} {i n : Nat} {most : Int} (h : s.size < i + n) : belowB s i n most = false := by
  unfold belowB; simp; omega

theorem belowB_yes {s : ByteArray} {i n : Nat} {most : Int} (h : i + n ≤ s.size) (ha : ∀ j, j < n → (bt s (i + j) : Int) ≤ most) : belowB s i n most = true := by
  unfold belowB; simp [h]; exact ha

theorem belowB_no {s : ByteArray} {i n j : Nat} {most : Int} (hj : j < n) (ha : most < (bt s (i + j) : Int)) : belowB s i n most = false := by
  unfold belowB
  simp only [Bool.and_eq_false_iff, decide_eq_false_iff_not]
  right; intro h; have := h j hj; omega

end Go.Stn
