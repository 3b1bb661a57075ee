/- Plain functions: looking, and the whole cut. -/
import Derived.Test.YtgjgjgihceijnaaScPure2
namespace Go.Stn

/-- A stand: a condition, a state, a place. -/
def std (c st i : Nat) : Int × Int × Int := ((c : Int), (st : Int), (i : Int))

/-- Looking on from a stand, d bytes ahead of the input's end: what stood since the last token, the steps. -/
def lookP (s inp : ByteArray) (c : Nat) (H : List (Int × Int × Int)) : Nat → Nat → Nat → List (Int × Int × Int) → Nat → List (Int × Int × Int) × Nat
  | 0, _, _, S, n => (S, n)
  | d + 1, st, i, S, n =>
    if memB H (std c st i) = true then (S, n)
    else if leadN s c st (bt inp i) = 255 then (S ++ [std c st i], n + 1)
    else lookP s inp c H d (leadN s c st (bt inp i)) (i + 1) (if 0 < markN s c (leadN s c st (bt inp i)) then [] else S ++ [std c st i]) (n + 1)

theorem lookP_known {s inp : ByteArray} {c d st i n : Nat} {H S : List (Int × Int × Int)} (h : memB H (std c st i) = true) : lookP s inp c H (d + 1) st i S n = (S, n) := by
  rw [lookP, if_pos h]
theorem lookP_nowhere {s inp : ByteArray} {c d st i n : Nat} {H S : List (Int × Int × Int)} (h : memB H (std c st i) = false) (hl : leadN s c st (bt inp i) = 255) :
    lookP s inp c H (d + 1) st i S n = (S ++ [std c st i], n + 1) := by
  rw [lookP, if_neg (by rw [h]; decide), if_pos hl]
theorem lookP_token {s inp : ByteArray} {c d st i n : Nat} {H S : List (Int × Int × Int)} (h : memB H (std c st i) = false) (hl : leadN s c st (bt inp i) ≠ 255) (hm : 0 < markN s c (leadN s c st (bt inp i))) :
    lookP s inp c H (d + 1) st i S n = lookP s inp c H d (leadN s c st (bt inp i)) (i + 1) [] (n + 1) := by
  rw [lookP, if_neg (by rw [h]; decide), if_neg hl, if_pos hm]
theorem lookP_step {s inp : ByteArray} {c d st i n : Nat} {H S : List (Int × Int × Int)} (h : memB H (std c st i) = false) (hl : leadN s c st (bt inp i) ≠ 255) (hm : markN s c (leadN s c st (bt inp i)) = 0) :
    lookP s inp c H (d + 1) st i S n = lookP s inp c H d (leadN s c st (bt inp i)) (i + 1) (S ++ [std c st i]) (n + 1) := by
  rw [lookP, if_neg (by rw [h]; decide), if_neg hl, if_neg (by omega)]

/-- Looking from p. -/
def lookFrom (s inp : ByteArray) (c : Nat) (H : List (Int × Int × Int)) (p : Nat) : List (Int × Int × Int) × Nat := lookP s inp c H (inp.size - p) 0 p [] 0

theorem lookP_len {s inp : ByteArray} {c : Nat} {H : List (Int × Int × Int)} : ∀ d st i S n, (lookP s inp c H d st i S n).1.length ≤ S.length + d ∧ (lookP s inp c H d st i S n).2 ≤ n + d := by
  intro d
  induction d with
  | zero => intro st i S n; simp [lookP]
  | succ e ih =>
    intro st i S n
    rw [lookP]
    split
    · exact ⟨by simp only; omega, by simp only; omega⟩
    · split
      · simp
      · have := ih (leadN s c st (bt inp i)) (i + 1) (if 0 < markN s c (leadN s c st (bt inp i)) then [] else S ++ [std c st i]) (n + 1)
        split at this
        · rename_i hm; rw [if_pos hm]; simp at this ⊢; omega
        · rename_i hm; rw [if_neg hm]; simp at this ⊢; omega

end Go.Stn
