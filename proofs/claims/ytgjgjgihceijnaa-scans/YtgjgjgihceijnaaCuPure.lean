/- stands: plain facts. -/
import Derived.Test.YtgjgjgihceijnaaCuW
import Derived.Deep.CutBlock
namespace Go.Stn
open Go.RowKit
/-- Stands as they lie in memory: a state's times the input's length, and the place. -/
def stdC (L : Nat) (S : List (Int × Int × Int)) : List Value := S.map fun (x : Int × Int × Int) => Value.int .i64 (x.2.1 * (L : Int) + x.2.2)
theorem stdC_snoc (L : Nat) (S : List (Int × Int × Int)) (c st i : Nat) : stdC L (S ++ [std c st i]) = stdC L S ++ [Value.int .i64 ((st : Int) * (L : Int) + (i : Int))] := by simp [stdC, std]
/-- The tables tell what is hopeless. -/
def hopeOk (s inp : ByteArray) (H : List (Int × Int × Int)) (HT : Nat → Nat → Bool) : Prop := ∀ c st i, c < iM s → st < nSt s c → i < inp.size → HT c (st * inp.size + i) = memB H (std c st i)
/-- Stands of one condition, all within its table. -/
def okS (s inp : ByteArray) (c : Nat) (S : List (Int × Int × Int)) : Prop := ∀ x ∈ S, ∃ st i, x = std c st i ∧ st < nSt s c ∧ i < inp.size
theorem okS_snoc {s inp : ByteArray} {c st i : Nat} {S : List (Int × Int × Int)} (h : okS s inp c S) (h1 : st < nSt s c) (h2 : i < inp.size) : okS s inp c (S ++ [std c st i]) := fun x hx => by
  rcases List.mem_append.1 hx with h3 | h3
  · exact h x h3
  · rw [List.mem_singleton] at h3; exact ⟨st, i, h3, h1, h2⟩
theorem okS_nil (s inp : ByteArray) (c : Nat) : okS s inp c [] := fun _ hx => absurd hx (List.not_mem_nil)
theorem memB_app (H : List (Int × Int × Int)) (x y : Int × Int × Int) : memB (H ++ [x]) y = (memB H y || decide (y = x)) := by
  unfold memB
  rw [Bool.eq_iff_iff]
  simp
theorem stand_lt {n L st i : Nat} (h1 : st < n) (h2 : i < L) : st * L + i < n * L := by
  have := Nat.mul_le_mul_right L (show st + 1 ≤ n from h1)
  rw [Nat.add_mul] at this; omega
theorem stand_inj {L st i st' i' : Nat} (h1 : i < L) (h2 : i' < L) (h : st * L + i = st' * L + i') : st = st' ∧ i = i' := by
  have hL : 0 < L := by omega
  have e1 : (st * L + i) / L = st := by rw [Nat.mul_comm, Nat.mul_add_div hL, Nat.div_eq_of_lt h1]; omega
  have e2 : (st' * L + i') / L = st' := by rw [Nat.mul_comm, Nat.mul_add_div hL, Nat.div_eq_of_lt h2]; omega
  have e : st = st' := by rw [← e1, ← e2, h]
  subst e
  exact ⟨rfl, by omega⟩
theorem hope_mark {s inp : ByteArray} {H : List (Int × Int × Int)} {HT : Nat → Nat → Bool} (h : hopeOk s inp H HT) {c st i : Nat} (h2 : i < inp.size) :
    hopeOk s inp (H ++ [std c st i]) (fun j m => if j = c ∧ m = st * inp.size + i then true else HT j m) := by
  intro c' st' i' hc hs hi
  rw [memB_app]
  by_cases e : c' = c ∧ st' * inp.size + i' = st * inp.size + i
  · simp only
    rw [if_pos e]
    obtain ⟨e1, e2⟩ := stand_inj hi h2 e.2
    rw [e.1, e1, e2]; simp
  · simp only
    rw [if_neg e, h c' st' i' hc hs hi]
    have : decide (std c' st' i' = std c st i) = false := by
      rw [decide_eq_false_iff_not]; intro q
      obtain ⟨q1, q2, q3⟩ := std_inj q
      exact e ⟨q1, by rw [q2, q3]⟩
    rw [this, Bool.or_false]
/-- What look tells of a token: its rule and 1, its end. -/
def tokN : Option (Nat × Nat) → Nat
  | none => 0
  | some x => x.1 + 1
def toN (p : Nat) : Option (Nat × Nat) → Nat
  | none => p
  | some x => x.2
theorem lookT_known {s inp : ByteArray} {c d st i : Nat} {H : List (Int × Int × Int)} {b : Option (Nat × Nat)} (h : memB H (std c st i) = true) : lookT s inp c H (d + 1) st i b = b := by rw [lookT, if_pos h]
theorem lookT_nowhere {s inp : ByteArray} {c d st i : Nat} {H : List (Int × Int × Int)} {b : Option (Nat × Nat)} (h : memB H (std c st i) = false) (hl : leadN s c st (bt inp i) = 255) : lookT s inp c H (d + 1) st i b = b := by
  rw [lookT, if_neg (by rw [h]; decide), if_pos hl]
theorem lookT_token {s inp : ByteArray} {c d st i : Nat} {H : List (Int × Int × Int)} {b : Option (Nat × Nat)} (h : memB H (std c st i) = false) (hl : leadN s c st (bt inp i) ≠ 255) (hm : 0 < markN s c (leadN s c st (bt inp i))) :
    lookT s inp c H (d + 1) st i b = lookT s inp c H d (leadN s c st (bt inp i)) (i + 1) (some (markN s c (leadN s c st (bt inp i)) - 1, i + 1)) := by
  rw [lookT, if_neg (by rw [h]; decide), if_neg hl, if_pos hm]
theorem lookT_step {s inp : ByteArray} {c d st i : Nat} {H : List (Int × Int × Int)} {b : Option (Nat × Nat)} (h : memB H (std c st i) = false) (hl : leadN s c st (bt inp i) ≠ 255) (hm : markN s c (leadN s c st (bt inp i)) = 0) :
    lookT s inp c H (d + 1) st i b = lookT s inp c H d (leadN s c st (bt inp i)) (i + 1) b := by
  rw [lookT, if_neg (by rw [h]; decide), if_neg hl, if_neg (by omega)]
end Go.Stn
