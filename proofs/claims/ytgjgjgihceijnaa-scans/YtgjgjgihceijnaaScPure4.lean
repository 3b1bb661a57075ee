/- Plain functions: the whole cut. -/
import Derived.Test.YtgjgjgihceijnaaScPure3
namespace Go.Stn

/-- A rule's byte. -/
def thenB (s : ByteArray) (r : Nat) : Nat := bt s (4 + r)

/-- The cut from p on, in condition c: what was told, the steps, the condition in the end. -/
def runP (s inp : ByteArray) : Nat → Nat → Nat → List (Int × Int × Int) → Nat → List (Int × Int × Int) → List (Int × Int × Int) × Nat × Nat
  | 0, _, c, _, n, T => (T, n, c)
  | f + 1, p, c, H, n, T =>
    if p < inp.size then
      if (lng s inp c p).1 = -1 then (T ++ [(-1, (p : Int), (p : Int))], n + (lookFrom s inp c H p).2, c)
      else runP s inp f (lng s inp c p).2 (if 1 < thenB s (lng s inp c p).1.toNat then thenB s (lng s inp c p).1.toNat - 2 else c) (H ++ (lookFrom s inp c H p).1) (n + (lookFrom s inp c H p).2)
        (if thenB s (lng s inp c p).1.toNat = 1 then T else T ++ [((lng s inp c p).1, (p : Int), ((lng s inp c p).2 : Int))])
    else (T, n, c)

/-- The cut that begins at place 0 in condition c. -/
def cutP (s inp : ByteArray) (c : Nat) : List (Int × Int × Int) × Nat × Nat := runP s inp (inp.size + 1) 0 c [] 0 []

theorem longD_cases {s inp : ByteArray} (hi : imgOk s = true) {c p : Nat} (hc : c < iM s) : ∀ d, longD s inp c p d = (-1, p) ∨ ∃ r q : Nat, longD s inp c p d = ((r : Int), q) ∧ r < iR s ∧ p < q ∧ q ≤ p + d := by
  intro d
  induction d with
  | zero => exact .inl rfl
  | succ e ih =>
    cases ht : tokAt s inp c p (e + 1) with
    | none =>
      rw [longD_none ht]
      rcases ih with h | ⟨r, q, h1, h2, h3, h4⟩
      · exact .inl h
      · exact .inr ⟨r, q, h1, h2, h3, by omega⟩
    | some r =>
      right
      refine ⟨r, p + (e + 1), longD_some ht, ?_, by omega, by omega⟩
      unfold tokAt at ht
      split at ht
      · cases ht
      · rename_i st hst
        split at ht
        · rename_i hm
          have := mark_le hi hc (stepTo_lt hi hc _ _ hst)
          simp at ht
          omega
        · cases ht

theorem lng_cases {s inp : ByteArray} (hi : imgOk s = true) {c p : Nat} (hc : c < iM s) (hp : p ≤ inp.size) : lng s inp c p = (-1, p) ∨ ∃ r q : Nat, lng s inp c p = ((r : Int), q) ∧ r < iR s ∧ p < q ∧ q ≤ inp.size := by
  unfold lng
  rcases longD_cases hi hc (inp := inp) (p := p) (inp.size - p) with h | ⟨r, q, h1, h2, h3, h4⟩
  · exact .inl h
  · exact .inr ⟨r, q, h1, h2, h3, by omega⟩

theorem then_le {s : ByteArray} (hi : imgOk s = true) {r : Nat} (hr : r < iR s) : thenB s r ≤ 1 + iM s := by
  have hC := (imgOk_iff.1 hi).2.2.1
  unfold headC at hC
  simp only [Bool.and_eq_true] at hC
  have := belowB_le hC.1 r hr
  unfold thenB
  omega

theorem runP_end {s inp : ByteArray} {f p c n : Nat} {H T : List (Int × Int × Int)} (h : ¬ p < inp.size) : runP s inp (f + 1) p c H n T = (T, n, c) := by
  rw [runP, if_neg h]
theorem runP_none {s inp : ByteArray} {f p c n : Nat} {H T : List (Int × Int × Int)} (h : p < inp.size) (hl : lng s inp c p = (-1, p)) :
    runP s inp (f + 1) p c H n T = (T ++ [(-1, (p : Int), (p : Int))], n + (lookFrom s inp c H p).2, c) := by
  rw [runP, if_pos h, hl, if_pos rfl]
theorem runP_some {s inp : ByteArray} {f p c n r q : Nat} {H T : List (Int × Int × Int)} (h : p < inp.size) (hl : lng s inp c p = ((r : Int), q)) :
    runP s inp (f + 1) p c H n T = runP s inp f q (if 1 < thenB s r then thenB s r - 2 else c) (H ++ (lookFrom s inp c H p).1) (n + (lookFrom s inp c H p).2)
      (if thenB s r = 1 then T else T ++ [((r : Int), (p : Int), (q : Int))]) := by
  rw [runP, if_pos h, hl, if_neg (by simp)]
  simp

/-- More fuel than bytes ahead tells nothing more. -/
theorem runP_fuel {s inp : ByteArray} (hi : imgOk s = true) : ∀ (f f' : Nat) {p c n : Nat} {H T : List (Int × Int × Int)}, c < iM s → inp.size - p < f → inp.size - p < f' → runP s inp f p c H n T = runP s inp f' p c H n T := by
  intro f
  induction f with
  | zero => intro f' p c n H T _ h; omega
  | succ e ih =>
    intro f' p c n H T hc h h'
    obtain ⟨e', rfl⟩ : ∃ e', f' = e' + 1 := ⟨f' - 1, by omega⟩
    by_cases hlt : p < inp.size
    · rcases lng_cases hi hc (Nat.le_of_lt hlt) with hno | ⟨r, q, hyes, hr, hpq, hq⟩
      · rw [runP_none hlt hno, runP_none hlt hno]
      · rw [runP_some hlt hyes, runP_some hlt hyes]
        have := then_le hi hr
        exact ih e' (by split <;> omega) (by omega) (by omega)
    · rw [runP_end hlt, runP_end hlt]

theorem lookFrom_len {s inp : ByteArray} {c p : Nat} {H : List (Int × Int × Int)} : (lookFrom s inp c H p).1.length ≤ inp.size - p ∧ (lookFrom s inp c H p).2 ≤ inp.size - p := by
  have := lookP_len (s := s) (inp := inp) (c := c) (H := H) (inp.size - p) 0 p [] 0
  unfold lookFrom
  simp at this
  exact this

end Go.Stn
