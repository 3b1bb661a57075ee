/- Plain functions: the longest token that begins at a place. -/
import Derived.Test.YtgjgjgihceijnaaScPure
namespace Go.Stn

/-- The state behind d bytes from p on; none: nowhere. -/
def stepTo (s inp : ByteArray) (c p : Nat) : Nat → Option Nat
  | 0 => some 0
  | d + 1 => match stepTo s inp c p d with
    | none => none
    | some st => if leadN s c st (bt inp (p + d)) = 255 then none else some (leadN s c st (bt inp (p + d)))

/-- The rule of the d bytes from p on; none: they are no token. -/
def tokAt (s inp : ByteArray) (c p d : Nat) : Option Nat :=
  match stepTo s inp c p d with
  | none => none
  | some st => if 0 < markN s c st then some (markN s c st - 1) else none

/-- The longest token of at most d bytes: its rule and its end; -1 and p: there is none. -/
def longD (s inp : ByteArray) (c p : Nat) : Nat → Int × Nat
  | 0 => (-1, p)
  | d + 1 => match tokAt s inp c p (d + 1) with
    | some r => ((r : Int), p + (d + 1))
    | none => longD s inp c p d

theorem stepTo_succ {s inp : ByteArray} {c p d st : Nat} (h : stepTo s inp c p d = some st) :
    stepTo s inp c p (d + 1) = if leadN s c st (bt inp (p + d)) = 255 then none else some (leadN s c st (bt inp (p + d))) := by
  rw [stepTo, h]

theorem stepTo_none {s inp : ByteArray} {c p j : Nat} (h : stepTo s inp c p j = none) : ∀ d, j ≤ d → stepTo s inp c p d = none := by
  intro d hd
  induction d with
  | zero => have : j = 0 := by omega
            subst this; exact h
  | succ n ih =>
    by_cases e : j = n + 1
    · rw [← e]; exact h
    · rw [stepTo, ih (by omega)]

theorem stepTo_lt {s inp : ByteArray} (hi : imgOk s = true) {c p : Nat} (hc : c < iM s) : ∀ d st, stepTo s inp c p d = some st → st < nSt s c := by
  intro d
  induction d with
  | zero => intro st h; rw [stepTo] at h; have := (nSt_le hi hc).2; simp at h; omega
  | succ n ih =>
    intro st h
    cases h2 : stepTo s inp c p n with
    | none => rw [stepTo, h2] at h; cases h
    | some t =>
      rw [stepTo_succ h2] at h
      split at h
      · cases h
      · rcases lead_lt hi hc (ih t h2) (bt_lt inp (p + n)) with h3 | h3
        · simp at h; omega
        · contradiction

theorem longD_none {s inp : ByteArray} {c p d : Nat} (h : tokAt s inp c p (d + 1) = none) : longD s inp c p (d + 1) = longD s inp c p d := by
  rw [longD, h]
theorem longD_some {s inp : ByteArray} {c p d r : Nat} (h : tokAt s inp c p (d + 1) = some r) : longD s inp c p (d + 1) = ((r : Int), p + (d + 1)) := by
  rw [longD, h]
theorem tokAt_none {s inp : ByteArray} {c p d : Nat} (h : stepTo s inp c p d = none) : tokAt s inp c p d = none := by
  unfold tokAt; rw [h]
theorem tokAt_no {s inp : ByteArray} {c p d st : Nat} (h : stepTo s inp c p d = some st) (hm : markN s c st = 0) : tokAt s inp c p d = none := by
  unfold tokAt; rw [h]; simp [hm]
theorem tokAt_yes {s inp : ByteArray} {c p d st : Nat} (h : stepTo s inp c p d = some st) (hm : 0 < markN s c st) : tokAt s inp c p d = some (markN s c st - 1) := by
  unfold tokAt; rw [h]; simp [hm]

/-- Is it among them? -/
def memB (l : List (Int × Int × Int)) (x : Int × Int × Int) : Bool := l.contains x

/-- What longest answers. -/
def lng (s inp : ByteArray) (c p : Nat) : Int × Nat := longD s inp c p (inp.size - p)

end Go.Stn
