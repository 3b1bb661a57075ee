/- Plain mathematics: what is hopeless leads to no token; so looking that stops there finds the longest. -/
import Derived.Test.YtgjgjgihceijnaaScPure4
namespace Go.Stn

/-- The state behind d bytes from a stand on. -/
def stepFrom (s inp : ByteArray) (c : Nat) : Nat → Nat → Nat → Option Nat
  | st, _, 0 => some st
  | st, i, d + 1 => if leadN s c st (bt inp i) = 255 then none else stepFrom s inp c (leadN s c st (bt inp i)) (i + 1) d

theorem stepFrom_snoc (s inp : ByteArray) (c : Nat) : ∀ d st i, stepFrom s inp c st i (d + 1) =
    match stepFrom s inp c st i d with
    | none => none
    | some t => if leadN s c t (bt inp (i + d)) = 255 then none else some (leadN s c t (bt inp (i + d))) := by
  intro d
  induction d with
  | zero => intro st i; simp [stepFrom]
  | succ e ih =>
    intro st i
    rw [stepFrom]
    split
    · rename_i h; rw [stepFrom, if_pos h]
    · rename_i h
      rw [ih, stepFrom, if_neg h]
      have : i + 1 + e = i + (e + 1) := by omega
      rw [this]

theorem stepTo_from (s inp : ByteArray) (c p : Nat) : ∀ d, stepTo s inp c p d = stepFrom s inp c 0 p d := by
  intro d
  induction d with
  | zero => rfl
  | succ e ih => rw [stepTo, ih, stepFrom_snoc]; cases stepFrom s inp c 0 p e <;> rfl

/-- From this stand on no token comes. -/
def dead (s inp : ByteArray) (c st i : Nat) : Prop := ∀ d t, 1 ≤ d → i + d ≤ inp.size → stepFrom s inp c st i d = some t → markN s c t = 0

/-- All of these are dead. -/
def allDead (s inp : ByteArray) (H : List (Int × Int × Int)) : Prop := ∀ c st i, std c st i ∈ H → dead s inp c st i

theorem dead_end {s inp : ByteArray} {c st i : Nat} (h : ¬ i < inp.size) : dead s inp c st i := by
  intro d t hd hi; omega
theorem dead_nowhere {s inp : ByteArray} {c st i : Nat} (h : leadN s c st (bt inp i) = 255) : dead s inp c st i := by
  intro d t hd hi hs
  obtain ⟨e, rfl⟩ : ∃ e, d = e + 1 := ⟨d - 1, by omega⟩
  rw [stepFrom, if_pos h] at hs; cases hs
theorem dead_step {s inp : ByteArray} {c st i : Nat} (h : leadN s c st (bt inp i) ≠ 255) (hm : markN s c (leadN s c st (bt inp i)) = 0) (hd : dead s inp c (leadN s c st (bt inp i)) (i + 1)) : dead s inp c st i := by
  intro d t h1 hi hs
  obtain ⟨e, rfl⟩ : ∃ e, d = e + 1 := ⟨d - 1, by omega⟩
  rw [stepFrom, if_neg h] at hs
  cases e with
  | zero => rw [stepFrom] at hs; injection hs with hs; rw [← hs]; exact hm
  | succ f => exact hd (f + 1) t (by omega) (by omega) hs

/-- Looking on: the token that is found last; best: that of before. -/
def lookT (s inp : ByteArray) (c : Nat) (H : List (Int × Int × Int)) : Nat → Nat → Nat → Option (Nat × Nat) → Option (Nat × Nat)
  | 0, _, _, best => best
  | d + 1, st, i, best =>
    if memB H (std c st i) = true then best
    else if leadN s c st (bt inp i) = 255 then best
    else lookT s inp c H d (leadN s c st (bt inp i)) (i + 1) (if 0 < markN s c (leadN s c st (bt inp i)) then some (markN s c (leadN s c st (bt inp i)) - 1, i + 1) else best)

/-- Where nothing comes, nothing is found. -/
theorem lookT_dead {s inp : ByteArray} {c : Nat} : ∀ d st i best, i + d ≤ inp.size → dead s inp c st i → lookT s inp c [] d st i best = best := by
  intro d
  induction d with
  | zero => intro st i best _ _; rfl
  | succ e ih =>
    intro st i best hi hd
    rw [lookT, if_neg (by simp [memB])]
    split
    · rfl
    · rename_i h
      have hm : markN s c (leadN s c st (bt inp i)) = 0 := hd 1 _ (by omega) (by omega) (by rw [stepFrom, if_neg h, stepFrom])
      rw [if_neg (by omega)]
      refine ih _ _ _ (by omega) ?_
      intro d t h1 h2 h3
      exact hd (d + 1) t (by omega) (by omega) (by rw [stepFrom, if_neg h]; exact h3)

/-- What is hopeless may be passed by. -/
theorem lookT_hope {s inp : ByteArray} {c : Nat} {H : List (Int × Int × Int)} (hH : allDead s inp H) : ∀ d st i best, i + d ≤ inp.size → lookT s inp c H d st i best = lookT s inp c [] d st i best := by
  intro d
  induction d with
  | zero => intro st i best _; rfl
  | succ e ih =>
    intro st i best hi
    by_cases hm : memB H (std c st i) = true
    · rw [lookT, if_pos hm]
      have hin : std c st i ∈ H := by unfold memB at hm; exact List.contains_iff_mem.1 hm
      exact (lookT_dead (e + 1) st i best hi (hH c st i hin)).symm
    · rw [lookT, if_neg hm]
      conv => rhs; rw [lookT, if_neg (by simp [memB])]
      split
      · rfl
      · exact ih _ _ _ (by omega)

/-- The longest token from a stand on. -/
def longG (s inp : ByteArray) (c st i : Nat) : Nat → Option (Nat × Nat)
  | 0 => none
  | d + 1 => match stepFrom s inp c st i (d + 1) with
    | none => longG s inp c st i d
    | some t => if 0 < markN s c t then some (markN s c t - 1, i + (d + 1)) else longG s inp c st i d

theorem longG_nowhere {s inp : ByteArray} {c st i : Nat} (h : leadN s c st (bt inp i) = 255) : ∀ d, longG s inp c st i d = none := by
  intro d
  induction d with
  | zero => rfl
  | succ e ih =>
    have hs : stepFrom s inp c st i (e + 1) = none := by rw [stepFrom, if_pos h]
    rw [longG, hs]; exact ih

theorem longG_cons {s inp : ByteArray} {c st i : Nat} (h : leadN s c st (bt inp i) ≠ 255) : ∀ d, longG s inp c st i (d + 1) =
    (longG s inp c (leadN s c st (bt inp i)) (i + 1) d).or (if 0 < markN s c (leadN s c st (bt inp i)) then some (markN s c (leadN s c st (bt inp i)) - 1, i + 1) else none) := by
  intro d
  induction d with
  | zero =>
    have hs : stepFrom s inp c st i (0 + 1) = some (leadN s c st (bt inp i)) := by
      conv => lhs; rw [stepFrom, if_neg h]
      rfl
    conv => lhs; rw [longG, hs]
    simp [longG]
  | succ e ih =>
    have hs : stepFrom s inp c st i (e + 1 + 1) = stepFrom s inp c (leadN s c st (bt inp i)) (i + 1) (e + 1) := by
      conv => lhs; rw [stepFrom, if_neg h]
    rw [longG, hs]
    conv => rhs; rw [longG]
    cases stepFrom s inp c (leadN s c st (bt inp i)) (i + 1) (e + 1) with
    | none => exact ih
    | some t =>
      simp only
      by_cases hm : 0 < markN s c t
      · rw [if_pos hm, if_pos hm]; simp; omega
      · rw [if_neg hm, if_neg hm]; exact ih

theorem lookT_long {s inp : ByteArray} {c : Nat} : ∀ d st i best, lookT s inp c [] d st i best = (longG s inp c st i d).or best := by
  intro d
  induction d with
  | zero => intro st i best; simp [lookT, longG]
  | succ e ih =>
    intro st i best
    rw [lookT, if_neg (by simp [memB])]
    by_cases h : leadN s c st (bt inp i) = 255
    · rw [if_pos h, longG_nowhere h]; simp
    · rw [if_neg h, ih, longG_cons h]
      by_cases hm : 0 < markN s c (leadN s c st (bt inp i))
      · rw [if_pos hm, if_pos hm]; cases longG s inp c (leadN s c st (bt inp i)) (i + 1) e <;> simp
      · rw [if_neg hm, if_neg hm]; cases longG s inp c (leadN s c st (bt inp i)) (i + 1) e <;> simp

theorem longD_G (s inp : ByteArray) (c p : Nat) : ∀ d, longD s inp c p d = match longG s inp c 0 p d with
    | none => (-1, p)
    | some x => ((x.1 : Int), x.2) := by
  intro d
  induction d with
  | zero => rfl
  | succ e ih =>
    rw [longD, longG]
    unfold tokAt
    rw [stepTo_from]
    cases h : stepFrom s inp c 0 p (e + 1) with
    | none => simp only; exact ih
    | some t =>
      simp only
      by_cases hm : 0 < markN s c t
      · rw [if_pos hm, if_pos hm]
      · rw [if_neg hm, if_neg hm]; exact ih

/-- LOOKING FINDS THE LONGEST, whatever hopeless is known. -/
theorem look_finds {s inp : ByteArray} {c p : Nat} {H : List (Int × Int × Int)} (hH : allDead s inp H) (hp : p ≤ inp.size) :
    lng s inp c p = match lookT s inp c H (inp.size - p) 0 p none with
      | none => (-1, p)
      | some x => ((x.1 : Int), x.2) := by
  unfold lng
  rw [lookT_hope hH _ _ _ _ (by omega), lookT_long, longD_G]
  cases longG s inp c 0 p (inp.size - p) <;> simp

theorem std_inj {c st i c' st' i' : Nat} (h : std c st i = std c' st' i') : c = c' ∧ st = st' ∧ i = i' := by
  unfold std at h
  injection h with h1 h2
  injection h2 with h2 h3
  omega

/-- What stood since the last token is dead. -/
theorem lookP_dead {s inp : ByteArray} {c : Nat} {H : List (Int × Int × Int)} (hH : allDead s inp H) : ∀ d st i S n, i + d = inp.size →
    (∀ c' st' i', std c' st' i' ∈ S → dead s inp c st i → dead s inp c' st' i') → allDead s inp (lookP s inp c H d st i S n).1 := by
  intro d
  induction d with
  | zero =>
    intro st i S n hi hS c' st' i' hin
    exact hS c' st' i' hin (dead_end (by omega))
  | succ e ih =>
    intro st i S n hi hS
    by_cases hk : memB H (std c st i) = true
    · rw [lookP_known hk]
      intro c' st' i' hin
      exact hS c' st' i' hin (hH c st i (by unfold memB at hk; exact List.contains_iff_mem.1 hk))
    · have hk : memB H (std c st i) = false := by simpa using hk
      by_cases hl : leadN s c st (bt inp i) = 255
      · rw [lookP_nowhere hk hl]
        intro c' st' i' hin
        rcases List.mem_append.1 hin with h | h
        · exact hS c' st' i' h (dead_nowhere hl)
        · rw [List.mem_singleton] at h
          obtain ⟨rfl, rfl, rfl⟩ := std_inj h
          exact dead_nowhere hl
      · by_cases hm : 0 < markN s c (leadN s c st (bt inp i))
        · rw [lookP_token hk hl hm]
          exact ih _ _ _ _ (by omega) (fun c' st' i' h => by cases h)
        · rw [lookP_step hk hl (by omega)]
          refine ih _ _ _ _ (by omega) (fun c' st' i' h hd => ?_)
          have hd2 := dead_step hl (by omega) hd
          rcases List.mem_append.1 h with h | h
          · exact hS c' st' i' h hd2
          · rw [List.mem_singleton] at h
            obtain ⟨rfl, rfl, rfl⟩ := std_inj h
            exact hd2

theorem look_dead {s inp : ByteArray} {c p : Nat} {H : List (Int × Int × Int)} (hH : allDead s inp H) (hp : p ≤ inp.size) : allDead s inp (H ++ (lookFrom s inp c H p).1) := by
  intro c' st' i' hin
  rcases List.mem_append.1 hin with h | h
  · exact hH c' st' i' h
  · exact lookP_dead hH _ 0 p [] 0 (by omega) (fun _ _ _ h => by cases h) c' st' i' h

end Go.Stn
