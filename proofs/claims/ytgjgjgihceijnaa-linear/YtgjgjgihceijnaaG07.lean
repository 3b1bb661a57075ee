/- Texts put together: ScHope, ScLead, ScLongest, ScHas. -/
import Derived.Test.YtgjgjgihceijnaaG03
import Derived.Test.YtgjgjgihceijnaaG05
import Derived.Test.YtgjgjgihceijnaaG01
import Derived.Laws.StructEq
/- Plain mathematics: what is hopeless leads to no token; so looking that stops there finds the longest. -/
namespace Go.Stn

/-- The state behind d bytes from a stand on. -/
def stepFrom (s inp : ByteArray) (c : Nat) : Nat → Nat → Nat → Option Nat
  | st, _, 0 => some st
  | st, i, d + 1 => if leadN s c st (bt inp i) = 255 then none else stepFrom s inp c (leadN s c st (bt inp i)) (i + 1) d

theorem stepFrom_snoc (s inp : ByteArray) (c : Nat) : ∀ d st i, stepFrom s inp c st i (d + 1) =
    match stepFrom s inp c st i d with
    | none => none
    | some t => if leadN s c t (bt inp (i + d)) = 255 then none else some (leadN s c t (bt inp (i + d))) := by
  intro d
  induction d with
  | zero => intro st i; simp [stepFrom]
  | succ e ih =>
    intro st i
    rw [stepFrom]
    split
    · rename_i h; rw [stepFrom, if_pos h]
    · rename_i h
      rw [ih, stepFrom, if_neg h]
      have : i + 1 + e = i + (e + 1) := by omega
      rw [this]

theorem stepTo_from (s inp : ByteArray) (c p : Nat) : ∀ d, stepTo s inp c p d = stepFrom s inp c 0 p d := by
  intro d
  induction d with
  | zero => rfl
  | succ e ih => rw [stepTo, ih, stepFrom_snoc]; cases stepFrom s inp c 0 p e <;> rfl

/-- From this stand on no token comes. -/
def dead (s inp : ByteArray) (c st i : Nat) : Prop := ∀ d t, 1 ≤ d → i + d ≤ inp.size → stepFrom s inp c st i d = some t → markN s c t = 0

/-- All of these are dead. -/
def allDead (s inp : ByteArray) (H : List (Int × Int × Int)) : Prop := ∀ c st i, std c st i ∈ H → dead s inp c st i

theorem dead_end {s inp : ByteArray} {c st i : Nat} (h : ¬ i < inp.size) : dead s inp c st i := by
  intro d t hd hi; omega
theorem dead_nowhere {s inp : ByteArray} {c st i : Nat} (h : leadN s c st (bt inp i) = 255) : dead s inp c st i := by
  intro d t hd hi hs
  obtain ⟨e, rfl⟩ : ∃ e, d = e + 1 := ⟨d - 1, by omega⟩
  rw [stepFrom, if_pos h] at hs; cases hs
theorem dead_step {s inp : ByteArray} {c st i : Nat} (h : leadN s c st (bt inp i) ≠ 255) (hm : markN s c (leadN s c st (bt inp i)) = 0) (hd : dead s inp c (leadN s c st (bt inp i)) (i + 1)) : dead s inp c st i := by
  intro d t h1 hi hs
  obtain ⟨e, rfl⟩ : ∃ e, d = e + 1 := ⟨d - 1, by omega⟩
  rw [stepFrom, if_neg h] at hs
  cases e with
  | zero => rw [stepFrom] at hs; injection hs with hs; rw [← hs]; exact hm
  | succ f => exact hd (f + 1) t (by omega) (by omega) hs

/-- Looking on: the token that is found last; best: that of before. -/
def lookT (s inp : ByteArray) (c : Nat) (H : List (Int × Int × Int)) : Nat → Nat → Nat → Option (Nat × Nat) → Option (Nat × Nat)
  | 0, _, _, best => best
  | d + 1, st, i, best =>
    if memB H (std c st i) = true then best
    else if leadN s c st (bt inp i) = 255 then best
    else lookT s inp c H d (leadN s c st (bt inp i)) (i + 1) (if 0 < markN s c (leadN s c st (bt inp i)) then some (markN s c (leadN s c st (bt inp i)) - 1, i + 1) else best)

/-- Where nothing comes, nothing is found. -/
theorem lookT_dead {s inp : ByteArray} {c : Nat} : ∀ d st i best, i + d ≤ inp.size → dead s inp c st i → lookT s inp c [] d st i best = best := by
  intro d
  induction d with
  | zero => intro st i best _ _; rfl
  | succ e ih =>
    intro st i best hi hd
    rw [lookT, if_neg (by simp [memB])]
    split
    · rfl
    · rename_i h
      have hm : markN s c (leadN s c st (bt inp i)) = 0 := hd 1 _ (by omega) (by omega) (by rw [stepFrom, if_neg h, stepFrom])
      rw [if_neg (by omega)]
      refine ih _ _ _ (by omega) ?_
      intro d t h1 h2 h3
      exact hd (d + 1) t (by omega) (by omega) (by rw [stepFrom, if_neg h]; exact h3)

/-- What is hopeless may be passed by. -/
theorem lookT_hope {s inp : ByteArray} {c : Nat} {H : List (Int × Int × Int)} (hH : allDead s inp H) : ∀ d st i best, i + d ≤ inp.size → lookT s inp c H d st i best = lookT s inp c [] d st i best := by
  intro d
  induction d with
  | zero => intro st i best _; rfl
  | succ e ih =>
    intro st i best hi
    by_cases hm : memB H (std c st i) = true
    · rw [lookT, if_pos hm]
      have hin : std c st i ∈ H := by unfold memB at hm; exact List.contains_iff_mem.1 hm
      exact (lookT_dead (e + 1) st i best hi (hH c st i hin)).symm
    · rw [lookT, if_neg hm]
      conv => rhs; rw [lookT, if_neg (by simp [memB])]
      split
      · rfl
      · exact ih _ _ _ (by omega)

/-- The longest token from a stand on. -/
def longG (s inp : ByteArray) (c st i : Nat) : Nat → Option (Nat × Nat)
  | 0 => none
  | d + 1 => match stepFrom s inp c st i (d + 1) with
    | none => longG s inp c st i d
    | some t => if 0 < markN s c t then some (markN s c t - 1, i + (d + 1)) else longG s inp c st i d

theorem longG_nowhere {s inp : ByteArray} {c st i : Nat} (h : leadN s c st (bt inp i) = 255) : ∀ d, longG s inp c st i d = none := by
  intro d
  induction d with
  | zero => rfl
  | succ e ih =>
    have hs : stepFrom s inp c st i (e + 1) = none := by rw [stepFrom, if_pos h]
    rw [longG, hs]; exact ih

theorem longG_cons {s inp : ByteArray} {c st i : Nat} (h : leadN s c st (bt inp i) ≠ 255) : ∀ d, longG s inp c st i (d + 1) =
    (longG s inp c (leadN s c st (bt inp i)) (i + 1) d).or (if 0 < markN s c (leadN s c st (bt inp i)) then some (markN s c (leadN s c st (bt inp i)) - 1, i + 1) else none) := by
  intro d
  induction d with
  | zero =>
    have hs : stepFrom s inp c st i (0 + 1) = some (leadN s c st (bt inp i)) := by
      conv => lhs; rw [stepFrom, if_neg h]
      rfl
    conv => lhs; rw [longG, hs]
    simp [longG]
  | succ e ih =>
    have hs : stepFrom s inp c st i (e + 1 + 1) = stepFrom s inp c (leadN s c st (bt inp i)) (i + 1) (e + 1) := by
      conv => lhs; rw [stepFrom, if_neg h]
    rw [longG, hs]
    conv => rhs; rw [longG]
    cases stepFrom s inp c (leadN s c st (bt inp i)) (i + 1) (e + 1) with
    | none => exact ih
    | some t =>
      simp only
      by_cases hm : 0 < markN s c t
      · rw [if_pos hm, if_pos hm]; simp; omega
      · rw [if_neg hm, if_neg hm]; exact ih

theorem lookT_long {s inp : ByteArray} {c : Nat} : ∀ d st i best, lookT s inp c [] d st i best = (longG s inp c st i d).or best := by
  intro d
  induction d with
  | zero => intro st i best; simp [lookT, longG]
  | succ e ih =>
    intro st i best
    rw [lookT, if_neg (by simp [memB])]
    by_cases h : leadN s c st (bt inp i) = 255
    · rw [if_pos h, longG_nowhere h]; simp
    · rw [if_neg h, ih, longG_cons h]
      by_cases hm : 0 < markN s c (leadN s c st (bt inp i))
      · rw [if_pos hm, if_pos hm]; cases longG s inp c (leadN s c st (bt inp i)) (i + 1) e <;> simp
      · rw [if_neg hm, if_neg hm]; cases longG s inp c (leadN s c st (bt inp i)) (i + 1) e <;> simp

theorem longD_G (s inp : ByteArray) (c p : Nat) : ∀ d, longD s inp c p d = match longG s inp c 0 p d with
    | none => (-1, p)
    | some x => ((x.1 : Int), x.2) := by
  intro d
  induction d with
  | zero => rfl
  | succ e ih =>
    rw [longD, longG]
    unfold tokAt
    rw [stepTo_from]
    cases h : stepFrom s inp c 0 p (e + 1) with
    | none => simp only; exact ih
    | some t =>
      simp only
      by_cases hm : 0 < markN s c t
      · rw [if_pos hm, if_pos hm]
      · rw [if_neg hm, if_neg hm]; exact ih

/-- LOOKING FINDS THE LONGEST, whatever hopeless is known. -/
theorem look_finds {s inp : ByteArray} {c p : Nat} {H : List (Int × Int × Int)} (hH : allDead s inp H) (hp : p ≤ inp.size) :
    lng s inp c p = match lookT s inp c H (inp.size - p) 0 p none with
      | none => (-1, p)
      | some x => ((x.1 : Int), x.2) := by
  unfold lng
  rw [lookT_hope hH _ _ _ _ (by omega), lookT_long, longD_G]
  cases longG s inp c 0 p (inp.size - p) <;> simp

theorem std_inj {c st i c' st' i' : Nat} (h : std c st i = std c' st' i') : c = c' ∧ st = st' ∧ i = i' := by
  unfold std at h
  injection h with h1 h2
  injection h2 with h2 h3
  omega

/-- What stood since the last token is dead. -/
theorem lookP_dead {s inp : ByteArray} {c : Nat} {H : List (Int × Int × Int)} (hH : allDead s inp H) : ∀ d st i S n, i + d = inp.size →
    (∀ c' st' i', std c' st' i' ∈ S → dead s inp c st i → dead s inp c' st' i') → allDead s inp (lookP s inp c H d st i S n).1 := by
  intro d
  induction d with
  | zero =>
    intro st i S n hi hS c' st' i' hin
    exact hS c' st' i' hin (dead_end (by omega))
  | succ e ih =>
    intro st i S n hi hS
    by_cases hk : memB H (std c st i) = true
    · rw [lookP_known hk]
      intro c' st' i' hin
      exact hS c' st' i' hin (hH c st i (by unfold memB at hk; exact List.contains_iff_mem.1 hk))
    · have hk : memB H (std c st i) = false := by simpa using hk
      by_cases hl : leadN s c st (bt inp i) = 255
      · rw [lookP_nowhere hk hl]
        intro c' st' i' hin
        rcases List.mem_append.1 hin with h | h
        · exact hS c' st' i' h (dead_nowhere hl)
        · rw [List.mem_singleton] at h
          obtain ⟨rfl, rfl, rfl⟩ := std_inj h
          exact dead_nowhere hl
      · by_cases hm : 0 < markN s c (leadN s c st (bt inp i))
        · rw [lookP_token hk hl hm]
          exact ih _ _ _ _ (by omega) (fun c' st' i' h => by cases h)
        · rw [lookP_step hk hl (by omega)]
          refine ih _ _ _ _ (by omega) (fun c' st' i' h hd => ?_)
          have hd2 := dead_step hl (by omega) hd
          rcases List.mem_append.1 h with h | h
          · exact hS c' st' i' h hd2
          · rw [List.mem_singleton] at h
            obtain ⟨rfl, rfl, rfl⟩ := std_inj h
            exact hd2

theorem look_dead {s inp : ByteArray} {c p : Nat} {H : List (Int × Int × Int)} (hH : allDead s inp H) (hp : p ≤ inp.size) : allDead s inp (H ++ (lookFrom s inp c H p).1) := by
  intro c' st' i' hin
  rcases List.mem_append.1 hin with h | h
  · exact hH c' st' i' h
  · exact lookP_dead hH _ 0 p [] 0 (by omega) (fun _ _ _ h => by cases h) c' st' i' h

end Go.Stn

/- (*stencilref.Image).lead, mark: walks. -/
namespace Go.Proofs.Ytgjgjgihceijnaa
open Go.RowKit Go.Stn

/-- An image that is only read. -/
structure ImgRd (w : World) (B b g cap : Nat) (s : ByteArray) : Prop where
  c0 : w.cell? ⟨b, 0, none⟩ = some (.string s)
  c3 : w.cell? ⟨b, 3, none⟩ = some (.int .i64 ((6 + iR s : Nat) : Int))
  c4 : w.cell? ⟨b, 4, none⟩ = some (.int .i64 (iK s))
  c5 : w.cell? ⟨b, 5, none⟩ = some (.slice (some ⟨g, 0, none⟩) (iM s) cap)
  at_ : ∀ i, i < iM s → w.cell? ⟨g, i, none⟩ = some (.int .i64 ((iAt s i + 1 : Nat) : Int))
  hb : b < B
  hg : g < B

theorem ImgRd.below {w w' : World} {B B' b g cap : Nat} {s : ByteArray} (h : ImgRd w B b g cap s) (hB : Below B' w w') (hle : B ≤ B') : ImgRd w' B b g cap s := by
  have hb := h.hb
  have hg := h.hg
  exact ⟨(hB.cell (p := ⟨b, 0, none⟩) (by show b < B'; omega)).trans h.c0, (hB.cell (p := ⟨b, 3, none⟩) (by show b < B'; omega)).trans h.c3, (hB.cell (p := ⟨b, 4, none⟩) (by show b < B'; omega)).trans h.c4,
    (hB.cell (p := ⟨b, 5, none⟩) (by show b < B'; omega)).trans h.c5, fun i hi => (hB.cell (p := ⟨g, i, none⟩) (by show g < B'; omega)).trans (h.at_ i hi), hb, hg⟩

theorem ImgRd.drewN {w : World} {B b g cap : Nat} {s : ByteArray} (h : ImgRd w B b g cap s) (q : Nat) : ImgRd (w.drewN q) B b g cap s :=
  ⟨h.c0, h.c3, h.c4, h.c5, h.at_, h.hb, h.hg⟩

/-- What Parse laid can be read. -/
theorem ImgAt.rd {w : World} {b base : Nat} {s : ByteArray} {va vs : Value} (h : ImgAt w b base s (iM s) (iM s) va vs) (hm : 1 ≤ iM s) : ∃ g cap, ImgRd w w.heap.size b g cap s := by
  obtain ⟨g, cap, rfl, hbg, hgz⟩ := h.ra.form (by omega)
  have hb := h.hb
  refine ⟨g, cap, h.c0, h.c3, h.c4, h.c5, fun i hi => ?_, by omega, hgz⟩
  have := h.ra.cells (g := g) rfl i (.int .i64 ((iAt s i + 1 : Nat) : Int)) (by unfold atRow; rw [List.getElem?_map, List.getElem?_range hi]; rfl)
  have hadd : (⟨g, 0, none⟩ : Addr).add i = ⟨g, i, none⟩ := by unfold Addr.add; split <;> simp_all
  rw [hadd] at this
  exact this

/-- Where a byte leads, as lead answers. -/
def leadZ (s : ByteArray) (c st v : Nat) : Int := if leadN s c st v = 255 then -1 else leadN s c st v

set_option maxRecDepth 100000 in
set_option maxHeartbeats 1000000 in
theorem mark_any (s : ByteArray) (B b g cap c st : Nat) (w : World) (hi : imgOk s = true) (hs : s.size ≤ 120000) (hc : c < iM s) (hst : st < nSt s c) (hw : ImgRd w B b g cap s) :
    Calls Try.prog 100 #[.pointer (some ⟨b, 0, none⟩), .int .i64 c, .int .i64 st] w fun e w' => e = .returned (.int .i64 (markN s c st)) ∧ ∃ q, w' = w.drewN q := by
  obtain ⟨k0, k3, k4, k5, kat, _, _⟩ := hw
  have kc := kat c hc
  clear kat
  have hrow := row_in hi hc hst
  have hrI := rwAt_int s c st
  have hAt : iAt s c ≤ 120000 := by unfold rwAt at hrow; omega
  have hK := iK_le s
  have hn := nSt_le hi hc
  have hmul := mul_small (a := st) (b := 1 + iK s) (by omega) (by omega)
  have hmI : (0 : Int) ≤ (st : Int) * (1 + (iK s : Int)) ∧ (st : Int) * (1 + (iK s : Int)) ≤ 65535 := by
    have e : ((st * (1 + iK s) : Nat) : Int) = (st : Int) * (1 + (iK s : Int)) := by simp
    omega
  have hm4 := (img_head hi).2.2.2.1
  have hcI : (0 : Int) ≤ (c : Int) ∧ (c : Int) < (iM s : Int) := by omega
  obtain ⟨r, hr⟩ : ∃ r, rwAt s c st = r := ⟨_, rfl⟩
  have E : Hid (markN s c st = bt s r) := by unfold Hid markN; rw [hr]
  rw [hr] at hrow hrI
  clear hmul hn hi hst hr
  have hbe := bt_eq s r (by omega)
  have hbl := bt_lt s r
  have hw1 : IntKind.i64.wrap (1 + (iK s : Int)) = 1 + (iK s : Int) := IntWalk.i64_in _ (by omega)
  have hw2 : IntKind.i64.wrap ((st : Int) * (1 + (iK s : Int))) = (st : Int) * (1 + (iK s : Int)) := IntWalk.i64_in _ (by omega)
  have hw3 : IntKind.i64.wrap ((iAt s c : Int) + 1 + (st : Int) * (1 + (iK s : Int))) = (r : Int) := by
    rw [← hrI]; simp only [Int.natCast_add, Int.natCast_one]; exact IntWalk.i64_in _ (by omega)
  clear hrI hmI
  go_enter Try.func100, Try.ntmps100
  go_wp2
  go_quiet (fail)
  go_wp2
  go_ret
  exact ⟨by rw [E.out]; rfl, _, rfl⟩

set_option maxRecDepth 100000 in
set_option maxHeartbeats 1000000 in
theorem lead_any (s : ByteArray) (B b g cap c st v : Nat) (w : World) (hi : imgOk s = true) (hs : s.size ≤ 120000) (hc : c < iM s) (hst : st < nSt s c) (hv : v < 256) (hw : ImgRd w B b g cap s) :
    Calls Try.prog 99 #[.pointer (some ⟨b, 0, none⟩), .int .i64 c, .int .i64 st, .int .u8 v] w fun e w' => e = .returned (.int .i64 (leadZ s c st v)) ∧ ∃ q, w' = w.drewN q := by
  obtain ⟨k0, k3, k4, k5, kat, _, _⟩ := hw
  have kc := kat c hc
  clear kat
  have hlead := lead_in hi hc hst hv
  have hrow := row_in hi hc hst
  have hcls := cls_lt hi v hv
  have hrI := rwAt_int s c st
  have hAt : iAt s c ≤ 120000 := by unfold rwAt at hrow; omega
  have hK := iK_le s
  have hn := nSt_le hi hc
  have hmul := mul_small (a := st) (b := 1 + iK s) (by omega) (by omega)
  have hmI : (0 : Int) ≤ (st : Int) * (1 + (iK s : Int)) ∧ (st : Int) * (1 + (iK s : Int)) ≤ 65535 := by
    have e : ((st * (1 + iK s) : Nat) : Int) = (st : Int) * (1 + (iK s : Int)) := by simp
    omega
  have hm4 := (img_head hi).2.2.2.1
  have hR := (img_head hi).1
  have h256 := (img_head hi).2.2.2.2
  have hcI : (0 : Int) ≤ (c : Int) ∧ (c : Int) < (iM s : Int) := by omega
  obtain ⟨r, hr⟩ : ∃ r, rwAt s c st = r := ⟨_, rfl⟩
  obtain ⟨k, hk⟩ : ∃ k, clsN s v = k := ⟨_, rfl⟩
  obtain ⟨t, ht⟩ : ∃ t, r + 1 + k = t := ⟨_, rfl⟩
  obtain ⟨a, ha⟩ : ∃ a, 6 + iR s + v = a := ⟨_, rfl⟩
  have E : Hid (leadZ s c st v = if bt s t = 255 then -1 else (bt s t : Int)) := by unfold Hid leadZ leadN; rw [hr, hk, ht]
  rw [hr] at hrow hrI hlead
  rw [hk] at hlead hcls
  rw [ht] at hlead
  have hk2 : bt s a = k := by rw [← ha]; exact hk
  have hal : a < s.size := by omega
  have hw0 : IntKind.i64.wrap (6 + (iR s : Int) + (v : Int)) = (a : Int) := by rw [← ha]; simp only [Int.natCast_add]; exact IntWalk.i64_in _ (by omega)
  have hw5 : IntKind.i64.wrap ((r : Int) + 1 + (k : Int)) = (t : Int) := by rw [← ht]; simp only [Int.natCast_add]; exact IntWalk.i64_in _ (by omega)
  have hr2 : r ≤ 120000 ∧ k < 256 := by omega
  clear hmul hn hi hst hr hk ht ha
  have hbc := bt_eq s a hal
  rw [hk2] at hbc
  clear hk2
  have hbe := bt_eq s t hlead
  have hbl := bt_lt s t
  have hwv : IntKind.i64.wrap (v : Int) = (v : Int) := IntWalk.i64_in _ (by omega)
  have hwk : IntKind.i64.wrap (k : Int) = (k : Int) := IntWalk.i64_in _ (by omega)
  have hwb : IntKind.i64.wrap (bt s t : Int) = (bt s t : Int) := IntWalk.i64_in _ (by omega)
  have hw1 : IntKind.i64.wrap (1 + (iK s : Int)) = 1 + (iK s : Int) := IntWalk.i64_in _ (by omega)
  have hw2 : IntKind.i64.wrap ((st : Int) * (1 + (iK s : Int))) = (st : Int) * (1 + (iK s : Int)) := IntWalk.i64_in _ (by omega)
  have hw3 : IntKind.i64.wrap ((iAt s c : Int) + 1 + (st : Int) * (1 + (iK s : Int))) = (r : Int) := by
    rw [← hrI]; simp only [Int.natCast_add, Int.natCast_one]; exact IntWalk.i64_in _ (by omega)
  have hw4 : IntKind.i64.wrap ((r : Int) + 1) = (r : Int) + 1 := IntWalk.i64_in _ (by omega)
  clear hrI hmI
  by_cases h255 : bt s t = 255
  · go_enter Try.func99, Try.ntmps99
    go_wp2
    go_quiet (fail)
    go_wp2
    go_quiet (fail)
    go_wp2
    go_ret
    exact ⟨by rw [E.out, if_pos h255]; rfl, _, rfl⟩
  · have hd : ((bt s t : Int) == 255) = false := beq_eq_false_iff_ne.2 (by omega)
    go_enter Try.func99, Try.ntmps99
    go_wp2
    go_quiet (fail)
    go_wp2
    go_quiet (fail)
    go_wp2
    go_ret
    exact ⟨by rw [E.out, if_neg h255]; rfl, _, rfl⟩
end Go.Proofs.Ytgjgjgihceijnaa

/- (*stencilref.Image).longest: a walk. -/
namespace Go.Proofs.Ytgjgjgihceijnaa
open Go.RowKit Go.Stn

set_option maxRecDepth 100000 in
set_option maxHeartbeats 1000000 in
theorem longest_any (s inp : ByteArray) (B b g cap c p : Nat) (w : World) (hi : imgOk s = true) (hs : s.size ≤ 120000) (hin : inp.size ≤ 300) (hp : p ≤ inp.size) (hc : c < iM s) (hw : ImgRd w B b g cap s) :
    Calls Try.prog 74 #[.pointer (some ⟨b, 0, none⟩), .string inp, .int .i64 p, .int .i64 c] w fun e w' =>
      e = .returned (.tuple #[.int .i64 (lng s inp c p).1, .int .i64 (lng s inp c p).2]) ∧ ∃ q, w' = w.drewN q := by
  have HL : Hid (lng s inp c p = longD s inp c p (inp.size - p)) := rfl
  go_enter Try.func74, Try.ntmps74
  go_wp2_with fail
  go_loopw [10] (fun x w' => ∃ d q : Nat, p + d ≤ inp.size ∧ x = .int .i64 ((p : Int) + (d : Int)) ∧ w' = w.drewN q ∧ lng s inp c p = longD s inp c p d) (fun x _ => (intOf x).toNat)
  case atStart => exact ⟨inp.size - p, 0, by omega, by congr 1; omega, rfl, HL.out⟩
  case round =>
    obtain ⟨d, q, hd, rfl, rfl, hlg⟩ := hrel
    have HG : Hid (lng s inp c p = longD s inp c p d) := hlg
    clear hlg
    by_cases hlt : 0 < d
    · obtain ⟨e, he⟩ : ∃ e, d = e + 1 := ⟨d - 1, by omega⟩
      have HE : Hid (d = e + 1) := he
      have hed : e < d := by omega
      clear he
      have hdec : decide ((p : Int) < (p : Int) + (d : Int)) = true := by simp; omega
      go_wp2_with fail
      go_loopw [11, 12] (fun x y w' => ∃ j q : Nat, j ≤ d ∧ y = .int .i64 ((p : Int) + (j : Int)) ∧ w' = w.drewN q ∧ ((∃ st : Nat, stepTo s inp c p j = some st ∧ x = .int .i64 (st : Int)) ∨ (stepTo s inp c p d = none ∧ x = .int .i64 (-1)))) (fun _ y _ => inp.size - (intOf y).toNat)
      case atStart => exact ⟨0, q, by omega, by simp, rfl, .inl ⟨0, rfl, rfl⟩⟩
      case round =>
        obtain ⟨j, q2, hj, rfl, rfl, hcase⟩ := hrel
        rcases hcase with ⟨st, hst, rfl⟩ | ⟨hno, rfl⟩
        · have HS : Hid (stepTo s inp c p j = some st) := hst
          clear hst
          by_cases hlt2 : j < d
          · have hbe := bt_eq inp (p + j) (by omega)
            have hbl := bt_lt inp (p + j)
            go_wp2_with fail
            refine (lead_any s B b g cap c st (bt inp (p + j)) _ hi hs hc (stepTo_lt hi hc j st HS.out) hbl (hw.drewN _)).mono ?_
            rintro e' w2 ⟨rfl, q3, rfl⟩
            go_wp2_with fail
            go_roundw
            case rel =>
              refine ⟨j + 1, q2 + q3, hlt2, by go_num, by simp, ?_⟩
              have hst1 := stepTo_succ HS.out
              by_cases h255 : leadN s c st (bt inp (p + j)) = 255
              · rw [if_pos h255] at hst1
                exact .inr ⟨stepTo_none hst1 _ hlt2, by unfold leadZ; rw [if_pos h255]⟩
              · rw [if_neg h255] at hst1
                exact .inl ⟨_, hst1, by unfold leadZ; rw [if_neg h255]⟩
            case measure => simp [intOf]; omega
          · have ej : j = d := by omega
            subst ej
            by_cases hm : 0 < markN s c st
            · have hml := mark_le hi hc (stepTo_lt hi hc _ st HS.out)
              have hR := (img_head hi).1
              have hfin := longD_some (d := e) (by rw [← HE.out]; exact tokAt_yes HS.out hm)
              have HF : Hid (longD s inp c p j = (((markN s c st - 1 : Nat) : Int), p + j)) := by rw [← HE.out] at hfin; exact hfin
              clear hfin
              go_wp2_with fail
              refine (mark_any s B b g cap c st _ hi hs hc (stepTo_lt hi hc _ st HS.out) (hw.drewN _)).mono ?_
              rintro e' w2 ⟨rfl, q3, rfl⟩
              go_wp2
              go_ret2
              refine ⟨?_, q2 + q3, by simp⟩
              rw [HG.out, HF.out]
              simp
              omega
            · have hm0 : markN s c st = 0 := by omega
              have hfin := longD_none (d := e) (by rw [← HE.out]; exact tokAt_no HS.out hm0)
              have HF : Hid (longD s inp c p j = longD s inp c p e) := by rw [← HE.out] at hfin; exact hfin
              clear hfin
              go_wp2_with fail
              refine (mark_any s B b g cap c st _ hi hs hc (stepTo_lt hi hc _ st HS.out) (hw.drewN _)).mono ?_
              rintro e' w2 ⟨rfl, q3, rfl⟩
              rw [hm0]
              go_wp2
              go_roundw
              case rel => exact ⟨e, q2 + q3, by omega, by have := HE.out; go_num, by simp, by rw [HG.out, HF.out]⟩
              case measure => simp [intOf]; omega
        · have hfin := longD_none (d := e) (by rw [← HE.out]; exact tokAt_none hno)
          have HF : Hid (longD s inp c p d = longD s inp c p e) := by rw [← HE.out] at hfin; exact hfin
          clear hfin hno
          go_wp2_with fail
          all_goals
            go_roundw
            case rel => exact ⟨e, q2, by omega, by have := HE.out; go_num, rfl, by rw [HG.out, HF.out]⟩
            case measure => simp [intOf]; omega
    · have e0 : d = 0 := by omega
      subst e0
      go_wp2
      go_ret2
      refine ⟨?_, q, rfl⟩
      rw [HG.out]
      rfl
end Go.Proofs.Ytgjgjgihceijnaa

/- stencilref.has: a walk. -/
namespace Go.Stn
/-- Three numbers, as a stand (a condition, a state, a place) or a token lies in memory. -/
def cells3 (l : List (Int × Int × Int)) : List Value := l.flatMap fun x => [.int .i64 x.1, .int .i64 x.2.1, .int .i64 x.2.2]

theorem cells3_length (l : List (Int × Int × Int)) : (cells3 l).length = l.length * 3 := by
  induction l with
  | nil => rfl
  | cons a r ih => simp only [cells3, List.flatMap_cons, List.length_append, List.length_cons, List.length_nil] at *; omega

theorem cells3_get (l : List (Int × Int × Int)) (k : Nat) (x : Int × Int × Int) (h : l[k]? = some x) :
    (cells3 l)[k * 3]? = some (.int .i64 x.1) ∧ (cells3 l)[k * 3 + 1]? = some (.int .i64 x.2.1) ∧ (cells3 l)[k * 3 + 2]? = some (.int .i64 x.2.2) := by
  induction l generalizing k with
  | nil => simp at h
  | cons a r ih =>
    cases k with
    | zero => simp at h; subst h; simp [cells3]
    | succ n =>
      have := ih n (by simpa using h)
      have e : cells3 (a :: r) = [.int .i64 a.1, .int .i64 a.2.1, .int .i64 a.2.2] ++ cells3 r := rfl
      rw [e]
      have e1 : (n + 1) * 3 = n * 3 + 3 := by omega
      rw [e1, List.getElem?_append_right (by simp), List.getElem?_append_right (by simp only [List.length_cons, List.length_nil]; omega), List.getElem?_append_right (by simp only [List.length_cons, List.length_nil]; omega)]
      simp only [List.length_cons, List.length_nil]
      have a1 : n * 3 + 3 - (0 + 1 + 1 + 1) = n * 3 := by omega
      have a2 : n * 3 + 3 + 1 - (0 + 1 + 1 + 1) = n * 3 + 1 := by omega
      have a3 : n * 3 + 3 + 2 - (0 + 1 + 1 + 1) = n * 3 + 2 := by omega
      rw [a1, a2, a3]
      exact this

theorem cells3_snoc (l : List (Int × Int × Int)) (x : Int × Int × Int) : cells3 (l ++ [x]) = cells3 l ++ [.int .i64 x.1, .int .i64 x.2.1, .int .i64 x.2.2] := by
  simp [cells3]
theorem cells3_append (l m : List (Int × Int × Int)) : cells3 (l ++ m) = cells3 l ++ cells3 m := by
  simp [cells3]
end Go.Stn
namespace Go.Proofs.Ytgjgjgihceijnaa
open Go.RowKit Go.Stn

theorem below_of_drew {B : Nat} {w w' : World} (h : Below B w.drew w') : Below B w w' := ⟨h.os, h.tape, h.output, h.size, h.block⟩

/-- A row of three-celled elements that can be read: nil, or cells in a block below B. -/
structure Row3 (w : World) (B : Nat) (v : Value) (l : List (Int × Int × Int)) : Prop where
  sh : (v = .slice none 0 0 ∧ l = []) ∨ ∃ g cap, v = .slice (some ⟨g, 0, none⟩) l.length cap ∧ g < B ∧ l.length ≤ cap ∧ cap ≤ maxLen ∧
    ∀ k x, l[k]? = some x → w.cell? ⟨g, k * 3, none⟩ = some (.int .i64 x.1) ∧ w.cell? ⟨g, k * 3 + 1, none⟩ = some (.int .i64 x.2.1) ∧ w.cell? ⟨g, k * 3 + 2, none⟩ = some (.int .i64 x.2.2)

theorem ownsRow_row3 {w : World} {base e : Nat} {v : Value} {n : Nat} {l : List (Int × Int × Int)} (h : w.ownsRow base e 3 v n (cells3 l)) : Row3 w w.heap.size v l := by
  have hn : n = l.length := by have := h.1; rw [cells3_length] at this; omega
  subst hn
  refine ⟨?_⟩
  rcases h.2 with ⟨rfl, h0⟩ | ⟨g, cap, cur, rfl, hb, hg, hnc, hcm, hcs, htake⟩
  · exact .inl ⟨rfl, List.eq_nil_of_length_eq_zero h0⟩
  · refine .inr ⟨g, cap, rfl, (Array.getElem?_eq_some_iff.1 hg).1, hnc, hcm, fun k x hx => ?_⟩
    have hc := h.cells (g := g) rfl
    have hadd : ∀ j, (⟨g, 0, none⟩ : Addr).add j = ⟨g, j, none⟩ := fun j => by unfold Addr.add; split <;> simp_all
    obtain ⟨a1, a2, a3⟩ := cells3_get l k x hx
    have b1 := hc _ _ a1
    have b2 := hc _ _ a2
    have b3 := hc _ _ a3
    rw [hadd] at b1 b2 b3
    exact ⟨b1, b2, b3⟩

theorem Row3.below {w w' : World} {B B' : Nat} {v : Value} {l : List (Int × Int × Int)} (h : Row3 w B v l) (hB : Below B' w w') (hle : B ≤ B') : Row3 w' B v l := by
  refine ⟨?_⟩
  rcases h.sh with hn | ⟨g, cap, hv, hg, h1, h2, hc⟩
  · exact .inl hn
  · refine .inr ⟨g, cap, hv, hg, h1, h2, fun k x hx => ?_⟩
    obtain ⟨a1, a2, a3⟩ := hc k x hx
    exact ⟨(hB.cell (p := ⟨g, k * 3, none⟩) (by show g < B'; omega)).trans a1, (hB.cell (p := ⟨g, k * 3 + 1, none⟩) (by show g < B'; omega)).trans a2, (hB.cell (p := ⟨g, k * 3 + 2, none⟩) (by show g < B'; omega)).trans a3⟩

set_option maxRecDepth 100000 in
set_option maxHeartbeats 1000000 in
theorem has_any (l : List (Int × Int × Int)) (v : Value) (x y z : Int) (w : World) (hl : l.length ≤ 1000000) (hr : Row3 w w.heap.size v l) :
    Calls Try.prog 98 #[v, .agg #[.int .i64 x, .int .i64 y, .int .i64 z]] w fun e w' => e = .returned (.bool (memB l (x, y, z))) ∧ Below w.heap.size w w' := by
  rcases hr.sh with ⟨rfl, rfl⟩ | ⟨g, cap, rfl, hg, h1, h2, hcells⟩
  · go_enter Try.func98, Try.ntmps98
    go_wp2_with fail
    go_loop [5] (fun i => i = .int .i64 0) (fun _ => 0)
    case atStart => rfl
    case round =>
      subst hrel
      go_wp2
      go_ret
      exact ⟨rfl, (Below.refl _ _).alloc (Nat.le_refl _) _⟩
  · have hx0 : (w.alloc (.cells #[.int .i64 x, .int .i64 y, .int .i64 z] 207)).cell? ⟨w.heap.size, 0, none⟩ = some (.int .i64 x) := by rw [World.cell?_alloc_new]; rfl
    have hx1 : (w.alloc (.cells #[.int .i64 x, .int .i64 y, .int .i64 z] 207)).cell? ⟨w.heap.size, 1, none⟩ = some (.int .i64 y) := by rw [World.cell?_alloc_new]; rfl
    have hx2 : (w.alloc (.cells #[.int .i64 x, .int .i64 y, .int .i64 z] 207)).cell? ⟨w.heap.size, 2, none⟩ = some (.int .i64 z) := by rw [World.cell?_alloc_new]; rfl
    have HC : Hid (∀ k u, l[k]? = some u → (w.alloc (.cells #[.int .i64 x, .int .i64 y, .int .i64 z] 207)).cell? ⟨g, k * 3, none⟩ = some (.int .i64 u.1) ∧
        (w.alloc (.cells #[.int .i64 x, .int .i64 y, .int .i64 z] 207)).cell? ⟨g, k * 3 + 1, none⟩ = some (.int .i64 u.2.1) ∧ (w.alloc (.cells #[.int .i64 x, .int .i64 y, .int .i64 z] 207)).cell? ⟨g, k * 3 + 2, none⟩ = some (.int .i64 u.2.2)) := by
      intro k u hu
      rw [World.cell?_alloc_past (hn := hg), World.cell?_alloc_past (hn := hg), World.cell?_alloc_past (hn := hg)]
      exact hcells k u hu
    have hbel : Below w.heap.size w (w.alloc (.cells #[.int .i64 x, .int .i64 y, .int .i64 z] 207)) := (Below.refl _ _).alloc (Nat.le_refl _) _
    clear hcells hr
    go_enter Try.func98, Try.ntmps98
    go_wp2_with fail
    generalize w.alloc (.cells #[.int .i64 x, .int .i64 y, .int .i64 z] 207) = W at *
    go_loopw [5] (fun i w' => ∃ k q : Nat, k ≤ l.length ∧ i = .int .i64 (k : Int) ∧ w' = W.drewN q ∧ ∀ j, j < k → l[j]? ≠ some (x, y, z)) (fun i _ => l.length - (intOf i).toNat)
    case atStart => exact ⟨0, 0, Nat.zero_le _, rfl, rfl, fun j h => absurd h (Nat.not_lt_zero _)⟩
    case round =>
      obtain ⟨k, q, hk, rfl, rfl, hall⟩ := hrel
      have HA : Hid (∀ j, j < k → l[j]? ≠ some (x, y, z)) := hall
      clear hall
      by_cases hlt : k < l.length
      · obtain ⟨⟨a, b, c⟩, hu⟩ : ∃ u, l[k]? = some u := ⟨_, List.getElem?_eq_getElem hlt⟩
        obtain ⟨k0, k1, k2⟩ := HC.out k _ hu
        have HU : Hid (l[k]? = some (a, b, c)) := hu
        clear hu
        simp only at k0 k1 k2
        have hkI : (0 : Int) ≤ (k : Int) ∧ (k : Int) < (l.length : Int) := by omega
        have key : ((a == x) = true ∧ (b == y) = true ∧ (c == z) = true) ∨ (((a == x) = false) ∨ ((a == x) = true ∧ (b == y) = false) ∨ ((a == x) = true ∧ (b == y) = true ∧ (c == z) = false)) := by
          cases (a == x) <;> cases (b == y) <;> cases (c == z) <;> simp
        rcases key with ⟨e1, e2, e3⟩ | key
        · have hin : l.contains (x, y, z) = true := by
            have h1 : (a, b, c) = (x, y, z) := by rw [beq_iff_eq.1 e1, beq_iff_eq.1 e2, beq_iff_eq.1 e3]
            rw [List.contains_iff_mem, ← h1]
            exact List.mem_of_getElem? HU.out
          have HI : Hid (memB l (x, y, z) = true) := hin
          clear hin
          go_wp2
          go_quiet (fail)
          go_wp2
          go_ret
          exact ⟨by rw [HI.out]; rfl, below_drewN (below_drewN hbel _) _⟩
        · have hne : (a, b, c) ≠ (x, y, z) := by
            intro h
            injection h with h1 h2
            injection h2 with h2 h3
            subst h1 h2 h3
            simp at key
          have HN : Hid ((a, b, c) ≠ (x, y, z)) := hne
          clear hne
          rcases key with e1 | ⟨e1, e2⟩ | ⟨e1, e2, e3⟩
          all_goals
            go_wp2
            go_quiet (fail)
            go_wp2
            go_roundw
            case rel =>
              refine ⟨k + 1, _, hlt, by go_num, rfl, fun j hj => ?_⟩
              by_cases ej : j = k
              · rw [ej, HU.out]; intro h; exact HN.out (Option.some.inj h)
              · exact HA.out j (by omega)
            case measure => simp [intOf]; omega
      · have hno : l.contains (x, y, z) = false := by
          rw [Bool.eq_false_iff]
          intro h
          rw [List.contains_iff_mem] at h
          obtain ⟨j, hj⟩ := List.mem_iff_getElem?.1 h
          have : j < l.length := (List.getElem?_eq_some_iff.1 hj).1
          exact HA.out j (by omega) hj
        have HI : Hid (memB l (x, y, z) = false) := hno
        clear hno
        go_wp2
        go_ret
        exact ⟨by rw [HI.out]; rfl, below_drewN hbel _⟩
end Go.Proofs.Ytgjgjgihceijnaa

