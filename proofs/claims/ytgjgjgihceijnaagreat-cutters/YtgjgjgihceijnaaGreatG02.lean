/- Texts put together: LyCond, ScPure2, ScPure3, ScPure4, LyPure2, LyImg. -/
import Derived.Test.YtgjgjgihceijnaaGreatG01
namespace Go.Stn
/-- States as they lie in memory: the token, the row's head. -/
def stC (cl : Nat) (zs : List ((Nat × List Int) × Nat)) : List Value := zs.flatMap fun z => [Value.int .i64 (z.1.1 : Int), Value.slice (some ⟨z.2, 0, none⟩) cl cl]
theorem stC_snoc (cl : Nat) (zs : List ((Nat × List Int) × Nat)) (z : (Nat × List Int) × Nat) : stC cl (zs ++ [z]) = stC cl zs ++ [Value.int .i64 (z.1.1 : Int), Value.slice (some ⟨z.2, 0, none⟩) cl cl] := by simp [stC]
/-- The rows of the states. -/
def StRows (w : World) (lo : Nat) (zs : List ((Nat × List Int) × Nat)) : Prop := ∀ z ∈ zs, lo ≤ z.2 ∧ z.2 < w.heap.size ∧ w.rangeAt z.2 0 (intC z.1.2)
theorem StRows.grown {w w' : World} {lo g : Nat} {zs : List ((Nat × List Int) × Nat)} (h : StRows w lo zs) (hg : w.grownBy w' (some g)) (hl : g < lo) : StRows w' lo zs := fun z hz => by
  obtain ⟨h1, h2, h3⟩ := h z hz
  exact ⟨h1, Nat.lt_of_lt_of_le h2 hg.size, rangeAt_block h3 (hg.block z.2 h2 (by intro e; injection e; omega))⟩
theorem StRows.nil (w : World) (lo : Nat) : StRows w lo [] := fun _ hz => absurd hz (List.not_mem_nil)
theorem StRows.snoc {w : World} {lo : Nat} {zs : List ((Nat × List Int) × Nat)} {z : (Nat × List Int) × Nat} (h : StRows w lo zs) (h1 : lo ≤ z.2 ∧ z.2 < w.heap.size ∧ w.rangeAt z.2 0 (intC z.1.2)) : StRows w lo (zs ++ [z]) := fun y hy => by
  rcases List.mem_append.1 hy with h2 | h2
  · exact h y h2
  · rw [List.mem_singleton] at h2; rw [h2]; exact h1
theorem row_range {w : World} {base e g k cap : Nat} {xs : List Value} (h : w.ownsRow base e 1 (.slice (some ⟨g, 0, none⟩) k cap) k xs) : w.rangeAt g 0 xs := fun j v hv => by
  have := h.cells rfl j v hv
  by_cases hj : j = 0
  · subst hj; simpa [Addr.add] using this
  · simpa [Addr.add, hj] using this
end Go.Stn
namespace Go.Proofs.YtgjgjgihceijnaaGreat
open Go.RowKit Go.Stn

theorem Tryz.infoState : (Tryz.prog.info? 121).map (fun i => (i.zero, i.size, i.bytes)) = some (some (.agg #[.int .i64 0, .slice none 0 0]), 2, 32) := by kernel_rfl

set_option maxRecDepth 100000 in
set_option maxHeartbeats 1000000 in
theorem lcond_any (s : ByteArray) (r : LSt) (ru cl : Nat) (rb : Nat) (w : World) (hs : s.size ≤ 120000) (hcl : cl ≤ 256) (h : LRd w rb s r) (hr : r.1 ≤ s.size) :
    Calls Tryz.prog 82 #[.pointer (some ⟨rb, 0, none⟩), .int .i64 ru, .int .i64 cl] w fun e w' =>
      ∃ (B : Nat) (zs : List ((Nat × List Int) × Nat)), w.heap.size ≤ B ∧ e = .returned (.slice (some ⟨B, 0, none⟩) zs.length zs.length) ∧ zs.map (·.1) = (condP s ru cl r).1 ∧
      w'.ownsRow B 121 2 (.slice (some ⟨B, 0, none⟩) zs.length zs.length) zs.length (stC cl zs) ∧ StRows w' (B + 1) zs ∧ w.grownBy w' (some rb) ∧ LRd w' rb s (condP s ru cl r).2 := by
  obtain ⟨i0, hi0, hz0, hz1, hz2⟩ := info_parts Tryz.infoInt
  have HI : Hid (Tryz.prog.info? 3 = some i0 ∧ i0.zero = some (.int .i64 0) ∧ i0.size = 1 ∧ i0.bytes = 8) := ⟨hi0, hz0, hz1, hz2⟩
  clear hi0 hz0 hz1 hz2
  obtain ⟨i1, hi0, hz0, hz1, hz2⟩ := info_parts Tryz.infoState
  have HI1 : Hid (Tryz.prog.info? 121 = some i1 ∧ i1.zero = some (.agg #[.int .i64 0, .slice none 0 0]) ∧ i1.size = 2 ∧ i1.bytes = 32) := ⟨hi0, hz0, hz1, hz2⟩
  clear hi0 hz0 hz1 hz2
  have hn := lnumber_any s r 1 100 rb w hs h hr
  have HP : Hid (condP s ru cl r = stsP s ru cl (numP s 1 100 r).1 (numP s 1 100 r).1 [] (numP s 1 100 r).2) := rfl
  have hnl := numP_le (s := s) (lo := 1) (hi := 100) (r := r) (by omega)
  have hna := numP_at (lo := 1) (hi := 100) hr
  have hrb := h.hb
  generalize numP s 1 100 r = N at *
  obtain ⟨n, r1⟩ := N
  simp only at *
  clear h
  go_enter Tryz.func82, Tryz.ntmps82
  go_wp2_with fail
  refine hn.mono ?_
  rintro e w1 ⟨rfl, hg1, hl1⟩
  have HG1 := hidZ hg1
  have HL1 := hidZ hl1
  have hsz1 := hg1.size
  clear hg1 hl1 hn
  go_wp2_with (first | (at_make; refine wpList_make_own w1 rfl _ _ 110 rfl w1.heap.size 121 i1 _ 2 Tryz.underlying110 HI1.out.1 HI1.out.2.1 HI1.out.2.2.1 .i64 .i64 _ n rfl rfl rfl (by rw [HI1.out.2.2.2]; omega) (by unfold maxLen; omega) (Nat.le_refl _) ?_; intro w2 hown hg))
  have HR2 := hidZ (HL1.out.grown hg (by simp))
  have HG2 := hidZ (grown_trans HG1.out (grown_any hg (some rb)))
  have HO2 := hidZ hown
  have hrb1 : rb < w1.heap.size := by omega
  clear hown hg HL1 HG1
  generalize w1.heap.size = B at *
  go_loopg [8] n (fun gk x wr => ∃ (zs : List ((Nat × List Int) × Nat)) (k : Nat) (r' : LSt), x = .slice (some ⟨B, 0, none⟩) k n ∧ zs.length = k ∧ k + gk = n ∧ r'.1 ≤ s.size ∧ condP s ru cl r = stsP s ru cl n gk (zs.map (·.1)) r' ∧
    wr.ownsRow B 121 2 (.slice (some ⟨B, 0, none⟩) k n) k (stC cl zs) ∧ StRows wr (B + 1) zs ∧ w.grownBy wr (some rb) ∧ LRd wr rb s r')
  case atStart => exact ⟨[], 0, r1, rfl, rfl, by omega, hna, HP.out, HO2.out, StRows.nil _ _, HG2.out, HR2.out⟩
  case round =>
    obtain ⟨zs, k, r', rfl, hxl, hkn, hr', heq, hown, hrow, hg, hl⟩ := hrel
    have HQ := hidZ heq
    have HO := hidZ hown
    have HW := hidZ hrow
    have HG := hidZ hg
    have HL := hidZ hl
    have HX := hidZ hxl
    have hsz : B < wr.heap.size := by have := (hown.lt B rfl).2; omega
    clear heq hown hg hl hxl hrow HR2 HG2 HO2
    by_cases hlt : k < n
    · obtain ⟨g', rfl⟩ : ∃ g', gk = g' + 1 := ⟨gk - 1, by omega⟩
      have HQ2 : Hid (condP s ru cl r = stsP s ru cl n g' (zs.map (·.1) ++ [((numP s 0 ru r').1, (leadsP s n cl [] (numP s 0 ru r').2).1)]) (leadsP s n cl [] (numP s 0 ru r').2).2) := HQ.out
      have hc := lnumber_any s r' 0 ru rb wr hs HL.out hr'
      have ha := numP_at (lo := 0) (hi := ru) hr'
      generalize numP s 0 ru r' = N at *
      obtain ⟨tk, r2⟩ := N
      simp only at *
      have hd : decide ((k : Int) < (n : Int)) = true := by simp; omega
      go_wp2_with fail
      refine hc.mono ?_
      rintro e w3 ⟨rfl, hg3, hl3⟩
      have HO3 : Hid (w3.ownsRow B 121 2 (.slice (some ⟨B, 0, none⟩) k n) k (stC cl zs)) := hidZ (HO.out.kept hg3 (.inr (by simp [Value.ownBlock]; omega)))
      have HW3 := hidZ (HW.out.grown hg3 (by omega))
      have HG3 := hidZ (grown_trans HG.out hg3)
      have HL3 := hidZ hl3
      have hsz3 : B < w3.heap.size := by have := hg3.size; omega
      clear hg3 hl3 HO HG HL hc HW
      go_wp2_with (first | (at_make; refine wpList_make_own w3 rfl _ _ 59 rfl w3.heap.size 3 i0 (.int .i64 0) 1 Tryz.underlying59 HI.out.1 HI.out.2.1 HI.out.2.2.1 .i64 .i64 _ cl rfl rfl rfl (by rw [HI.out.2.2.2]; omega) (by unfold maxLen; omega) (Nat.le_refl _) ?_; intro w4 hown4 hg4))
      have HR4 := hidZ (HL3.out.grown hg4 (by simp))
      have HG4 := hidZ (grown_any hg4 (some rb))
      have HO4 := hidZ hown4
      clear hown4 hg4 HL3
      generalize hC : w3.heap.size = C at *
      go_loopg [10] cl (fun gj x wj => ∃ (xs : List Int) (m : Nat) (rj : LSt), x = .slice (some ⟨C, 0, none⟩) m cl ∧ xs.length = m ∧ m + gj = cl ∧ rj.1 ≤ s.size ∧ leadsP s n cl [] r2 = leadsP s n gj xs rj ∧
        wj.ownsRow C 3 1 (.slice (some ⟨C, 0, none⟩) m cl) m (intC xs) ∧ w3.grownBy wj (some rb) ∧ LRd wj rb s rj)
      case atStart => exact ⟨[], 0, r2, rfl, rfl, by omega, ha, rfl, HO4.out, HG4.out, HR4.out⟩
      case round =>
        obtain ⟨xs, m, rj, rfl, hxl, hmn, hrj, heq, hown, hg, hl⟩ := hrel
        have HQJ := hidZ heq
        have HOJ := hidZ hown
        have HGJ := hidZ hg
        have HLJ := hidZ hl
        have HXJ := hidZ hxl
        have hszj : C < wr.heap.size := by have := (hown.lt C rfl).2; omega
        clear heq hown hg hl hxl HR4 HG4 HO4
        by_cases hltj : m < cl
        · obtain ⟨j', rfl⟩ : ∃ j', gk = j' + 1 := ⟨gk - 1, by omega⟩
          have HQ3 : Hid (leadsP s n cl [] r2 = leadsP s n j' (xs ++ [(leadP s n rj).1]) (leadP s n rj).2) := HQJ.out
          have hc := llead_any s rj n rb wr hs HLJ.out hrj
          have ha := leadP_at (n := n) hrj
          generalize leadP s n rj = N at *
          obtain ⟨x, r3⟩ := N
          simp only at *
          have hdj : decide ((m : Int) < (cl : Int)) = true := by simp; omega
          go_wp2_with fail
          refine hc.mono ?_
          rintro e w5 ⟨rfl, hg5, hl5⟩
          have HO5 : Hid (w5.ownsRow C 3 1 (.slice (some ⟨C, 0, none⟩) m cl) m (intC xs)) := hidZ (HOJ.out.kept hg5 (.inr (by simp [Value.ownBlock]; omega)))
          have HG5 := hidZ (grown_trans HGJ.out hg5)
          have HL5 := hidZ hl5
          have hsz5 : C < w5.heap.size := by have := hg5.size; omega
          clear hg5 hl5 HOJ HGJ HLJ hc
          go_wp2_with (first | (at_builtin; refine wpList_fits1 w5 rfl _ _ 59 rfl C 3 (.int .i64 0) 1 8 Tryz.underlying59 Tryz.infoInt C m cl (intC xs) [.int .i64 x] _ rfl HO5.out _ rfl rfl rfl (by simp [Value.oneCell']) (by omega) ?_; intro w6 hown6 hgrow6))
          go_roundg j'
          case measure => omega
          case rel =>
            have hg6 := grown_alloc2 HG5.out (.cells #[.int .i64 x] 3)
            refine ⟨xs ++ [x], m + 1, r3, rfl, by simp [HXJ.out], by omega, ha, HQ3.out, by rw [intC_snoc]; exact hown6, grown_new hg6 hgrow6 (by omega), ?_⟩
            exact (HL5.out.below ((Below.refl _ _).alloc (Nat.le_of_lt hsz5) _) (by omega)).grown hgrow6 (by simp; omega)
        · have e : m = cl := by omega
          subst e
          have e2 : gk = 0 := by omega
          subst e2
          have HE : Hid (leadsP s n m [] r2 = (xs, rj)) := HQJ.out
          have hdj : decide ((m : Int) < (m : Int)) = false := by simp
          have HO6 : Hid (wr.ownsRow B 121 2 (.slice (some ⟨B, 0, none⟩) k n) k (stC m zs)) := hidZ (HO3.out.kept HGJ.out (.inr (by simp [Value.ownBlock]; omega)))
          have HW6 := hidZ (HW3.out.grown HGJ.out (by omega))
          have HG6 := hidZ (grown_trans HG3.out HGJ.out)
          have HRW := hidZ (row_range HOJ.out)
          have hsz6 : B < wr.heap.size := by omega
          clear HO3 HW3 HG3 HOJ HGJ
          go_wp2_with (first | (at_builtin; refine wpList_fits1 wr rfl _ _ 110 rfl B 121 (.agg #[.int .i64 0, .slice none 0 0]) 2 32 Tryz.underlying110 Tryz.infoState B k n (stC m zs) [.int .i64 (tk : Int), .slice (some ⟨C, 0, none⟩) m m] _ rfl HO6.out _ rfl rfl rfl (by simp [Value.oneCell']) (by omega) ?_; intro w6 hown6 hgrow6))
          go_roundg g'
          case measure => omega
          case rel =>
            have hg6 := grown_alloc2 HG6.out (.cells #[.int .i64 (tk : Int), .slice (some ⟨C, 0, none⟩) m m] 121)
            have hq := HQ2.out
            rw [HE.out] at hq
            have hsz7 := hgrow6.size
            simp at hsz7
            refine ⟨zs ++ [((tk, xs), C)], k + 1, rj, rfl, by simp [HX.out], by omega, hrj, by rw [List.map_append]; exact hq, by rw [stC_snoc]; exact hown6, ?_, grown_new hg6 hgrow6 (by omega), ?_⟩
            · refine ((HW6.out.grown (grown_alloc2 (World.grownBy.refl _ (some B)) _) (by omega)).snoc ⟨by omega, by simp; omega, ?_⟩).grown hgrow6 (by omega)
              exact rangeAt_block HRW.out (Below.heap_alloc wr _ C hszj)
            · exact (HLJ.out.below ((Below.refl _ _).alloc (Nat.le_of_lt hsz6) _) (by omega)).grown hgrow6 (by simp; omega)
    · have e : k = n := by omega
      subst e
      have e2 : gk = 0 := by omega
      subst e2
      have HE : Hid (condP s ru cl r = (zs.map (·.1), r')) := HQ.out
      have hd : decide ((k : Int) < (k : Int)) = false := by simp
      go_wp2
      go_ret
      rw [HE.out]
      have hx := HX.out
      subst hx
      exact ⟨B, zs, hsz1, rfl, rfl, HO.out, HW.out, HG.out, HL.out⟩
end Go.Proofs.YtgjgjgihceijnaaGreat

namespace Go.Stn
/-- The state behind d bytes from p on; none: nowhere. -/
def stepTo (s inp : ByteArray) (c p : Nat) : Nat → Option Nat
  | 0 => some 0
  | d + 1 => match stepTo s inp c p d with
    | none => none
    | some st => if leadN s c st (bt inp (p + d)) = 255 then none else some (leadN s c st (bt inp (p + d)))

/-- The rule of the d bytes from p on; none: they are no token. -/
def tokAt (s inp : ByteArray) (c p d : Nat) : Option Nat :=
  match stepTo s inp c p d with
  | none => none
  | some st => if 0 < markN s c st then some (markN s c st - 1) else none

/-- The longest token of at most d bytes: its rule and its end; -1 and p: there is none. -/
def longD (s inp : ByteArray) (c p : Nat) : Nat → Int × Nat
  | 0 => (-1, p)
  | d + 1 => match tokAt s inp c p (d + 1) with
    | some r => ((r : Int), p + (d + 1))
    | none => longD s inp c p d

theorem stepTo_succ {s inp : ByteArray} {c p d st : Nat} (h : stepTo s inp c p d = some st) :
    stepTo s inp c p (d + 1) = if leadN s c st (bt inp (p + d)) = 255 then none else some (leadN s c st (bt inp (p + d))) := by
  rw [stepTo, h]

theorem stepTo_none {s inp : ByteArray} {c p j : Nat} (h : stepTo s inp c p j = none) : ∀ d, j ≤ d → stepTo s inp c p d = none := by
  intro d hd
  induction d with
  | zero => have : j = 0 := by omega
            subst this; exact h
  | succ n ih =>
    by_cases e : j = n + 1
    · rw [← e]; exact h
    · rw [stepTo, ih (by omega)]

theorem stepTo_lt {s inp : ByteArray} (hi : imgOk s = true) {c p : Nat} (hc : c < iM s) : ∀ d st, stepTo s inp c p d = some st → st < nSt s c := by
  intro d
  induction d with
  | zero => intro st h; rw [stepTo] at h; have := (nSt_le hi hc).2; simp at h; omega
  | succ n ih =>
    intro st h
    cases h2 : stepTo s inp c p n with
    | none => rw [stepTo, h2] at h; cases h
    | some t =>
      rw [stepTo_succ h2] at h
      split at h
      · cases h
      · rcases lead_lt hi hc (ih t h2) (bt_lt inp (p + n)) with h3 | h3
        · simp at h; omega
        · contradiction

theorem longD_none {s inp : ByteArray} {c p d : Nat} (h : tokAt s inp c p (d + 1) = none) : longD s inp c p (d + 1) = longD s inp c p d := by
  rw [longD, h]
theorem longD_some {s inp : ByteArray} {c p d r : Nat} (h : tokAt s inp c p (d + 1) = some r) : longD s inp c p (d + 1) = ((r : Int), p + (d + 1)) := by
  rw [longD, h]
theorem tokAt_none {s inp : ByteArray} {c p d : Nat} (h : stepTo s inp c p d = none) : tokAt s inp c p d = none := by
  unfold tokAt; rw [h]
theorem tokAt_no {s inp : ByteArray} {c p d st : Nat} (h : stepTo s inp c p d = some st) (hm : markN s c st = 0) : tokAt s inp c p d = none := by
  unfold tokAt; rw [h]; simp [hm]
theorem tokAt_yes {s inp : ByteArray} {c p d st : Nat} (h : stepTo s inp c p d = some st) (hm : 0 < markN s c st) : tokAt s inp c p d = some (markN s c st - 1) := by
  unfold tokAt; rw [h]; simp [hm]

/-- Is it among them? -/
def memB (l : List (Int × Int × Int)) (x : Int × Int × Int) : Bool := l.contains x

/-- What longest answers. -/
def lng (s inp : ByteArray) (c p : Nat) : Int × Nat := longD s inp c p (inp.size - p)

end Go.Stn

namespace Go.Stn
/-- A stand: a condition, a state, a place. -/
def std (c st i : Nat) : Int × Int × Int := ((c : Int), (st : Int), (i : Int))

/-- Looking on from a stand, d bytes ahead of the input's end: what stood since the last token, the steps. -/
def lookP (s inp : ByteArray) (c : Nat) (H : List (Int × Int × Int)) : Nat → Nat → Nat → List (Int × Int × Int) → Nat → List (Int × Int × Int) × Nat
  | 0, _, _, S, n => (S, n)
  | d + 1, st, i, S, n =>
    if memB H (std c st i) = true then (S, n)
    else if leadN s c st (bt inp i) = 255 then (S ++ [std c st i], n + 1)
    else lookP s inp c H d (leadN s c st (bt inp i)) (i + 1) (if 0 < markN s c (leadN s c st (bt inp i)) then [] else S ++ [std c st i]) (n + 1)

theorem lookP_known {s inp : ByteArray} {c d st i n : Nat} {H S : List (Int × Int × Int)} (h : memB H (std c st i) = true) : lookP s inp c H (d + 1) st i S n = (S, n) := by
  rw [lookP, if_pos h]
theorem lookP_nowhere {s inp : ByteArray} {c d st i n : Nat} {H S : List (Int × Int × Int)} (h : memB H (std c st i) = false) (hl : leadN s c st (bt inp i) = 255) :
    lookP s inp c H (d + 1) st i S n = (S ++ [std c st i], n + 1) := by
  rw [lookP, if_neg (by rw [h]; decide), if_pos hl]
theorem lookP_token {s inp : ByteArray} {c d st i n : Nat} {H S : List (Int × Int × Int)} (h : memB H (std c st i) = false) (hl : leadN s c st (bt inp i) ≠ 255) (hm : 0 < markN s c (leadN s c st (bt inp i))) :
    lookP s inp c H (d + 1) st i S n = lookP s inp c H d (leadN s c st (bt inp i)) (i + 1) [] (n + 1) := by
  rw [lookP, if_neg (by rw [h]; decide), if_neg hl, if_pos hm]
theorem lookP_step {s inp : ByteArray} {c d st i n : Nat} {H S : List (Int × Int × Int)} (h : memB H (std c st i) = false) (hl : leadN s c st (bt inp i) ≠ 255) (hm : markN s c (leadN s c st (bt inp i)) = 0) :
    lookP s inp c H (d + 1) st i S n = lookP s inp c H d (leadN s c st (bt inp i)) (i + 1) (S ++ [std c st i]) (n + 1) := by
  rw [lookP, if_neg (by rw [h]; decide), if_neg hl, if_neg (by omega)]

/-- Looking from p. -/
def lookFrom (s inp : ByteArray) (c : Nat) (H : List (Int × Int × Int)) (p : Nat) : List (Int × Int × Int) × Nat := lookP s inp c H (inp.size - p) 0 p [] 0

theorem lookP_len {s inp : ByteArray} {c : Nat} {H : List (Int × Int × Int)} : ∀ d st i S n, (lookP s inp c H d st i S n).1.length ≤ S.length + d ∧ (lookP s inp c H d st i S n).2 ≤ n + d := by
  intro d
  induction d with
  | zero => intro st i S n; simp [lookP]
  | succ e ih =>
    intro st i S n
    rw [lookP]
    split
    · exact ⟨by simp only; omega, by simp only; omega⟩
    · split
      · simp
      · have := ih (leadN s c st (bt inp i)) (i + 1) (if 0 < markN s c (leadN s c st (bt inp i)) then [] else S ++ [std c st i]) (n + 1)
        split at this
        · rename_i hm; rw [if_pos hm]; simp at this ⊢; omega
        · rename_i hm; rw [if_neg hm]; simp at this ⊢; omega

end Go.Stn

namespace Go.Stn
/-- A rule's byte. -/
def thenB (s : ByteArray) (r : Nat) : Nat := bt s (4 + r)

/-- The cut from p on, in condition c: what was told, the steps, the condition in the end. -/
def runP (s inp : ByteArray) : Nat → Nat → Nat → List (Int × Int × Int) → Nat → List (Int × Int × Int) → List (Int × Int × Int) × Nat × Nat
  | 0, _, c, _, n, T => (T, n, c)
  | f + 1, p, c, H, n, T =>
    if p < inp.size then
      if (lng s inp c p).1 = -1 then (T ++ [(-1, (p : Int), (p : Int))], n + (lookFrom s inp c H p).2, c)
      else runP s inp f (lng s inp c p).2 (if 1 < thenB s (lng s inp c p).1.toNat then thenB s (lng s inp c p).1.toNat - 2 else c) (H ++ (lookFrom s inp c H p).1) (n + (lookFrom s inp c H p).2)
        (if thenB s (lng s inp c p).1.toNat = 1 then T else T ++ [((lng s inp c p).1, (p : Int), ((lng s inp c p).2 : Int))])
    else (T, n, c)

/-- The cut that begins at place 0 in condition c. -/
def cutP (s inp : ByteArray) (c : Nat) : List (Int × Int × Int) × Nat × Nat := runP s inp (inp.size + 1) 0 c [] 0 []

theorem longD_cases {s inp : ByteArray} (hi : imgOk s = true) {c p : Nat} (hc : c < iM s) : ∀ d, longD s inp c p d = (-1, p) ∨ ∃ r q : Nat, longD s inp c p d = ((r : Int), q) ∧ r < iR s ∧ p < q ∧ q ≤ p + d := by
  intro d
  induction d with
  | zero => exact .inl rfl
  | succ e ih =>
    cases ht : tokAt s inp c p (e + 1) with
    | none =>
      rw [longD_none ht]
      rcases ih with h | ⟨r, q, h1, h2, h3, h4⟩
      · exact .inl h
      · exact .inr ⟨r, q, h1, h2, h3, by omega⟩
    | some r =>
      right
      refine ⟨r, p + (e + 1), longD_some ht, ?_, by omega, by omega⟩
      unfold tokAt at ht
      split at ht
      · cases ht
      · rename_i st hst
        split at ht
        · rename_i hm
          have := mark_le hi hc (stepTo_lt hi hc _ _ hst)
          simp at ht
          omega
        · cases ht

theorem lng_cases {s inp : ByteArray} (hi : imgOk s = true) {c p : Nat} (hc : c < iM s) (hp : p ≤ inp.size) : lng s inp c p = (-1, p) ∨ ∃ r q : Nat, lng s inp c p = ((r : Int), q) ∧ r < iR s ∧ p < q ∧ q ≤ inp.size := by
  unfold lng
  rcases longD_cases hi hc (inp := inp) (p := p) (inp.size - p) with h | ⟨r, q, h1, h2, h3, h4⟩
  · exact .inl h
  · exact .inr ⟨r, q, h1, h2, h3, by omega⟩

theorem then_le {s : ByteArray} (hi : imgOk s = true) {r : Nat} (hr : r < iR s) : thenB s r ≤ 1 + iM s := by
  have hC := (imgOk_iff.1 hi).2.2.1
  unfold headC at hC
  simp only [Bool.and_eq_true] at hC
  have := belowB_le hC.1 r hr
  unfold thenB
  omega

theorem runP_end {s inp : ByteArray} {f p c n : Nat} {H T : List (Int × Int × Int)} (h : ¬ p < inp.size) : runP s inp (f + 1) p c H n T = (T, n, c) := by
  rw [runP, if_neg h]
theorem runP_none {s inp : ByteArray} {f p c n : Nat} {H T : List (Int × Int × Int)} (h : p < inp.size) (hl : lng s inp c p = (-1, p)) :
    runP s inp (f + 1) p c H n T = (T ++ [(-1, (p : Int), (p : Int))], n + (lookFrom s inp c H p).2, c) := by
  rw [runP, if_pos h, hl, if_pos rfl]
theorem runP_some {s inp : ByteArray} {f p c n r q : Nat} {H T : List (Int × Int × Int)} (h : p < inp.size) (hl : lng s inp c p = ((r : Int), q)) :
    runP s inp (f + 1) p c H n T = runP s inp f q (if 1 < thenB s r then thenB s r - 2 else c) (H ++ (lookFrom s inp c H p).1) (n + (lookFrom s inp c H p).2)
      (if thenB s r = 1 then T else T ++ [((r : Int), (p : Int), (q : Int))]) := by
  rw [runP, if_pos h, hl, if_neg (by simp)]
  simp

/-- More fuel than bytes ahead tells nothing more. -/
theorem runP_fuel {s inp : ByteArray} (hi : imgOk s = true) : ∀ (f f' : Nat) {p c n : Nat} {H T : List (Int × Int × Int)}, c < iM s → inp.size - p < f → inp.size - p < f' → runP s inp f p c H n T = runP s inp f' p c H n T := by
  intro f
  induction f with
  | zero => intro f' p c n H T _ h; omega
  | succ e ih =>
    intro f' p c n H T hc h h'
    obtain ⟨e', rfl⟩ : ∃ e', f' = e' + 1 := ⟨f' - 1, by omega⟩
    by_cases hlt : p < inp.size
    · rcases lng_cases hi hc (Nat.le_of_lt hlt) with hno | ⟨r, q, hyes, hr, hpq, hq⟩
      · rw [runP_none hlt hno, runP_none hlt hno]
      · rw [runP_some hlt hyes, runP_some hlt hyes]
        have := then_le hi hr
        exact ih e' (by split <;> omega) (by omega) (by omega)
    · rw [runP_end hlt, runP_end hlt]

theorem lookFrom_len {s inp : ByteArray} {c p : Nat} {H : List (Int × Int × Int)} : (lookFrom s inp c H p).1.length ≤ inp.size - p ∧ (lookFrom s inp c H p).2 ≤ inp.size - p := by
  have := lookP_len (s := s) (inp := inp) (c := c) (H := H) (inp.size - p) 0 p [] 0
  unfold lookFrom
  simp at this
  exact this

end Go.Stn

namespace Go.Stn
theorem condsP_bad {s : ByteArray} {ru cl : Nat} : ∀ n l (r : LSt), r.2 = true → (condsP s ru cl n l r).2.2 = true := by
  intro n; induction n with
  | zero => intro l r h; exact h
  | succ k ih => intro l r h; exact ih _ _ (condP_bad h)

theorem overB_no {l : List Nat} {m : Nat} (h : overB l m = false) : ∀ x ∈ l, x ≤ m := by
  intro x hx
  unfold overB at h
  rw [decide_eq_false_iff_not] at h
  exact Nat.le_of_not_lt (fun hl => h ⟨x, hx, hl⟩)
theorem overB_of {l : List Nat} {m : Nat} (h : ∀ x ∈ l, x ≤ m) : overB l m = false := by
  unfold overB
  rw [decide_eq_false_iff_not]
  rintro ⟨x, hx, hl⟩
  have := h x hx
  omega

/-- The head is read. -/
structure HeadRd (s : ByteArray) : Prop where
  r3 : lh3 s = (3, false)
  ru : lRules s = iR s
  r4 : lh4 s = (4, false)
  be : lBehind s = (List.range (iR s)).map (thenB s)
  r5 : lh5 s = (4 + iR s, false)
  mn : lMany s = iM s
  r6 : lh6 s = (5 + iR s, false)
  cl : lClasses s = iK s
  r7 : lh7 s = (6 + iR s, false)
  co : lClassOf s = (List.range 256).map (clsN s)
  r8 : lh8 s = (iAt s 0, false)

theorem head_read {s : ByteArray} (h0 : 4 ≤ s.size) (hb : bt s 0 = 83 ∧ bt s 1 = 84 ∧ bt s 2 = 1) (hr : 1 ≤ iR s ∧ iR s ≤ 8)
    (hbe : 4 + iR s ≤ s.size ∧ ∀ j, j < iR s → thenB s j ≤ 5) (hm : 4 + iR s < s.size ∧ 1 ≤ iM s ∧ iM s ≤ 4) (ho : ∀ j, j < iR s → thenB s j ≤ 1 + iM s)
    (hk : 5 + iR s < s.size) (hc : 6 + iR s + 256 ≤ s.size ∧ ∀ j, j < 256 → clsN s j ≤ iK s - 1) : HeadRd s := by
  have e0 : numP s 83 83 (0, false) = (83, (1, false)) := by rw [numP_yes (by omega) (by omega) (by omega), hb.1]
  have e1 : numP s 84 84 (1, false) = (84, (2, false)) := by rw [numP_yes (by omega) (by omega) (by omega), hb.2.1]
  have e2 : numP s 1 1 (2, false) = (1, (3, false)) := by rw [numP_yes (by omega) (by omega) (by omega), hb.2.2]
  have r3 : lh3 s = (3, false) := by unfold lh3; rw [e0]; simp only; rw [e1]; simp only; rw [e2]
  have e3 : numP s 1 8 (3, false) = (iR s, (4, false)) := numP_yes (by omega) hr.1 hr.2
  have ru : lRules s = iR s := by unfold lRules; rw [r3, e3]
  have r4 : lh4 s = (4, false) := by unfold lh4; rw [r3, e3]
  have e4 := numsP_yes (s := s) (hi := 5) (iR s) [] 4 hbe.1 hbe.2
  have be : lBehind s = (List.range (iR s)).map (thenB s) := by unfold lBehind; rw [ru, r4, e4]; rfl
  have r5 : lh5 s = (4 + iR s, false) := by unfold lh5; rw [ru, r4, e4]
  have e5 : numP s 1 4 (4 + iR s, false) = (iM s, (4 + iR s + 1, false)) := numP_yes hm.1 hm.2.1 hm.2.2
  have mn : lMany s = iM s := by unfold lMany; rw [r5, e5]
  have ov : overB (lBehind s) (1 + lMany s) = false := overB_of (fun x hx => by
    rw [be, List.mem_map] at hx
    obtain ⟨j, hj, rfl⟩ := hx
    rw [mn]; exact ho j (List.mem_range.1 hj))
  have r6 : lh6 s = (5 + iR s, false) := by unfold lh6; rw [r5, e5, ov]; simp only [Bool.or_self]; congr 1; omega
  have e6 : numP s 0 255 (5 + iR s, false) = (bt s (5 + iR s), (5 + iR s + 1, false)) := numP_yes hk (by omega) (by have := bt_lt s (5 + iR s); omega)
  have cl : lClasses s = iK s := by unfold lClasses; rw [r6, e6]; unfold iK; simp only; omega
  have r7 : lh7 s = (6 + iR s, false) := by unfold lh7; rw [r6, e6]; simp only; congr 1; omega
  have e7 := numsP_yes (s := s) (hi := iK s - 1) 256 [] (6 + iR s) hc.1 hc.2
  have co : lClassOf s = (List.range 256).map (clsN s) := by unfold lClassOf; rw [cl, r7, e7]; simp only [List.nil_append]; exact List.map_congr_left (fun j _ => rfl)
  have ea : 6 + iR s + 256 = iAt s 0 := by show _ = 262 + iR s; omega
  have r8 : lh8 s = (iAt s 0, false) := by unfold lh8; rw [cl, r7, e7, ea]
  exact ⟨r3, ru, r4, be, r5, mn, r6, cl, r7, co, r8⟩

theorem img_read {s : ByteArray} (h : imgOk s = true) : HeadRd s := by
  obtain ⟨h1, h2, h3, h4, h5⟩ := img_head h
  have hA := headA_iff.1 (imgOk_iff.1 h).1
  refine head_read hA.1 hA.2.1 ⟨h2, h1⟩ ⟨by omega, fun j hj => by have := then_le h hj; omega⟩ ⟨by omega, h3, h4⟩ (fun j hj => then_le h hj) (by omega) ⟨h5, fun j hj => by have := cls_lt h j hj; omega⟩

/-- The states of a condition, as they are read. -/
def condV (s : ByteArray) (c : Nat) : List (Nat × List Int) := (List.range (nSt s c)).map fun st => rowV s (iK s) (rwAt s c st)

theorem img_conds {s : ByteArray} (h : imgOk s = true) : lConds s = (List.range (iM s)).map (condV s) ∧ lh9 s = (s.size, false) := by
  have hd := img_read h
  have e := condsP_yes (s := s) (iM s) [] 0 (fun j hj => by rw [Nat.zero_add]; exact img_st h hj)
  refine ⟨?_, ?_⟩
  · unfold lConds; rw [hd.ru, hd.cl, hd.mn, hd.r8, e]
    simp only [List.nil_append]
    refine List.map_congr_left (fun j _ => ?_)
    rw [Nat.zero_add]; rfl
  · unfold lh9; rw [hd.ru, hd.cl, hd.mn, hd.r8, e, Nat.zero_add, (imgOk_iff.1 h).2.2.2.2.2]

theorem read_img {s : ByteArray} (h : (lh9 s).2 = false) (hs : (lh9 s).1 = s.size) : imgOk s = true := by
  have h8 : (lh8 s).2 = false := by
    cases hb : (lh8 s).2 with
    | false => rfl
    | true => unfold lh9 at h; rw [condsP_bad _ _ _ hb] at h; cases h
  obtain ⟨h7, k7, c7⟩ := numsP_good _ _ _ h8
  obtain ⟨h6, p6, a6, b6⟩ := numP_good h7
  have h6' := h6
  unfold lh6 at h6'
  simp only [Bool.or_eq_false_iff] at h6'
  obtain ⟨h5, p5, a5, b5⟩ := numP_good h6'.1
  obtain ⟨h4, k4, c4⟩ := numsP_good _ _ _ h5
  obtain ⟨h3, p3, a3, b3⟩ := numP_good h4
  obtain ⟨h2, p2, a2, b2⟩ := numP_good h3
  obtain ⟨h1, p1, a1, b1⟩ := numP_good h2
  obtain ⟨h0, p0, a0, b0⟩ := numP_good h1
  simp only at p0 a0 b0
  have e0 : numP s 83 83 (0, false) = (bt s 0, (1, false)) := numP_yes (by omega) (by omega) (by omega)
  rw [e0] at p1 a1 b1
  simp only at p1 a1 b1
  have e1 : numP s 84 84 (1, false) = (bt s 1, (2, false)) := numP_yes p1 a1 b1
  rw [e0] at p2 a2 b2
  simp only at p2 a2 b2
  rw [e1] at p2 a2 b2
  simp only at p2 a2 b2
  have e2 : numP s 1 1 (2, false) = (bt s 2, (3, false)) := numP_yes p2 a2 b2
  have r3 : lh3 s = (3, false) := by unfold lh3; rw [e0]; simp only; rw [e1]; simp only; rw [e2]
  rw [r3] at p3 a3 b3
  simp only at p3 a3 b3
  have e3 : numP s 1 8 (3, false) = (iR s, (4, false)) := numP_yes p3 a3 b3
  have ru : lRules s = iR s := by unfold lRules; rw [r3, e3]
  have r4 : lh4 s = (4, false) := by unfold lh4; rw [r3, e3]
  rw [r4, ru] at k4
  rw [r4, ru] at c4
  simp only at k4 c4
  have k4 := k4 (by omega)
  have e4 := numsP_yes (s := s) (hi := 5) (iR s) [] 4 k4 c4
  have r5 : lh5 s = (4 + iR s, false) := by unfold lh5; rw [ru, r4, e4]
  have be : lBehind s = (List.range (iR s)).map (thenB s) := by unfold lBehind; rw [ru, r4, e4]; rfl
  rw [r5] at p5 a5 b5
  simp only at p5 a5 b5
  have e5 : numP s 1 4 (4 + iR s, false) = (iM s, (4 + iR s + 1, false)) := numP_yes p5 a5 b5
  have mn : lMany s = iM s := by unfold lMany; rw [r5, e5]
  have r6 : lh6 s = (5 + iR s, false) := by unfold lh6; rw [r5, e5, h6'.2]; simp only [Bool.or_self]; congr 1; omega
  have ho : ∀ j, j < iR s → thenB s j ≤ 1 + iM s := fun j hj => by
    have := overB_no h6'.2 (thenB s j) (by rw [be, List.mem_map]; exact ⟨j, List.mem_range.2 hj, rfl⟩)
    rw [mn] at this; exact this
  rw [r6] at p6
  simp only at p6
  have e6 : numP s 0 255 (5 + iR s, false) = (bt s (5 + iR s), (5 + iR s + 1, false)) := numP_yes p6 (by omega) (by have := bt_lt s (5 + iR s); omega)
  have cl : lClasses s = iK s := by unfold lClasses; rw [r6, e6]; unfold iK; simp only; omega
  have r7 : lh7 s = (6 + iR s, false) := by unfold lh7; rw [r6, e6]; simp only; congr 1; omega
  rw [r7] at k7
  rw [r7, cl] at c7
  simp only at k7 c7
  have k7 := k7 (by omega)
  have a3' : 1 ≤ iR s := a3
  have b3' : iR s ≤ 8 := b3
  have a5' : 1 ≤ iM s := a5
  have b5' : iM s ≤ 4 := b5
  have hd := head_read (s := s) (by omega) ⟨by omega, by omega, by omega⟩ ⟨a3', b3'⟩ ⟨k4, c4⟩ ⟨p5, a5', b5'⟩ ho p6 ⟨k7, c7⟩
  have h9 := h
  unfold lh9 at h9 hs
  rw [hd.ru, hd.cl, hd.mn] at h9 hs
  obtain ⟨q1, q2, q3⟩ := condsP_good (s := s) (iM s) [] 0 (lh8 s) (by rw [hd.r8]) h9
  rw [q3, Nat.zero_add] at hs
  refine imgOk_iff.2 ⟨headA_iff.2 ⟨by omega, ⟨by omega, by omega, by omega⟩, a3', b3'⟩, ?_, ?_, ?_, fun c hc => by have := q2 c hc; rw [Nat.zero_add] at this; exact this, hs⟩
  · unfold headB
    rw [Bool.and_eq_true]
    refine ⟨belowB_yes (by omega) (fun j hj => ?_), decide_eq_true (by omega)⟩
    have e : j = 0 := by omega
    subst e
    have : bt s (4 + iR s + 0) = iM s := rfl
    omega
  · unfold headC
    rw [Bool.and_eq_true]
    refine ⟨belowB_yes k4 (fun j hj => ?_), belowB_yes (by omega) (fun j hj => ?_)⟩
    · have := ho j hj
      unfold thenB at this
      omega
    · have := bt_lt s (5 + iR s + j); omega
  · unfold headD
    refine belowB_yes k7 (fun j hj => ?_)
    have := c7 j hj
    have := iK_pos s
    omega

theorem lh9_at (s : ByteArray) : (lh9 s).1 ≤ s.size := by
  unfold lh9 lh8 lh7 lh6 lh5 lh4 lh3
  refine condsP_at _ _ _ (numsP_at _ _ _ (numP_at ?_))
  exact numP_at (numsP_at _ _ _ (numP_at (numP_at (numP_at (numP_at (by simp))))))

/-- What Read refuses is no image. -/
theorem read_iff (s : ByteArray) : ((lh9 s).2 || decide ((lh9 s).1 < s.size)) = !(imgOk s) := by
  have h1 := lh9_at s
  cases hi : imgOk s with
  | true => rw [(img_conds hi).2]; simp
  | false =>
    cases h2 : (lh9 s).2 with
    | true => rfl
    | false =>
      by_cases h3 : (lh9 s).1 < s.size
      · simp [h3]
      · rw [read_img h2 (by omega)] at hi; cases hi

end Go.Stn

namespace Go.Stn
open Go.RowKit
/-- An image's cells: the list of what is behind, the classes, the list of conditions. -/
def imgC (vb : Value) (cs : List Nat) (vc : Value) : List Value := vb :: (natC cs ++ [vc])
theorem natC_len (l : List Nat) : (natC l).length = l.length := by simp [natC]
theorem natC_get (l : List Nat) (k : Nat) (h : k < l.length) : (natC l)[k]? = some (.int .i64 (l[k] : Int)) := by simp [natC, h]
theorem imgC_len (vb : Value) (cs : List Nat) (vc : Value) (h : cs.length = 256) : (imgC vb cs vc).length = 258 := by simp [imgC, natC_len, h]
theorem imgC_0 (vb : Value) (cs : List Nat) (vc : Value) : (imgC vb cs vc)[0]? = some vb := rfl
theorem imgC_k (vb : Value) (cs : List Nat) (vc : Value) (k : Nat) (h : k < cs.length) : (imgC vb cs vc)[1 + k]? = some (.int .i64 (cs[k] : Int)) := by
  unfold imgC
  rw [Nat.add_comm, List.getElem?_cons_succ, List.getElem?_append_left (by rw [natC_len]; exact h), natC_get _ _ h]
theorem imgC_257 (vb : Value) (cs : List Nat) (vc : Value) (h : cs.length = 256) : (imgC vb cs vc)[257]? = some vc := by
  unfold imgC
  rw [List.getElem?_cons_succ, List.getElem?_append_right (by rw [natC_len, h]; omega), natC_len, h]; rfl
theorem imgC_set0 (vb : Value) (cs : List Nat) (vc u : Value) : (imgC vb cs vc).set 0 u = imgC u cs vc := rfl
theorem imgC_setk (vb : Value) (cs : List Nat) (vc : Value) (k x : Nat) (h : k < cs.length) : (imgC vb cs vc).set (1 + k) (.int .i64 (x : Int)) = imgC vb (cs.set k x) vc := by
  unfold imgC
  rw [Nat.add_comm, List.set_cons_succ, List.set_append_left _ _ (by rw [natC_len]; exact h)]
  simp [natC, List.map_set]
theorem imgC_set257 (vb : Value) (cs : List Nat) (vc u : Value) (h : cs.length = 256) : (imgC vb cs vc).set 257 u = imgC vb cs u := by
  unfold imgC
  rw [List.set_cons_succ, List.set_append_right _ _ (by rw [natC_len, h]; omega), natC_len, h]; rfl
theorem set_next (xs : List Nat) (m x : Nat) : (xs ++ List.replicate (m + 1) 0).set xs.length x = (xs ++ [x]) ++ List.replicate m 0 := by
  rw [List.set_append_right _ _ (Nat.le_refl _), Nat.sub_self, List.replicate_succ, List.set_cons_zero]
  simp

theorem rangeAt_setL {w : World} {b : Nat} {l : List Value} (h : w.rangeAt b 0 l) (k : Nat) (hk : k < l.length) (v : Value) : (w.setCell ⟨b, k, none⟩ v).rangeAt b 0 (l.set k v) := by
  intro j u hu
  rw [Nat.zero_add]
  by_cases e : j = k
  · subst e
    rw [List.getElem?_set_self hk] at hu
    injection hu with hu
    rw [← hu]
    have := h j (l[j]) (List.getElem?_eq_getElem hk)
    rw [Nat.zero_add] at this
    exact World.cell?_setCell_same _ _ _ this
  · rw [List.getElem?_set_ne (fun h => e h.symm)] at hu
    rw [World.cell?_setCell_other (h := by intro e'; injection e'; omega)]
    have := h j u hu
    rw [Nat.zero_add] at this
    exact this
theorem overB_succ (l : List Nat) (m k : Nat) (h : k < l.length) : overB (l.take (k + 1)) m = (overB (l.take k) m || decide (m < l[k])) := by
  have e : l.take (k + 1) = l.take k ++ [l[k]] := by rw [List.take_add_one, List.getElem?_eq_getElem h]; rfl
  unfold overB
  rw [e, Bool.eq_iff_iff]
  simp only [List.mem_append, List.mem_singleton, Bool.or_eq_true, decide_eq_true_eq]
  constructor
  · rintro ⟨x, h1 | h1, h2⟩
    · exact .inl ⟨x, h1, h2⟩
    · subst h1; exact .inr h2
  · rintro (⟨x, h1, h2⟩ | h2)
    · exact ⟨x, .inl h1, h2⟩
    · exact ⟨_, .inr rfl, h2⟩

/-- A condition's states: where the list lies, the states, where each row lies. -/
abbrev CondG := Nat × List ((Nat × List Int) × Nat)
/-- A condition in memory. -/
structure CondIn (w : World) (cl : Nat) (y : CondG) : Prop where
  lt : y.1 < w.heap.size
  rg : w.rangeAt y.1 0 (stC cl y.2)
  rows : ∀ z ∈ y.2, z.2 < w.heap.size ∧ w.rangeAt z.2 0 (intC z.1.2)
def ownG (y : CondG) (k : Nat) : Prop := k = y.1 ∨ ∃ z ∈ y.2, k = z.2
theorem CondIn.block {w w' : World} {cl : Nat} {y : CondG} (h : CondIn w cl y) (hz : w.heap.size ≤ w'.heap.size) (hb : ∀ k, k < w.heap.size → ownG y k → w'.heap[k]? = w.heap[k]?) : CondIn w' cl y :=
  ⟨Nat.lt_of_lt_of_le h.lt hz, rangeAt_block h.rg (hb _ h.lt (.inl rfl)), fun z hz' => ⟨Nat.lt_of_lt_of_le (h.rows z hz').1 hz, rangeAt_block (h.rows z hz').2 (hb _ (h.rows z hz').1 (.inr ⟨z, hz', rfl⟩))⟩⟩
theorem CondIn.own {w : World} {cl : Nat} {y : CondG} (h : CondIn w cl y) {k : Nat} (hk : ownG y k) : k < w.heap.size := by
  rcases hk with rfl | ⟨z, hz, rfl⟩
  · exact h.lt
  · exact (h.rows z hz).1
theorem CondIn.below {w w' : World} {cl B : Nat} {y : CondG} (h : CondIn w cl y) (hB : Below B w w') (hl : w.heap.size ≤ B) : CondIn w' cl y := h.block hB.size (fun k hk _ => hB.block k (by omega))
/-- The list of conditions. -/
def condC (ys : List CondG) : List Value := ys.map fun (y : CondG) => Value.slice (some ⟨y.1, 0, none⟩) y.2.length y.2.length
theorem condC_snoc (ys : List CondG) (y : CondG) : condC (ys ++ [y]) = condC ys ++ [Value.slice (some ⟨y.1, 0, none⟩) y.2.length y.2.length] := by simp [condC]
end Go.Stn
namespace Go.Proofs.YtgjgjgihceijnaaGreat
open Go.RowKit Go.Stn

theorem Tryz.imgZeroA : Tryz.zeroCells72 = (imgC (.slice none 0 0) (List.replicate 256 0) (.slice none 0 0)).toArray := by kernel_rfl
theorem Tryz.imgZeroL : Tryz.zeroCells72.toList = imgC (.slice none 0 0) (List.replicate 256 0) (.slice none 0 0) := by rw [Tryz.imgZeroA]
theorem Tryz.imgZero : Tryz.zeroCells72.size = 258 := by kernel_rfl
theorem Tryz.imgSize : (Tryz.prog.info? 72).map (·.size) = some 258 := by kernel_rfl
theorem Tryz.imgZeroOne : Tryz.zeroCells72.all (·.oneCell') = true := by kernel_rfl
theorem Tryz.infoConds : (Tryz.prog.info? 110).map (fun i => (i.zero, i.size, i.bytes)) = some (some (.slice none 0 0), 1, 24) := by kernel_rfl

/-- The world of the reading of an image that began in w0. -/
structure IW (w0 w : World) (rb : Nat) (s : ByteArray) (r : LSt) (vb : Value) (cs : List Nat) (vc : Value) : Prop where
  g : w0.grownBy w (some rb)
  rd : LRd w rb s r
  im : w.rangeAt (w0.heap.size + 1) 0 (imgC vb cs vc)
  t1 : w.there (w0.heap.size + 1) 0 258
  t0 : w.there w0.heap.size 0 258
  hz : w0.heap.size + 2 ≤ w.heap.size
  hb : rb < w0.heap.size
  hl : cs.length = 256

variable {w0 w w' : World} {rb : Nat} {s : ByteArray} {r r' : LSt} {vb vc : Value} {cs : List Nat}

theorem IW.step (h : IW w0 w rb s r vb cs vc) (hg : w.grownBy w' (some rb)) (hl : LRd w' rb s r') : IW w0 w' rb s r' vb cs vc := by
  have hb := h.hb
  have hz := h.hz
  have e1 : w'.heap[w0.heap.size + 1]? = w.heap[w0.heap.size + 1]? := hg.block _ (by omega) (by intro e; injection e; omega)
  have e0 : w'.heap[w0.heap.size]? = w.heap[w0.heap.size]? := hg.block _ (by omega) (by intro e; injection e; omega)
  exact ⟨grown_trans h.g hg, hl, rangeAt_block h.im e1, there_block h.t1 e1, there_block h.t0 e0, by have := hg.size; omega, hb, h.hl⟩
theorem IW.cell (h : IW w0 w rb s r vb cs vc) {k : Nat} {v : Value} (hk : (imgC vb cs vc)[k]? = some v) : w.cell? ⟨w0.heap.size + 1, k, none⟩ = some v := by
  have := h.im k v hk
  rw [Nat.zero_add] at this
  exact this
theorem IW.fz (h : IW w0 w rb s r vb cs vc) {k : Nat} (hk : k < 258) : w.frozen? ⟨w0.heap.size + 1, k, none⟩ = false := by
  have := (h.t1 k hk).2
  rw [Nat.zero_add] at this
  exact this
theorem IW.set (h : IW w0 w rb s r vb cs vc) {k : Nat} {u : Value} {vb' vc' : Value} {cs' : List Nat} (hk : k < 258) (he : (imgC vb cs vc).set k u = imgC vb' cs' vc') (hl : cs'.length = 256) :
    IW w0 (w.setCell ⟨w0.heap.size + 1, k, none⟩ u) rb s r vb' cs' vc' := by
  have hb := h.hb
  have hz := h.hz
  refine ⟨⟨h.g.os, h.g.tape, h.g.output, by simp [World.setCell]; omega, fun i hi hr => ?_⟩, ?_, ?_, there_set h.t1 _ _, there_set h.t0 _ _, by simp [World.setCell]; omega, hb, hl⟩
  · rw [Below.heap_setCell _ _ _ _ (by simp only; omega)]; exact h.g.block i hi hr
  · exact h.rd.block (Below.heap_setCell _ _ _ _ (by simp only; omega)) (by simp [World.setCell])
  · rw [← he]; exact rangeAt_setL h.im k (by rw [imgC_len _ _ _ h.hl]; exact hk) u

theorem IW.other {v : Option Nat} (h : IW w0 w rb s r vb cs vc) (hg : w.grownBy w' v) (hv : ∀ k, v = some k → w0.heap.size + 2 ≤ k) : IW w0 w' rb s r vb cs vc := by
  have hb := h.hb
  have hz := h.hz
  have ne : ∀ k, k < w0.heap.size + 2 → some k ≠ v := fun k hk e => by have := hv k e.symm; omega
  have e1 : w'.heap[w0.heap.size + 1]? = w.heap[w0.heap.size + 1]? := hg.block _ (by omega) (ne _ (by omega))
  have e0 : w'.heap[w0.heap.size]? = w.heap[w0.heap.size]? := hg.block _ (by omega) (ne _ (by omega))
  refine ⟨⟨hg.os.trans h.g.os, hg.tape.trans h.g.tape, hg.output.trans h.g.output, Nat.le_trans h.g.size hg.size, fun i hi hr => (hg.block i (Nat.lt_of_lt_of_le hi h.g.size) (ne i (by omega))).trans (h.g.block i hi hr)⟩,
    h.rd.grown hg (ne rb (by omega)), rangeAt_block h.im e1, there_block h.t1 e1, there_block h.t0 e0, by have := hg.size; omega, hb, h.hl⟩

theorem imgC_one (hb : vb.oneCell' = true) (hc : vc.oneCell' = true) : ∀ v ∈ imgC vb cs vc, v.oneCell' = true := by
  intro v hv
  unfold imgC at hv
  rcases List.mem_cons.1 hv with rfl | h1
  · exact hb
  · rcases List.mem_append.1 h1 with h2 | h2
    · unfold natC at h2
      rw [List.mem_map] at h2
      obtain ⟨x, _, rfl⟩ := h2
      rfl
    · rw [List.mem_singleton] at h2; rw [h2]; exact hc

/-- What begins the reading. -/
theorem IW.start (h : LRd w rb s r) :
    IW w (((w.alloc (.cells Tryz.zeroCells72 72)).alloc (.cells Tryz.zeroCells72 72)).setCells (w.heap.size + 1) 0 Tryz.zeroCells72.toList) rb s r (.slice none 0 0) (List.replicate 256 0) (.slice none 0 0) := by
  have hb := h.hb
  have t1 := there_newA (w.alloc (.cells Tryz.zeroCells72 72)) Tryz.zeroCells72 72 (w.heap.size + 1) 258 Tryz.imgZero (by simp)
  have t0 := there_newA w Tryz.zeroCells72 72 w.heap.size 258 Tryz.imgZero rfl
  have g0 : w.grownBy ((w.alloc (.cells Tryz.zeroCells72 72)).alloc (.cells Tryz.zeroCells72 72)) (some rb) := grown_alloc2 (grown_alloc2 (World.grownBy.refl _ _) _) _
  have b1 : Below w.heap.size w ((w.alloc (.cells Tryz.zeroCells72 72)).alloc (.cells Tryz.zeroCells72 72)) := ((Below.refl _ _).alloc (Nat.le_refl _) _).alloc (by simp) _
  have b2 := below_setCells Tryz.zeroCells72.toList 0 _ (w.heap.size + 1) b1 (by omega)
  have z2 := (below_setCells Tryz.zeroCells72.toList 0 ((w.alloc (.cells Tryz.zeroCells72 72)).alloc (.cells Tryz.zeroCells72 72)) (w.heap.size + 1) (Below.refl 0 _) (Nat.zero_le _)).size
  simp at z2
  refine ⟨grown_setCells g0 _ _ _ (by omega), h.below b2 hb, ?_, World.there_setCells t1 _ _ _, World.there_setCells (World.there_alloc t0 _) _ _ _, by omega, hb, List.length_replicate⟩
  rw [← Tryz.imgZeroL]
  exact World.rangeAt_setCells_same _ _ _ _ (by rw [Array.length_toList, Tryz.imgZero]; exact t1)
end Go.Proofs.YtgjgjgihceijnaaGreat

