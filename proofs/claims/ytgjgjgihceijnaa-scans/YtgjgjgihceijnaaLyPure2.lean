/- Plain mathematics: layout's reader takes what is an image, and nothing else; what it reads then. -/
import Derived.Test.YtgjgjgihceijnaaLyPure
import Derived.Test.YtgjgjgihceijnaaScPure4
namespace Go.Stn

theorem condsP_bad {s : ByteArray} {ru cl : Nat} : ∀ n l (r : LSt), r.2 = true → (condsP s ru cl n l r).2.2 = true := by
  intro n; induction n with
  | zero => intro l r h; exact h
  | succ k ih => intro l r h; exact ih _ _ (condP_bad h)

theorem pair_eta {r : LSt} {b : Bool} (h : r.2 = b) : r = (r.1, b) := by rw [← h]

theorem overB_no {l : List Nat} {m : Nat} (h : overB l m = false) : ∀ x ∈ l, x ≤ m := by
  intro x hx
  unfold overB at h
  rw [decide_eq_false_iff_not] at h
  exact Nat.le_of_not_lt (fun hl => h ⟨x, hx, hl⟩)
theorem overB_of {l : List Nat} {m : Nat} (h : ∀ x ∈ l, x ≤ m) : overB l m = false := by
  unfold overB
  rw [decide_eq_false_iff_not]
  rintro ⟨x, hx, hl⟩
  have := h x hx
  omega

/-- The head is read. -/
structure HeadRd (s : ByteArray) : Prop where
  r3 : lh3 s = (3, false)
  ru : lRules s = iR s
  r4 : lh4 s = (4, false)
  be : lBehind s = (List.range (iR s)).map (thenB s)
  r5 : lh5 s = (4 + iR s, false)
  mn : lMany s = iM s
  r6 : lh6 s = (5 + iR s, false)
  cl : lClasses s = iK s
  r7 : lh7 s = (6 + iR s, false)
  co : lClassOf s = (List.range 256).map (clsN s)
  r8 : lh8 s = (iAt s 0, false)

theorem head_read {s : ByteArray} (h0 : 4 ≤ s.size) (hb : bt s 0 = 83 ∧ bt s 1 = 84 ∧ bt s 2 = 1) (hr : 1 ≤ iR s ∧ iR s ≤ 8)
    (hbe : 4 + iR s ≤ s.size ∧ ∀ j, j < iR s → thenB s j ≤ 5) (hm : 4 + iR s < s.size ∧ 1 ≤ iM s ∧ iM s ≤ 4) (ho : ∀ j, j < iR s → thenB s j ≤ 1 + iM s)
    (hk : 5 + iR s < s.size) (hc : 6 + iR s + 256 ≤ s.size ∧ ∀ j, j < 256 → clsN s j ≤ iK s - 1) : HeadRd s := by
  have e0 : numP s 83 83 (0, false) = (83, (1, false)) := by rw [numP_yes (by omega) (by omega) (by omega), hb.1]
  have e1 : numP s 84 84 (1, false) = (84, (2, false)) := by rw [numP_yes (by omega) (by omega) (by omega), hb.2.1]
  have e2 : numP s 1 1 (2, false) = (1, (3, false)) := by rw [numP_yes (by omega) (by omega) (by omega), hb.2.2]
  have r3 : lh3 s = (3, false) := by unfold lh3; rw [e0]; simp only; rw [e1]; simp only; rw [e2]
  have e3 : numP s 1 8 (3, false) = (iR s, (4, false)) := numP_yes (by omega) hr.1 hr.2
  have ru : lRules s = iR s := by unfold lRules; rw [r3, e3]
  have r4 : lh4 s = (4, false) := by unfold lh4; rw [r3, e3]
  have e4 := numsP_yes (s := s) (hi := 5) (iR s) [] 4 hbe.1 hbe.2
  have be : lBehind s = (List.range (iR s)).map (thenB s) := by unfold lBehind; rw [ru, r4, e4]; rfl
  have r5 : lh5 s = (4 + iR s, false) := by unfold lh5; rw [ru, r4, e4]
  have e5 : numP s 1 4 (4 + iR s, false) = (iM s, (4 + iR s + 1, false)) := numP_yes hm.1 hm.2.1 hm.2.2
  have mn : lMany s = iM s := by unfold lMany; rw [r5, e5]
  have ov : overB (lBehind s) (1 + lMany s) = false := overB_of (fun x hx => by
    rw [be, List.mem_map] at hx
    obtain ⟨j, hj, rfl⟩ := hx
    rw [mn]; exact ho j (List.mem_range.1 hj))
  have r6 : lh6 s = (5 + iR s, false) := by unfold lh6; rw [r5, e5, ov]; simp only [Bool.or_self]; congr 1; omega
  have e6 : numP s 0 255 (5 + iR s, false) = (bt s (5 + iR s), (5 + iR s + 1, false)) := numP_yes hk (by omega) (by have := bt_lt s (5 + iR s); omega)
  have cl : lClasses s = iK s := by unfold lClasses; rw [r6, e6]; unfold iK; simp only; omega
  have r7 : lh7 s = (6 + iR s, false) := by unfold lh7; rw [r6, e6]; simp only; congr 1; omega
  have e7 := numsP_yes (s := s) (hi := iK s - 1) 256 [] (6 + iR s) hc.1 hc.2
  have co : lClassOf s = (List.range 256).map (clsN s) := by unfold lClassOf; rw [cl, r7, e7]; simp only [List.nil_append]; exact List.map_congr_left (fun j _ => rfl)
  have ea : 6 + iR s + 256 = iAt s 0 := by show _ = 262 + iR s; omega
  have r8 : lh8 s = (iAt s 0, false) := by unfold lh8; rw [cl, r7, e7, ea]
  exact ⟨r3, ru, r4, be, r5, mn, r6, cl, r7, co, r8⟩

theorem img_read {s : ByteArray} (h : imgOk s = true) : HeadRd s := by
  obtain ⟨h1, h2, h3, h4, h5⟩ := img_head h
  have hA := headA_iff.1 (imgOk_iff.1 h).1
  refine head_read hA.1 hA.2.1 ⟨h2, h1⟩ ⟨by omega, fun j hj => by have := then_le h hj; omega⟩ ⟨by omega, h3, h4⟩ (fun j hj => then_le h hj) (by omega) ⟨h5, fun j hj => by have := cls_lt h j hj; omega⟩

/-- The states of a condition, as they are read. -/
def condV (s : ByteArray) (c : Nat) : List (Nat × List Int) := (List.range (nSt s c)).map fun st => rowV s (iK s) (rwAt s c st)

theorem img_conds {s : ByteArray} (h : imgOk s = true) : lConds s = (List.range (iM s)).map (condV s) ∧ lh9 s = (s.size, false) := by
  have hd := img_read h
  have e := condsP_yes (s := s) (iM s) [] 0 (fun j hj => by rw [Nat.zero_add]; exact img_st h hj)
  refine ⟨?_, ?_⟩
  · unfold lConds; rw [hd.ru, hd.cl, hd.mn, hd.r8, e]
    simp only [List.nil_append]
    refine List.map_congr_left (fun j _ => ?_)
    rw [Nat.zero_add]; rfl
  · unfold lh9; rw [hd.ru, hd.cl, hd.mn, hd.r8, e, Nat.zero_add, (imgOk_iff.1 h).2.2.2.2.2]

theorem read_img {s : ByteArray} (h : (lh9 s).2 = false) (hs : (lh9 s).1 = s.size) : imgOk s = true := by
  have h8 : (lh8 s).2 = false := by
    cases hb : (lh8 s).2 with
    | false => rfl
    | true => unfold lh9 at h; rw [condsP_bad _ _ _ hb] at h; cases h
  obtain ⟨h7, k7, c7⟩ := numsP_good _ _ _ h8
  obtain ⟨h6, p6, a6, b6⟩ := numP_good h7
  have h6' := h6
  unfold lh6 at h6'
  simp only [Bool.or_eq_false_iff] at h6'
  obtain ⟨h5, p5, a5, b5⟩ := numP_good h6'.1
  obtain ⟨h4, k4, c4⟩ := numsP_good _ _ _ h5
  obtain ⟨h3, p3, a3, b3⟩ := numP_good h4
  obtain ⟨h2, p2, a2, b2⟩ := numP_good h3
  obtain ⟨h1, p1, a1, b1⟩ := numP_good h2
  obtain ⟨h0, p0, a0, b0⟩ := numP_good h1
  simp only at p0 a0 b0
  have e0 : numP s 83 83 (0, false) = (bt s 0, (1, false)) := numP_yes (by omega) (by omega) (by omega)
  rw [e0] at p1 a1 b1
  simp only at p1 a1 b1
  have e1 : numP s 84 84 (1, false) = (bt s 1, (2, false)) := numP_yes p1 a1 b1
  rw [e0] at p2 a2 b2
  simp only at p2 a2 b2
  rw [e1] at p2 a2 b2
  simp only at p2 a2 b2
  have e2 : numP s 1 1 (2, false) = (bt s 2, (3, false)) := numP_yes p2 a2 b2
  have r3 : lh3 s = (3, false) := by unfold lh3; rw [e0]; simp only; rw [e1]; simp only; rw [e2]
  rw [r3] at p3 a3 b3
  simp only at p3 a3 b3
  have e3 : numP s 1 8 (3, false) = (iR s, (4, false)) := numP_yes p3 a3 b3
  have ru : lRules s = iR s := by unfold lRules; rw [r3, e3]
  have r4 : lh4 s = (4, false) := by unfold lh4; rw [r3, e3]
  rw [r4, ru] at k4
  rw [r4, ru] at c4
  simp only at k4 c4
  have k4 := k4 (by omega)
  have e4 := numsP_yes (s := s) (hi := 5) (iR s) [] 4 k4 c4
  have r5 : lh5 s = (4 + iR s, false) := by unfold lh5; rw [ru, r4, e4]
  have be : lBehind s = (List.range (iR s)).map (thenB s) := by unfold lBehind; rw [ru, r4, e4]; rfl
  rw [r5] at p5 a5 b5
  simp only at p5 a5 b5
  have e5 : numP s 1 4 (4 + iR s, false) = (iM s, (4 + iR s + 1, false)) := numP_yes p5 a5 b5
  have mn : lMany s = iM s := by unfold lMany; rw [r5, e5]
  have r6 : lh6 s = (5 + iR s, false) := by unfold lh6; rw [r5, e5, h6'.2]; simp only [Bool.or_self]; congr 1; omega
  have ho : ∀ j, j < iR s → thenB s j ≤ 1 + iM s := fun j hj => by
    have := overB_no h6'.2 (thenB s j) (by rw [be, List.mem_map]; exact ⟨j, List.mem_range.2 hj, rfl⟩)
    rw [mn] at this; exact this
  rw [r6] at p6
  simp only at p6
  have e6 : numP s 0 255 (5 + iR s, false) = (bt s (5 + iR s), (5 + iR s + 1, false)) := numP_yes p6 (by omega) (by have := bt_lt s (5 + iR s); omega)
  have cl : lClasses s = iK s := by unfold lClasses; rw [r6, e6]; unfold iK; simp only; omega
  have r7 : lh7 s = (6 + iR s, false) := by unfold lh7; rw [r6, e6]; simp only; congr 1; omega
  rw [r7] at k7
  rw [r7, cl] at c7
  simp only at k7 c7
  have k7 := k7 (by omega)
  have a3' : 1 ≤ iR s := a3
  have b3' : iR s ≤ 8 := b3
  have a5' : 1 ≤ iM s := a5
  have b5' : iM s ≤ 4 := b5
  have hd := head_read (s := s) (by omega) ⟨by omega, by omega, by omega⟩ ⟨a3', b3'⟩ ⟨k4, c4⟩ ⟨p5, a5', b5'⟩ ho p6 ⟨k7, c7⟩
  have h9 := h
  unfold lh9 at h9 hs
  rw [hd.ru, hd.cl, hd.mn] at h9 hs
  obtain ⟨q1, q2, q3⟩ := condsP_good (s := s) (iM s) [] 0 (lh8 s) (by rw [hd.r8]) h9
  rw [q3, Nat.zero_add] at hs
  refine imgOk_iff.2 ⟨headA_iff.2 ⟨by omega, ⟨by omega, by omega, by omega⟩, a3', b3'⟩, ?_, ?_, ?_, fun c hc => by have := q2 c hc; rw [Nat.zero_add] at this; exact this, hs⟩
  · unfold headB
    rw [Bool.and_eq_true]
    refine ⟨belowB_yes (by omega) (fun j hj => ?_), decide_eq_true (by omega)⟩
    have e : j = 0 := by omega
    subst e
    have : bt s (4 + iR s + 0) = iM s := rfl
    omega
  · unfold headC
    rw [Bool.and_eq_true]
    refine ⟨belowB_yes k4 (fun j hj => ?_), belowB_yes (by omega) (fun j hj => ?_)⟩
    · have := ho j hj
      unfold thenB at this
      omega
    · have := bt_lt s (5 + iR s + j); omega
  · unfold headD
    refine belowB_yes k7 (fun j hj => ?_)
    have := c7 j hj
    have := iK_pos s
    omega

theorem lh9_at (s : ByteArray) : (lh9 s).1 ≤ s.size := by
  unfold lh9 lh8 lh7 lh6 lh5 lh4 lh3
  refine condsP_at _ _ _ (numsP_at _ _ _ (numP_at ?_))
  exact numP_at (numsP_at _ _ _ (numP_at (numP_at (numP_at (numP_at (by simp))))))

/-- What Read refuses is no image. -/
theorem read_iff (s : ByteArray) : ((lh9 s).2 || decide ((lh9 s).1 < s.size)) = !(imgOk s) := by
  have h1 := lh9_at s
  cases hi : imgOk s with
  | true => rw [(img_conds hi).2]; simp
  | false =>
    cases h2 : (lh9 s).2 with
    | true => rfl
    | false =>
      by_cases h3 : (lh9 s).1 < s.size
      · simp [h3]
      · rw [read_img h2 (by omega)] at hi; cases hi

end Go.Stn
