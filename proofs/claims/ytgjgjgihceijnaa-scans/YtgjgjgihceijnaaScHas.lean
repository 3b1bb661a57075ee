/- stencilref.has: a walk. -/
import Derived.Test.YtgjgjgihceijnaaScLongest
import Derived.Laws.StructEq
namespace Go.Stn
/-- Three numbers, as a stand (a condition, a state, a place) or a token lies in memory. -/
def cells3 (l : List (Int × Int × Int)) : List Value := l.flatMap fun x => [.int .i64 x.1, .int .i64 x.2.1, .int .i64 x.2.2]

theorem cells3_length (l : List (Int × Int × Int)) : (cells3 l).length = l.length * 3 := by
  induction l with
  | nil => rfl
  | cons a r ih => simp only [cells3, List.flatMap_cons, List.length_append, List.length_cons, List.length_nil] at *; omega

theorem cells3_get (l : List (Int × Int × Int)) (k : Nat) (x : Int × Int × Int) (h : l[k]? = some x) :
    (cells3 l)[k * 3]? = some (.int .i64 x.1) ∧ (cells3 l)[k * 3 + 1]? = some (.int .i64 x.2.1) ∧ (cells3 l)[k * 3 + 2]? = some (.int .i64 x.2.2) := by
  induction l generalizing k with
  | nil => simp at h
  | cons a r ih =>
    cases k with
    | zero => simp at h; subst h; simp [cells3]
    | succ n =>
      have := ih n (by simpa using h)
      have e : cells3 (a :: r) = [.int .i64 a.1, .int .i64 a.2.1, .int .i64 a.2.2] ++ cells3 r := rfl
      rw [e]
      have e1 : (n + 1) * 3 = n * 3 + 3 := by omega
      rw [e1, List.getElem?_append_right (by simp), List.getElem?_append_right (by simp only [List.length_cons, List.length_nil]; omega), List.getElem?_append_right (by simp only [List.length_cons, List.length_nil]; omega)]
      simp only [List.length_cons, List.length_nil]
      have a1 : n * 3 + 3 - (0 + 1 + 1 + 1) = n * 3 := by omega
      have a2 : n * 3 + 3 + 1 - (0 + 1 + 1 + 1) = n * 3 + 1 := by omega
      have a3 : n * 3 + 3 + 2 - (0 + 1 + 1 + 1) = n * 3 + 2 := by omega
      rw [a1, a2, a3]
      exact this

theorem cells3_snoc (l : List (Int × Int × Int)) (x : Int × Int × Int) : cells3 (l ++ [x]) = cells3 l ++ [.int .i64 x.1, .int .i64 x.2.1, .int .i64 x.2.2] := by
  simp [cells3]
theorem cells3_append (l m : List (Int × Int × Int)) : cells3 (l ++ m) = cells3 l ++ cells3 m := by
  simp [cells3]
end Go.Stn
namespace Go.Proofs.Ytgjgjgihceijnaa
open Go.RowKit Go.Stn

theorem below_of_drew {B : Nat} {w w' : World} (h : Below B w.drew w') : Below B w w' := ⟨h.os, h.tape, h.output, h.size, h.block⟩

/-- A row of three-celled elements that can be read: nil, or cells in a block below B. -/
structure Row3 (w : World) (B : Nat) (v : Value) (l : List (Int × Int × Int)) : Prop where
  sh : (v = .slice none 0 0 ∧ l = []) ∨ ∃ g cap, v = .slice (some ⟨g, 0, none⟩) l.length cap ∧ g < B ∧ l.length ≤ cap ∧ cap ≤ maxLen ∧
    ∀ k x, l[k]? = some x → w.cell? ⟨g, k * 3, none⟩ = some (.int .i64 x.1) ∧ w.cell? ⟨g, k * 3 + 1, none⟩ = some (.int .i64 x.2.1) ∧ w.cell? ⟨g, k * 3 + 2, none⟩ = some (.int .i64 x.2.2)

theorem ownsRow_row3 {w : World} {base e : Nat} {v : Value} {n : Nat} {l : List (Int × Int × Int)} (h : w.ownsRow base e 3 v n (cells3 l)) : Row3 w w.heap.size v l := by
  have hn : n = l.length := by have := h.1; rw [cells3_length] at this; omega
  subst hn
  refine ⟨?_⟩
  rcases h.2 with ⟨rfl, h0⟩ | ⟨g, cap, cur, rfl, hb, hg, hnc, hcm, hcs, htake⟩
  · exact .inl ⟨rfl, List.eq_nil_of_length_eq_zero h0⟩
  · refine .inr ⟨g, cap, rfl, (Array.getElem?_eq_some_iff.1 hg).1, hnc, hcm, fun k x hx => ?_⟩
    have hc := h.cells (g := g) rfl
    have hadd : ∀ j, (⟨g, 0, none⟩ : Addr).add j = ⟨g, j, none⟩ := fun j => by unfold Addr.add; split <;> simp_all
    obtain ⟨a1, a2, a3⟩ := cells3_get l k x hx
    have b1 := hc _ _ a1
    have b2 := hc _ _ a2
    have b3 := hc _ _ a3
    rw [hadd] at b1 b2 b3
    exact ⟨b1, b2, b3⟩

theorem Row3.below {w w' : World} {B B' : Nat} {v : Value} {l : List (Int × Int × Int)} (h : Row3 w B v l) (hB : Below B' w w') (hle : B ≤ B') : Row3 w' B v l := by
  refine ⟨?_⟩
  rcases h.sh with hn | ⟨g, cap, hv, hg, h1, h2, hc⟩
  · exact .inl hn
  · refine .inr ⟨g, cap, hv, hg, h1, h2, fun k x hx => ?_⟩
    obtain ⟨a1, a2, a3⟩ := hc k x hx
    exact ⟨(hB.cell (p := ⟨g, k * 3, none⟩) (by show g < B'; omega)).trans a1, (hB.cell (p := ⟨g, k * 3 + 1, none⟩) (by show g < B'; omega)).trans a2, (hB.cell (p := ⟨g, k * 3 + 2, none⟩) (by show g < B'; omega)).trans a3⟩

set_option maxRecDepth 100000 in
set_option maxHeartbeats 1000000 in
theorem has_any (l : List (Int × Int × Int)) (v : Value) (x y z : Int) (w : World) (hl : l.length ≤ 1000000) (hr : Row3 w w.heap.size v l) :
    Calls Try.prog 98 #[v, .agg #[.int .i64 x, .int .i64 y, .int .i64 z]] w fun e w' => e = .returned (.bool (memB l (x, y, z))) ∧ Below w.heap.size w w' := by
  rcases hr.sh with ⟨rfl, rfl⟩ | ⟨g, cap, rfl, hg, h1, h2, hcells⟩
  · go_enter Try.func98, Try.ntmps98
    go_wp2_with fail
    go_loop [5] (fun i => i = .int .i64 0) (fun _ => 0)
    case atStart => rfl
    case round =>
      subst hrel
      go_wp2
      go_ret
      exact ⟨rfl, (Below.refl _ _).alloc (Nat.le_refl _) _⟩
  · have hx0 : (w.alloc (.cells #[.int .i64 x, .int .i64 y, .int .i64 z] 207)).cell? ⟨w.heap.size, 0, none⟩ = some (.int .i64 x) := by rw [World.cell?_alloc_new]; rfl
    have hx1 : (w.alloc (.cells #[.int .i64 x, .int .i64 y, .int .i64 z] 207)).cell? ⟨w.heap.size, 1, none⟩ = some (.int .i64 y) := by rw [World.cell?_alloc_new]; rfl
    have hx2 : (w.alloc (.cells #[.int .i64 x, .int .i64 y, .int .i64 z] 207)).cell? ⟨w.heap.size, 2, none⟩ = some (.int .i64 z) := by rw [World.cell?_alloc_new]; rfl
    have HC : Hid (∀ k u, l[k]? = some u → (w.alloc (.cells #[.int .i64 x, .int .i64 y, .int .i64 z] 207)).cell? ⟨g, k * 3, none⟩ = some (.int .i64 u.1) ∧
        (w.alloc (.cells #[.int .i64 x, .int .i64 y, .int .i64 z] 207)).cell? ⟨g, k * 3 + 1, none⟩ = some (.int .i64 u.2.1) ∧ (w.alloc (.cells #[.int .i64 x, .int .i64 y, .int .i64 z] 207)).cell? ⟨g, k * 3 + 2, none⟩ = some (.int .i64 u.2.2)) := by
      intro k u hu
      rw [World.cell?_alloc_past (hn := hg), World.cell?_alloc_past (hn := hg), World.cell?_alloc_past (hn := hg)]
      exact hcells k u hu
    have hbel : Below w.heap.size w (w.alloc (.cells #[.int .i64 x, .int .i64 y, .int .i64 z] 207)) := (Below.refl _ _).alloc (Nat.le_refl _) _
    clear hcells hr
    go_enter Try.func98, Try.ntmps98
    go_wp2_with fail
    generalize w.alloc (.cells #[.int .i64 x, .int .i64 y, .int .i64 z] 207) = W at *
    go_loopw [5] (fun i w' => ∃ k q : Nat, k ≤ l.length ∧ i = .int .i64 (k : Int) ∧ w' = W.drewN q ∧ ∀ j, j < k → l[j]? ≠ some (x, y, z)) (fun i _ => l.length - (intOf i).toNat)
    case atStart => exact ⟨0, 0, Nat.zero_le _, rfl, rfl, fun j h => absurd h (Nat.not_lt_zero _)⟩
    case round =>
      obtain ⟨k, q, hk, rfl, rfl, hall⟩ := hrel
      have HA : Hid (∀ j, j < k → l[j]? ≠ some (x, y, z)) := hall
      clear hall
      by_cases hlt : k < l.length
      · obtain ⟨⟨a, b, c⟩, hu⟩ : ∃ u, l[k]? = some u := ⟨_, List.getElem?_eq_getElem hlt⟩
        obtain ⟨k0, k1, k2⟩ := HC.out k _ hu
        have HU : Hid (l[k]? = some (a, b, c)) := hu
        clear hu
        simp only at k0 k1 k2
        have hkI : (0 : Int) ≤ (k : Int) ∧ (k : Int) < (l.length : Int) := by omega
        have key : ((a == x) = true ∧ (b == y) = true ∧ (c == z) = true) ∨ (((a == x) = false) ∨ ((a == x) = true ∧ (b == y) = false) ∨ ((a == x) = true ∧ (b == y) = true ∧ (c == z) = false)) := by
          cases (a == x) <;> cases (b == y) <;> cases (c == z) <;> simp
        rcases key with ⟨e1, e2, e3⟩ | key
        · have hin : l.contains (x, y, z) = true := by
            have h1 : (a, b, c) = (x, y, z) := by rw [beq_iff_eq.1 e1, beq_iff_eq.1 e2, beq_iff_eq.1 e3]
            rw [List.contains_iff_mem, ← h1]
            exact List.mem_of_getElem? HU.out
          have HI : Hid (memB l (x, y, z) = true) := hin
          clear hin
          go_wp2
          go_quiet (fail)
          go_wp2
          go_ret
          exact ⟨by rw [HI.out]; rfl, below_drewN (below_drewN hbel _) _⟩
        · have hne : (a, b, c) ≠ (x, y, z) := by
            intro h
            injection h with h1 h2
            injection h2 with h2 h3
            subst h1 h2 h3
            simp at key
          have HN : Hid ((a, b, c) ≠ (x, y, z)) := hne
          clear hne
          rcases key with e1 | ⟨e1, e2⟩ | ⟨e1, e2, e3⟩
          all_goals
            go_wp2
            go_quiet (fail)
            go_wp2
            go_roundw
            case rel =>
              refine ⟨k + 1, _, hlt, by go_num, rfl, fun j hj => ?_⟩
              by_cases ej : j = k
              · rw [ej, HU.out]; intro h; exact HN.out (Option.some.inj h)
              · exact HA.out j (by omega)
            case measure => simp [intOf]; omega
      · have hno : l.contains (x, y, z) = false := by
          rw [Bool.eq_false_iff]
          intro h
          rw [List.contains_iff_mem] at h
          obtain ⟨j, hj⟩ := List.mem_iff_getElem?.1 h
          have : j < l.length := (List.getElem?_eq_some_iff.1 hj).1
          exact HA.out j (by omega) hj
        have HI : Hid (memB l (x, y, z) = false) := hno
        clear hno
        go_wp2
        go_ret
        exact ⟨by rw [HI.out]; rfl, below_drewN hbel _⟩
end Go.Proofs.Ytgjgjgihceijnaa
