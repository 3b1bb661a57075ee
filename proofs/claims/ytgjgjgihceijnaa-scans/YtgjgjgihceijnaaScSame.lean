/- stencillaw.same: a walk. -/
import Derived.Test.YtgjgjgihceijnaaScScan
namespace Go.Proofs.Ytgjgjgihceijnaa
open Go.RowKit Go.Stn

theorem sameB_len {a b : List (Int × Int × Int)} (h : a.length ≠ b.length) : sameB a b = false := by
  unfold sameB; simp; intro e; exact h (by rw [e])
theorem sameB_yes {a b : List (Int × Int × Int)} (h : a.length = b.length) (he : ∀ k, k < a.length → a[k]? = b[k]?) : sameB a b = true := by
  unfold sameB; simp
  apply List.ext_getElem?
  intro k
  by_cases hk : k < a.length
  · exact he k hk
  · rw [List.getElem?_eq_none (by omega), List.getElem?_eq_none (by omega)]
theorem sameB_no {a b : List (Int × Int × Int)} {k : Nat} (he : a[k]? ≠ b[k]?) : sameB a b = false := by
  unfold sameB; simp; intro e; exact he (by rw [e])

set_option maxRecDepth 100000 in
set_option maxHeartbeats 1000000 in
theorem same_row (a b : List (Int × Int × Int)) (ga ca gb cb : Nat) (w : World) (ha : a.length ≤ 1000000) (_hb : b.length ≤ 1000000)
    (hac : ∀ k x, a[k]? = some x → w.cell? ⟨ga, k * 3, none⟩ = some (.int .i64 x.1) ∧ w.cell? ⟨ga, k * 3 + 1, none⟩ = some (.int .i64 x.2.1) ∧ w.cell? ⟨ga, k * 3 + 2, none⟩ = some (.int .i64 x.2.2))
    (hbc : ∀ k x, b[k]? = some x → w.cell? ⟨gb, k * 3, none⟩ = some (.int .i64 x.1) ∧ w.cell? ⟨gb, k * 3 + 1, none⟩ = some (.int .i64 x.2.1) ∧ w.cell? ⟨gb, k * 3 + 2, none⟩ = some (.int .i64 x.2.2)) :
    Calls Try.prog 27 #[.slice (some ⟨ga, 0, none⟩) a.length ca, .slice (some ⟨gb, 0, none⟩) b.length cb] w fun e w' => e = .returned (.bool (sameB a b)) ∧ ∃ q, w' = w.drewN q := by
  have HA := hid_mk hac
  have HB := hid_mk hbc
  clear hac hbc
  by_cases hlen : a.length = b.length
  · have hne : ((a.length : Int) != (b.length : Int)) = false := by rw [hlen]; simp
    go_enter Try.func27, Try.ntmps27
    have HLN := hid_mk hlen
    clear hlen
    go_wp2_with fail
    go_loopw [5] (fun i w' => ∃ k q : Nat, k ≤ a.length ∧ i = .int .i64 (k : Int) ∧ w' = w.drewN q ∧ ∀ j, j < k → a[j]? = b[j]?) (fun i _ => a.length - (intOf i).toNat)
    case atStart => exact ⟨0, 0, Nat.zero_le _, rfl, rfl, fun j h => absurd h (Nat.not_lt_zero _)⟩
    case round =>
      obtain ⟨k, q, hk, rfl, rfl, hall⟩ := hrel
      have HALL := hid_mk hall
      clear hall
      by_cases hlt : k < a.length
      · have hlt' : k < b.length := by have := HLN.out; omega
        obtain ⟨⟨x, y, z⟩, hx⟩ : ∃ u, a[k]? = some u := ⟨_, List.getElem?_eq_getElem hlt⟩
        obtain ⟨⟨x', y', z'⟩, hx'⟩ : ∃ u, b[k]? = some u := ⟨_, List.getElem?_eq_getElem hlt'⟩
        obtain ⟨k0, k1, k2⟩ := HA.out k _ hx
        obtain ⟨m0, m1, m2⟩ := HB.out k _ hx'
        have HX := hid_mk hx
        have HX' := hid_mk hx'
        clear hx hx'
        simp only at k0 k1 k2 m0 m1 m2
        have hkI : (0 : Int) ≤ (k : Int) ∧ (k : Int) < (a.length : Int) := by omega
        have hkI' : (0 : Int) ≤ (k : Int) ∧ (k : Int) < (b.length : Int) := by omega
        have key : ((x == x') = true ∧ (y == y') = true ∧ (z == z') = true) ∨ (((x == x') = false) ∨ ((x == x') = true ∧ (y == y') = false) ∨ ((x == x') = true ∧ (y == y') = true ∧ (z == z') = false)) := by
          cases (x == x') <;> cases (y == y') <;> cases (z == z') <;> simp
        rcases key with ⟨e1, e2, e3⟩ | key
        · have HE : Hid (a[k]? = b[k]?) := by
            unfold Hid
            rw [HX.out, HX'.out, beq_iff_eq.1 e1, beq_iff_eq.1 e2, beq_iff_eq.1 e3]
          go_wp2
          go_quiet (fail)
          go_wp2
          go_roundw
          case rel =>
            refine ⟨k + 1, _, hlt, by go_num, rfl, fun j hj => ?_⟩
            by_cases ej : j = k
            · rw [ej]; exact HE.out
            · exact HALL.out j (by omega)
          case measure => simp [intOf]; omega
        · have HN : Hid (sameB a b = false) := by
            refine sameB_no (k := k) ?_
            rw [HX.out, HX'.out]
            intro h
            injection h with h
            injection h with h1 h2
            injection h2 with h2 h3
            subst h1 h2 h3
            simp at key
          rcases key with e1 | ⟨e1, e2⟩ | ⟨e1, e2, e3⟩
          all_goals
            go_wp2
            go_quiet (fail)
            go_wp2
            go_ret
            exact ⟨by rw [HN.out]; rfl, q + nq, by first | rfl | simp⟩
      · have HY : Hid (sameB a b = true) := sameB_yes HLN.out (fun j hj => HALL.out j (by omega))
        go_wp2
        go_ret
        exact ⟨by rw [HY.out]; rfl, q, rfl⟩
  · have hne : ((a.length : Int) != (b.length : Int)) = true := by rw [bne_iff_ne]; omega
    have HN : Hid (sameB a b = false) := sameB_len hlen
    clear hlen
    go_enter Try.func27, Try.ntmps27
    go_wp2
    go_ret
    exact ⟨by rw [HN.out]; rfl, 0, rfl⟩

/-- The same of an empty list and whatever. -/
theorem same_nil (va vb : Option Addr) (n m ca cb : Nat) (w : World) (h : n = 0 ∨ m = 0) (hn : n ≤ 1000000) (hm : m ≤ 1000000) :
    Calls Try.prog 27 #[.slice va n ca, .slice vb m cb] w fun e w' => e = .returned (.bool (decide (n = m))) ∧ ∃ q, w' = w.drewN q := by
  by_cases e : n = m
  · have e0 : n = 0 := by omega
    subst e
    subst e0
    go_enter Try.func27, Try.ntmps27
    go_wp2_with fail
    go_loop [5] (fun i => i = .int .i64 0) (fun _ => 0)
    case atStart => rfl
    case round =>
      subst hrel
      go_wp2
      go_ret
      exact ⟨rfl, 0, rfl⟩
  · have hne : ((n : Int) != (m : Int)) = true := by rw [bne_iff_ne]; omega
    have hd : decide (n = m) = false := by simp [e]
    rw [hd]
    clear hd e h
    go_enter Try.func27, Try.ntmps27
    go_wp2
    go_ret
    exact ⟨rfl, 0, rfl⟩

theorem same_any (a b : List (Int × Int × Int)) (va vb : Value) (B B' : Nat) (w : World) (ha : a.length ≤ 1000000) (hb : b.length ≤ 1000000) (ra : Row3 w B va a) (rb : Row3 w B' vb b) :
    Calls Try.prog 27 #[va, vb] w fun e w' => e = .returned (.bool (sameB a b)) ∧ ∃ q, w' = w.drewN q := by
  rcases ra.sh with ⟨rfl, rfl⟩ | ⟨ga, ca, rfl, _, _, _, hca⟩
  · rcases rb.sh with ⟨rfl, rfl⟩ | ⟨gb, cb, rfl, _, _, _, hcb⟩
    · exact same_nil none none 0 0 0 0 w (.inl rfl) (by omega) (by omega)
    · have e : sameB [] b = decide (0 = b.length) := by
        unfold sameB; rw [Bool.eq_iff_iff]; simp
        constructor
        · intro h; rw [h]; rfl
        · intro h; exact List.eq_nil_of_length_eq_zero h.symm
      rw [e]
      exact same_nil none _ 0 b.length 0 cb w (.inl rfl) (by omega) hb
  · rcases rb.sh with ⟨rfl, rfl⟩ | ⟨gb, cb, rfl, _, _, _, hcb⟩
    · have e : sameB a [] = decide (a.length = 0) := by
        unfold sameB; rw [Bool.eq_iff_iff]; simp
      rw [e]
      exact same_nil _ none a.length 0 ca 0 w (.inr rfl) ha (by omega)
    · exact same_row a b ga ca gb cb w ha hb hca hcb
end Go.Proofs.Ytgjgjgihceijnaa
