/- Texts put together: ScHas, ScCut, CuW, CuPure, CuLook. -/
import Derived.Test.YtgjgjgihceijnaaGreatG04
import Derived.Laws.StructEq
import Derived.Deep.CutBlock
namespace Go.Stn
/-- Three numbers, as a stand (a condition, a state, a place) or a token lies in memory. -/
def cells3 (l : List (Int × Int × Int)) : List Value := l.flatMap fun x => [.int .i64 x.1, .int .i64 x.2.1, .int .i64 x.2.2]

theorem cells3_length (l : List (Int × Int × Int)) : (cells3 l).length = l.length * 3 := by
  induction l with
  | nil => rfl
  | cons a r ih => simp only [cells3, List.flatMap_cons, List.length_append, List.length_cons, List.length_nil] at *; omega

theorem cells3_get (l : List (Int × Int × Int)) (k : Nat) (x : Int × Int × Int) (h : l[k]? = some x) :
    (cells3 l)[k * 3]? = some (.int .i64 x.1) ∧ (cells3 l)[k * 3 + 1]? = some (.int .i64 x.2.1) ∧ (cells3 l)[k * 3 + 2]? = some (.int .i64 x.2.2) := by
  induction l generalizing k with
  | nil => simp at h
  | cons a r ih =>
    cases k with
    | zero => simp at h; subst h; simp [cells3]
    | succ n =>
      have := ih n (by simpa using h)
      have e : cells3 (a :: r) = [.int .i64 a.1, .int .i64 a.2.1, .int .i64 a.2.2] ++ cells3 r := rfl
      rw [e]
      have e1 : (n + 1) * 3 = n * 3 + 3 := by omega
      rw [e1, List.getElem?_append_right (by simp), List.getElem?_append_right (by simp only [List.length_cons, List.length_nil]; omega), List.getElem?_append_right (by simp only [List.length_cons, List.length_nil]; omega)]
      simp only [List.length_cons, List.length_nil]
      have a1 : n * 3 + 3 - (0 + 1 + 1 + 1) = n * 3 := by omega
      have a2 : n * 3 + 3 + 1 - (0 + 1 + 1 + 1) = n * 3 + 1 := by omega
      have a3 : n * 3 + 3 + 2 - (0 + 1 + 1 + 1) = n * 3 + 2 := by omega
      rw [a1, a2, a3]
      exact this

theorem cells3_snoc (l : List (Int × Int × Int)) (x : Int × Int × Int) : cells3 (l ++ [x]) = cells3 l ++ [.int .i64 x.1, .int .i64 x.2.1, .int .i64 x.2.2] := by
  simp [cells3]
theorem cells3_append (l m : List (Int × Int × Int)) : cells3 (l ++ m) = cells3 l ++ cells3 m := by
  simp [cells3]
end Go.Stn
namespace Go.Proofs.YtgjgjgihceijnaaGreat
open Go.RowKit Go.Stn

theorem below_of_drew {B : Nat} {w w' : World} (h : Below B w.drew w') : Below B w w' := ⟨h.os, h.tape, h.output, h.size, h.block⟩

/-- A row of three-celled elements that can be read: nil, or cells in a block below B. -/
structure Row3 (w : World) (B : Nat) (v : Value) (l : List (Int × Int × Int)) : Prop where
  sh : (v = .slice none 0 0 ∧ l = []) ∨ ∃ g cap, v = .slice (some ⟨g, 0, none⟩) l.length cap ∧ g < B ∧ l.length ≤ cap ∧ cap ≤ maxLen ∧
    ∀ k x, l[k]? = some x → w.cell? ⟨g, k * 3, none⟩ = some (.int .i64 x.1) ∧ w.cell? ⟨g, k * 3 + 1, none⟩ = some (.int .i64 x.2.1) ∧ w.cell? ⟨g, k * 3 + 2, none⟩ = some (.int .i64 x.2.2)

theorem ownsRow_row3 {w : World} {base e : Nat} {v : Value} {n : Nat} {l : List (Int × Int × Int)} (h : w.ownsRow base e 3 v n (cells3 l)) : Row3 w w.heap.size v l := by
  have hn : n = l.length := by have := h.1; rw [cells3_length] at this; omega
  subst hn
  refine ⟨?_⟩
  rcases h.2 with ⟨rfl, h0⟩ | ⟨g, cap, cur, rfl, hb, hg, hnc, hcm, hcs, htake⟩
  · exact .inl ⟨rfl, List.eq_nil_of_length_eq_zero h0⟩
  · refine .inr ⟨g, cap, rfl, (Array.getElem?_eq_some_iff.1 hg).1, hnc, hcm, fun k x hx => ?_⟩
    have hc := h.cells (g := g) rfl
    have hadd : ∀ j, (⟨g, 0, none⟩ : Addr).add j = ⟨g, j, none⟩ := fun j => by unfold Addr.add; split <;> simp_all
    obtain ⟨a1, a2, a3⟩ := cells3_get l k x hx
    have b1 := hc _ _ a1
    have b2 := hc _ _ a2
    have b3 := hc _ _ a3
    rw [hadd] at b1 b2 b3
    exact ⟨b1, b2, b3⟩

set_option maxRecDepth 100000 in
set_option maxHeartbeats 1000000 in
theorem has_any (l : List (Int × Int × Int)) (v : Value) (x y z : Int) (w : World) (hl : l.length ≤ 1000000) (hr : Row3 w w.heap.size v l) :
    Calls Tryz.prog 124 #[v, .agg #[.int .i64 x, .int .i64 y, .int .i64 z]] w fun e w' => e = .returned (.bool (memB l (x, y, z))) ∧ Below w.heap.size w w' := by
  rcases hr.sh with ⟨rfl, rfl⟩ | ⟨g, cap, rfl, hg, h1, h2, hcells⟩
  · go_enter Tryz.func124, Tryz.ntmps124
    go_wp2_with fail
    go_loop [5] (fun i => i = .int .i64 0) (fun _ => 0)
    case atStart => rfl
    case round =>
      subst hrel
      go_wp2
      go_ret
      exact ⟨rfl, (Below.refl _ _).alloc (Nat.le_refl _) _⟩
  · have hx0 : (w.alloc (.cells #[.int .i64 x, .int .i64 y, .int .i64 z] 234)).cell? ⟨w.heap.size, 0, none⟩ = some (.int .i64 x) := by rw [World.cell?_alloc_new]; rfl
    have hx1 : (w.alloc (.cells #[.int .i64 x, .int .i64 y, .int .i64 z] 234)).cell? ⟨w.heap.size, 1, none⟩ = some (.int .i64 y) := by rw [World.cell?_alloc_new]; rfl
    have hx2 : (w.alloc (.cells #[.int .i64 x, .int .i64 y, .int .i64 z] 234)).cell? ⟨w.heap.size, 2, none⟩ = some (.int .i64 z) := by rw [World.cell?_alloc_new]; rfl
    have HC : Hid (∀ k u, l[k]? = some u → (w.alloc (.cells #[.int .i64 x, .int .i64 y, .int .i64 z] 234)).cell? ⟨g, k * 3, none⟩ = some (.int .i64 u.1) ∧
        (w.alloc (.cells #[.int .i64 x, .int .i64 y, .int .i64 z] 234)).cell? ⟨g, k * 3 + 1, none⟩ = some (.int .i64 u.2.1) ∧ (w.alloc (.cells #[.int .i64 x, .int .i64 y, .int .i64 z] 234)).cell? ⟨g, k * 3 + 2, none⟩ = some (.int .i64 u.2.2)) := by
      intro k u hu
      rw [World.cell?_alloc_past (hn := hg), World.cell?_alloc_past (hn := hg), World.cell?_alloc_past (hn := hg)]
      exact hcells k u hu
    have hbel : Below w.heap.size w (w.alloc (.cells #[.int .i64 x, .int .i64 y, .int .i64 z] 234)) := (Below.refl _ _).alloc (Nat.le_refl _) _
    clear hcells hr
    go_enter Tryz.func124, Tryz.ntmps124
    go_wp2_with fail
    generalize w.alloc (.cells #[.int .i64 x, .int .i64 y, .int .i64 z] 234) = W at *
    go_loopw [5] (fun i w' => ∃ k q : Nat, k ≤ l.length ∧ i = .int .i64 (k : Int) ∧ w' = W.drewN q ∧ ∀ j, j < k → l[j]? ≠ some (x, y, z)) (fun i _ => l.length - (intOf i).toNat)
    case atStart => exact ⟨0, 0, Nat.zero_le _, rfl, rfl, fun j h => absurd h (Nat.not_lt_zero _)⟩
    case round =>
      obtain ⟨k, q, hk, rfl, rfl, hall⟩ := hrel
      have HA : Hid (∀ j, j < k → l[j]? ≠ some (x, y, z)) := hall
      clear hall
      by_cases hlt : k < l.length
      · obtain ⟨⟨a, b, c⟩, hu⟩ : ∃ u, l[k]? = some u := ⟨_, List.getElem?_eq_getElem hlt⟩
        obtain ⟨k0, k1, k2⟩ := HC.out k _ hu
        have HU : Hid (l[k]? = some (a, b, c)) := hu
        clear hu
        simp only at k0 k1 k2
        have hkI : (0 : Int) ≤ (k : Int) ∧ (k : Int) < (l.length : Int) := by omega
        have key : ((a == x) = true ∧ (b == y) = true ∧ (c == z) = true) ∨ (((a == x) = false) ∨ ((a == x) = true ∧ (b == y) = false) ∨ ((a == x) = true ∧ (b == y) = true ∧ (c == z) = false)) := by
          cases (a == x) <;> cases (b == y) <;> cases (c == z) <;> simp
        rcases key with ⟨e1, e2, e3⟩ | key
        · have hin : l.contains (x, y, z) = true := by
            have h1 : (a, b, c) = (x, y, z) := by rw [beq_iff_eq.1 e1, beq_iff_eq.1 e2, beq_iff_eq.1 e3]
            rw [List.contains_iff_mem, ← h1]
            exact List.mem_of_getElem? HU.out
          have HI : Hid (memB l (x, y, z) = true) := hin
          clear hin
          go_wp2
          go_quiet (fail)
          go_wp2
          go_ret
          exact ⟨by rw [HI.out]; rfl, _root_.Go.below_drewN (_root_.Go.below_drewN hbel _) _⟩
        · have hne : (a, b, c) ≠ (x, y, z) := by
            intro h
            injection h with h1 h2
            injection h2 with h2 h3
            subst h1 h2 h3
            simp at key
          have HN : Hid ((a, b, c) ≠ (x, y, z)) := hne
          clear hne
          rcases key with e1 | ⟨e1, e2⟩ | ⟨e1, e2, e3⟩
          all_goals
            go_wp2
            go_quiet (fail)
            go_wp2
            go_roundw
            case rel =>
              refine ⟨k + 1, _, hlt, by go_num, rfl, fun j hj => ?_⟩
              by_cases ej : j = k
              · rw [ej, HU.out]; intro h; exact HN.out (Option.some.inj h)
              · exact HA.out j (by omega)
            case measure => simp [intOf]; omega
      · have hno : l.contains (x, y, z) = false := by
          rw [Bool.eq_false_iff]
          intro h
          rw [List.contains_iff_mem] at h
          obtain ⟨j, hj⟩ := List.mem_iff_getElem?.1 h
          have : j < l.length := (List.getElem?_eq_some_iff.1 hj).1
          exact HA.out j (by omega) hj
        have HI : Hid (memB l (x, y, z) = false) := hno
        clear hno
        go_wp2
        go_ret
        exact ⟨by rw [HI.out]; rfl, _root_.Go.below_drewN hbel _⟩
end Go.Proofs.YtgjgjgihceijnaaGreat

namespace Go.Proofs.YtgjgjgihceijnaaGreat
open Go.RowKit Go.Stn

/-- The cut that lies at block cb: its image at ib, its input, its condition, what is hopeless (H), the steps, what was told (T). All its blocks lie below top. -/
structure CutAt (w : World) (cb base top ib : Nat) (inp : ByteArray) (c : Nat) (H : List (Int × Int × Int)) (n : Nat) (T : List (Int × Int × Int)) (vh vt : Value) : Prop where
  c0 : w.cell? ⟨cb, 0, none⟩ = some (.pointer (some ⟨ib, 0, none⟩))
  c1 : w.cell? ⟨cb, 1, none⟩ = some (.string inp)
  c2 : w.cell? ⟨cb, 2, none⟩ = some (.int .i64 c)
  c3 : w.cell? ⟨cb, 3, none⟩ = some vh
  c4 : w.cell? ⟨cb, 4, none⟩ = some (.int .i64 n)
  c5 : w.cell? ⟨cb, 5, none⟩ = some vt
  fz : ∀ i, w.frozen? ⟨cb, i, none⟩ = false
  rh : w.ownsRow base 234 3 vh H.length (cells3 H)
  rt : w.ownsRow base 79 3 vt T.length (cells3 T)
  hb : cb < base
  hz : top ≤ w.heap.size
  hbt : base ≤ top
  lh : ∀ k, vh.ownBlock = some k → k < top
  lt : ∀ k, vt.ownBlock = some k → k < top
  ap : vh.ownBlock = none ∨ vh.ownBlock ≠ vt.ownBlock

variable {w w' : World} {cb base top ib : Nat} {inp : ByteArray} {c : Nat} {H : List (Int × Int × Int)} {n : Nat} {T : List (Int × Int × Int)} {vh vt : Value}

theorem CutAt.below (h : CutAt w cb base top ib inp c H n T vh vt) (hB : Below top w w') : CutAt w' cb base top ib inp c H n T vh vt := by
  have hb := h.hb
  have hbt := h.hbt
  have hcb : cb < top := by omega
  have cl : ∀ i, w'.cell? ⟨cb, i, none⟩ = w.cell? ⟨cb, i, none⟩ := fun i => hB.cell (p := ⟨cb, i, none⟩) hcb
  have row : ∀ (v : Value) (m : Nat) (xs : List Value) (e : TypeId), w.ownsRow base e 3 v m xs → (∀ k, v.ownBlock = some k → k < top) → w'.ownsRow base e 3 v m xs := fun v m xs e hr hl => by
    refine ⟨hr.1, ?_⟩
    rcases hr.2 with hn | ⟨g, cap, cur, rfl, hbg, hg, rest⟩
    · exact .inl hn
    · exact .inr ⟨g, cap, cur, rfl, hbg, (hB.block g (hl g rfl)).trans hg, rest⟩
  exact ⟨(cl 0).trans h.c0, (cl 1).trans h.c1, (cl 2).trans h.c2, (cl 3).trans h.c3, (cl 4).trans h.c4, (cl 5).trans h.c5,
    fun i => (hB.frozen (p := ⟨cb, i, none⟩) hcb).trans (h.fz i), row _ _ _ _ h.rh h.lh, row _ _ _ _ h.rt h.lt, h.hb, Nat.le_trans h.hz hB.size, h.hbt, h.lh, h.lt, h.ap⟩

theorem CutAt.drewN (h : CutAt w cb base top ib inp c H n T vh vt) (q : Nat) : CutAt (w.drewN q) cb base top ib inp c H n T vh vt :=
  ⟨h.c0, h.c1, h.c2, h.c3, h.c4, h.c5, h.fz, h.rh, h.rt, h.hb, h.hz, h.hbt, h.lh, h.lt, h.ap⟩

theorem CutAt.other (h : CutAt w cb base top ib inp c H n T vh vt) (i : Nat) (v : Value) : ∀ j u, j ≠ i → w.cell? ⟨cb, j, none⟩ = some u → (w.setCell ⟨cb, i, none⟩ v).cell? ⟨cb, j, none⟩ = some u := fun j u hj hu => by
  have _ := h
  rw [World.cell?_setCell_other (h := by intro e; injection e; omega)]; exact hu

/-- The steps are stored. -/
theorem CutAt.steps (h : CutAt w cb base top ib inp c H n T vh vt) (m : Nat) : CutAt (w.setCell ⟨cb, 4, none⟩ (.int .i64 m)) cb base top ib inp c H m T vh vt := by
  have o := h.other 4 (.int .i64 m)
  refine ⟨o 0 _ (by omega) h.c0, o 1 _ (by omega) h.c1, o 2 _ (by omega) h.c2, o 3 _ (by omega) h.c3, World.cell?_setCell_same _ _ _ h.c4, o 5 _ (by omega) h.c5,
    fun i => by rw [World.frozen?_setCell]; exact h.fz i, ownsRow_setCell_below h.rh h.hb _, ownsRow_setCell_below h.rt h.hb _, h.hb, ?_, h.hbt, h.lh, h.lt, h.ap⟩
  have := h.hz
  simp [World.setCell]; omega

/-- The condition is stored. -/
theorem CutAt.cond (h : CutAt w cb base top ib inp c H n T vh vt) (m : Nat) : CutAt (w.setCell ⟨cb, 2, none⟩ (.int .i64 m)) cb base top ib inp m H n T vh vt := by
  have o := h.other 2 (.int .i64 m)
  refine ⟨o 0 _ (by omega) h.c0, o 1 _ (by omega) h.c1, World.cell?_setCell_same _ _ _ h.c2, o 3 _ (by omega) h.c3, o 4 _ (by omega) h.c4, o 5 _ (by omega) h.c5,
    fun i => by rw [World.frozen?_setCell]; exact h.fz i, ownsRow_setCell_below h.rh h.hb _, ownsRow_setCell_below h.rt h.hb _, h.hb, ?_, h.hbt, h.lh, h.lt, h.ap⟩
  have := h.hz
  simp [World.setCell]; omega

/-- All lies below the heap's size. -/
theorem CutAt.raise (h : CutAt w cb base top ib inp c H n T vh vt) : CutAt w cb base w.heap.size ib inp c H n T vh vt := by
  have hz := h.hz
  have hbt := h.hbt
  exact ⟨h.c0, h.c1, h.c2, h.c3, h.c4, h.c5, h.fz, h.rh, h.rt, h.hb, Nat.le_refl _, by omega, fun k hk => by have := h.lh k hk; omega, fun k hk => by have := h.lt k hk; omega, h.ap⟩

/-- What is hopeless is stored as it was. -/
theorem CutAt.again3 (h : CutAt w cb base top ib inp c H n T vh vt) : CutAt (w.setCell ⟨cb, 3, none⟩ vh) cb base top ib inp c H n T vh vt := by
  have o := h.other 3 vh
  refine ⟨o 0 _ (by omega) h.c0, o 1 _ (by omega) h.c1, o 2 _ (by omega) h.c2, World.cell?_setCell_same _ _ _ h.c3, o 4 _ (by omega) h.c4, o 5 _ (by omega) h.c5,
    fun i => by rw [World.frozen?_setCell]; exact h.fz i, ownsRow_setCell_below h.rh h.hb _, ownsRow_setCell_below h.rt h.hb _, h.hb, ?_, h.hbt, h.lh, h.lt, h.ap⟩
  have := h.hz
  simp [World.setCell]; omega

/-- One step more is stored. -/
theorem CutAt.step1 (h : CutAt w cb base top ib inp c H n T vh vt) : CutAt (w.setCell ⟨cb, 4, none⟩ (.int .i64 ((n : Int) + 1))) cb base top ib inp c H (n + 1) T vh vt :=
  h.steps (n + 1)

theorem ownsRow_below {w w' : World} {base : Nat} {e : TypeId} {size : Nat} {v : Value} {m : Nat} {xs : List Value} {B : Nat} (h : w.ownsRow base e size v m xs) (hB : Below B w w') (hz : w.heap.size ≤ B) : w'.ownsRow base e size v m xs := by
  refine ⟨h.1, ?_⟩
  rcases h.2 with hn | ⟨g, cap, cur, rfl, hbg, hg, rest⟩
  · exact .inl hn
  · have hlt : g < w.heap.size := (Array.getElem?_eq_some_iff.1 hg).1
    exact .inr ⟨g, cap, cur, rfl, hbg, (hB.block g (by omega)).trans hg, rest⟩

theorem hid_mk {p : Prop} (h : p) : Hid p := h

theorem ownsRow_shape {w : World} {base : Nat} {e : TypeId} {size : Nat} {v : Value} {m : Nat} {xs : List Value} (h : w.ownsRow base e size v m xs) : v = .slice none 0 0 ∨ ∃ g cap, v = .slice (some ⟨g, 0, none⟩) m cap := by
  rcases h.2 with ⟨e, _⟩ | ⟨g, cap, _, e, _⟩
  · exact .inl e
  · exact .inr ⟨g, cap, e⟩

theorem cells3_one (l : List (Int × Int × Int)) : ∀ u ∈ cells3 l, u.oneCell' = true := by
  intro u hu
  unfold cells3 at hu
  rw [List.mem_flatMap] at hu
  obtain ⟨x, _, hx⟩ := hu
  simp at hx
  rcases hx with rfl | rfl | rfl <;> rfl

/-- Behind an append to what is hopeless: the cells that the store asks for. -/
theorem CutAt.kept (h : CutAt w cb base top ib inp c H n T vh vt) {w1 : World} {row : Option Nat} (hr : ∀ k, row = some k → base ≤ k) (hg : w.grownBy w1 row) :
    (∀ i u, w.cell? ⟨cb, i, none⟩ = some u → w1.cell? ⟨cb, i, none⟩ = some u) ∧ ∀ i, w1.frozen? ⟨cb, i, none⟩ = false := by
  have hb := h.hb
  have hbt := h.hbt
  have hz := h.hz
  have hne : some cb ≠ row := fun e => by have := hr cb e.symm; omega
  exact ⟨fun i u hu => hg.cell hu hne, fun i => (hg.frozen_far ⟨cb, i, none⟩ (by show cb < _; omega) hne).trans (h.fz i)⟩

/-- What is hopeless grows: an append, and the store. -/
theorem CutAt.hope (h : CutAt w cb base top ib inp c H n T vh vt) {w1 : World} {S : List (Int × Int × Int)} {g m cap : Nat} (hm : m = H.length + S.length)
    (hown : w1.ownsRow base 234 3 (.slice (some ⟨g, 0, none⟩) m cap) m (cells3 H ++ cells3 S))
    (hgrow : w.grownBy w1 vh.ownBlock) (hat : vh.ownBlock = some g ∨ g = w.heap.size) (hgl : g < w1.heap.size) :
    CutAt (w1.setCell ⟨cb, 3, none⟩ (.slice (some ⟨g, 0, none⟩) m cap)) cb base w1.heap.size ib inp c (H ++ S) n T (.slice (some ⟨g, 0, none⟩) m cap) vt := by
  have hb := h.hb
  have hbt := h.hbt
  have hz := h.hz
  have hsz := hgrow.size
  obtain ⟨kc, kf⟩ := h.kept (fun k hk => (h.rh.lt k hk).1) hgrow
  have o : ∀ j u, j ≠ 3 → w.cell? ⟨cb, j, none⟩ = some u → (w1.setCell ⟨cb, 3, none⟩ (.slice (some ⟨g, 0, none⟩) m cap)).cell? ⟨cb, j, none⟩ = some u := fun j u hj hu => by
    rw [World.cell?_setCell_other (h := by intro e; injection e; omega)]; exact kc j u hu
  refine ⟨o 0 _ (by omega) h.c0, o 1 _ (by omega) h.c1, o 2 _ (by omega) h.c2, World.cell?_setCell_same _ _ _ (kc 3 _ h.c3), o 4 _ (by omega) h.c4, o 5 _ (by omega) h.c5,
    fun i => by rw [World.frozen?_setCell]; exact kf i, ?_, ?_, h.hb, by simp [World.setCell], by omega, ?_, ?_, ?_⟩
  · rw [List.length_append, ← hm, cells3_append]; exact ownsRow_setCell_below hown h.hb _
  · refine ownsRow_setCell_below (h.rt.kept hgrow ?_) h.hb _
    rcases h.ap with e | e
    · cases hv : vt.ownBlock with
      | none => exact .inl rfl
      | some k => right; rw [e]; simp
    · exact .inr (Ne.symm e)
  · intro k hk
    have : g = k := by simpa [Value.ownBlock] using hk
    omega
  · intro k hk; have := h.lt k hk; omega
  · right
    show some g ≠ vt.ownBlock
    intro e
    rcases hat with h1 | h1
    · rcases h.ap with e2 | e2
      · rw [e2] at h1; cases h1
      · exact e2 (h1.trans e)
    · have := h.lt g e.symm; omega

/-- A token is told: an append, and the store. -/
theorem CutAt.tell (h : CutAt w cb base top ib inp c H n T vh vt) {w1 : World} {o : Obj} {x : Int × Int × Int} {g cap : Nat}
    (hown : w1.ownsRow base 79 3 (.slice (some ⟨g, 0, none⟩) (T.length + 1) cap) (T.length + 1) (cells3 T ++ [.int .i64 x.1, .int .i64 x.2.1, .int .i64 x.2.2]))
    (hgrow : (w.alloc o).grownBy w1 vt.ownBlock) (hat : vt.ownBlock = some g ∨ g = w.heap.size + 1) (hgl : g < w1.heap.size) :
    CutAt (w1.setCell ⟨cb, 5, none⟩ (.slice (some ⟨g, 0, none⟩) (T.length + 1) cap)) cb base w1.heap.size ib inp c H n (T ++ [x]) vh (.slice (some ⟨g, 0, none⟩) (T.length + 1) cap) := by
  have h' : CutAt (w.alloc o) cb base top ib inp c H n T vh vt := h.below ((Below.refl _ _).alloc h.hz o)
  have hb := h.hb
  have hbt := h.hbt
  have hz := h.hz
  have hsz := hgrow.size
  simp at hsz
  obtain ⟨kc, kf⟩ := h'.kept (fun k hk => (h'.rt.lt k hk).1) hgrow
  have oo : ∀ j u, j ≠ 5 → (w.alloc o).cell? ⟨cb, j, none⟩ = some u → (w1.setCell ⟨cb, 5, none⟩ (.slice (some ⟨g, 0, none⟩) (T.length + 1) cap)).cell? ⟨cb, j, none⟩ = some u := fun j u hj hu => by
    rw [World.cell?_setCell_other (h := by intro e; injection e; omega)]; exact kc j u hu
  refine ⟨oo 0 _ (by omega) h'.c0, oo 1 _ (by omega) h'.c1, oo 2 _ (by omega) h'.c2, oo 3 _ (by omega) h'.c3, oo 4 _ (by omega) h'.c4, World.cell?_setCell_same _ _ _ (kc 5 _ h'.c5),
    fun i => by rw [World.frozen?_setCell]; exact kf i, ?_, ?_, h.hb, by simp [World.setCell], by omega, ?_, ?_, ?_⟩
  · refine ownsRow_setCell_below (h'.rh.kept hgrow ?_) h.hb _
    exact h.ap
  · rw [List.length_append, List.length_singleton, cells3_snoc]; exact ownsRow_setCell_below hown h.hb _
  · intro k hk; have := h.lh k hk; omega
  · intro k hk
    have : g = k := by simpa [Value.ownBlock] using hk
    omega
  · right
    show vh.ownBlock ≠ some g
    intro e
    rcases hat with h1 | h1
    · rcases h.ap with e2 | e2
      · rw [e2] at e; cases e
      · exact e2 (e.trans h1.symm)
    · have := h.lh g e; omega
end Go.Proofs.YtgjgjgihceijnaaGreat

namespace Go.Proofs.YtgjgjgihceijnaaGreat
open Go.RowKit Go.Stn

structure CW (w : World) (cb top : Nat) (s inp : ByteArray) (bb vg vcap : Nat) (yb : Nat → Nat) (zb : Nat → Nat → Nat) (vt : Value) (hg hcap : Nat) (hbk : Nat → Nat) (HT : Nat → Nat → Bool) (c p n : Nat) (T : List (Int × Int × Int)) : Prop where
  mem : IM w s bb vg yb zb cb
  im : w.rangeAt cb 0 (imgC (.slice (some ⟨bb, 0, none⟩) (iR s) (iR s)) (lClassOf s) (.slice (some ⟨vg, 0, none⟩) (iM s) vcap))
  k1 : w.cell? ⟨cb, 258, none⟩ = some (.string inp)
  k2 : w.cell? ⟨cb, 259, none⟩ = some (.int .i64 c)
  k3 : w.cell? ⟨cb, 260, none⟩ = some (.int .i64 p)
  k4 : w.cell? ⟨cb, 261, none⟩ = some (.int .i64 n)
  k5 : w.cell? ⟨cb, 262, none⟩ = some vt
  k6 : w.cell? ⟨cb, 263, none⟩ = some (.slice (some ⟨hg, 0, none⟩) (iM s) hcap)
  fz : ∀ i, w.frozen? ⟨cb, i, none⟩ = false
  rt : w.ownsRow (cb + 1) 79 3 vt T.length (cells3 T)
  hl : ∀ j, j < iM s → w.cell? ⟨hg, j, none⟩ = some (.slice (some ⟨hbk j, 0, none⟩) (nSt s j * inp.size) (nSt s j * inp.size))
  tb : ∀ j k, j < iM s → k < nSt s j * inp.size → w.cell? ⟨hbk j, k, none⟩ = some (.bool (HT j k)) ∧ w.frozen? ⟨hbk j, k, none⟩ = false
  b0 : cb < top
  b1 : cb < hg ∧ hg < top
  b2 : ∀ j, j < iM s → cb < hbk j ∧ hbk j < top ∧ hbk j ≠ hg
  bi : ∀ i j, i < iM s → j < iM s → hbk i = hbk j → i = j
  bv : ∀ k, vt.ownBlock = some k → k < top ∧ k ≠ hg ∧ ∀ j, j < iM s → k ≠ hbk j
  hz : top ≤ w.heap.size

variable {w w' : World} {cb top : Nat} {s inp : ByteArray} {bb vg vcap : Nat} {yb : Nat → Nat} {zb : Nat → Nat → Nat} {vt : Value} {hg hcap : Nat} {hbk : Nat → Nat} {HT : Nat → Nat → Bool} {c p n : Nat} {T : List (Int × Int × Int)}

theorem row_top {base : Nat} {e : TypeId} {size : Nat} {v : Value} {m : Nat} {xs : List Value} (hr : w.ownsRow base e size v m xs) (hB : ∀ k, v.ownBlock = some k → w'.heap[k]? = w.heap[k]?) : w'.ownsRow base e size v m xs := by
  refine ⟨hr.1, ?_⟩
  rcases hr.2 with hn | ⟨g, cap, cur, rfl, hbg, hg, rest⟩
  · exact .inl hn
  · exact .inr ⟨g, cap, cur, rfl, hbg, (hB g rfl).trans hg, rest⟩

theorem CW.below (h : CW w cb top s inp bb vg vcap yb zb vt hg hcap hbk HT c p n T) (hB : Below top w w') : CW w' cb top s inp bb vg vcap yb zb vt hg hcap hbk HT c p n T := by
  have b0 := h.b0
  have cl : ∀ i, w'.cell? ⟨cb, i, none⟩ = w.cell? ⟨cb, i, none⟩ := fun i => hB.cell (p := ⟨cb, i, none⟩) b0
  exact ⟨h.mem.below hB (by omega), fun j v hv => (cl (0 + j)).trans (h.im j v hv), (cl _).trans h.k1, (cl _).trans h.k2, (cl _).trans h.k3, (cl _).trans h.k4, (cl _).trans h.k5, (cl _).trans h.k6,
    fun i => (hB.frozen (p := ⟨cb, i, none⟩) b0).trans (h.fz i), row_top h.rt (fun k hk => hB.block k (h.bv k hk).1), fun j hj => (hB.cell (p := ⟨hg, j, none⟩) h.b1.2).trans (h.hl j hj),
    fun j k hj hk => ⟨(hB.cell (p := ⟨hbk j, k, none⟩) (h.b2 j hj).2.1).trans (h.tb j k hj hk).1, (hB.frozen (p := ⟨hbk j, k, none⟩) (h.b2 j hj).2.1).trans (h.tb j k hj hk).2⟩,
    h.b0, h.b1, h.b2, h.bi, h.bv, Nat.le_trans h.hz hB.size⟩
theorem CW.drewN (h : CW w cb top s inp bb vg vcap yb zb vt hg hcap hbk HT c p n T) (q : Nat) : CW (w.drewN q) cb top s inp bb vg vcap yb zb vt hg hcap hbk HT c p n T :=
  ⟨h.mem.drewN q, h.im, h.k1, h.k2, h.k3, h.k4, h.k5, h.k6, h.fz, h.rt, h.hl, h.tb, h.b0, h.b1, h.b2, h.bi, h.bv, h.hz⟩
theorem CW.raise (h : CW w cb top s inp bb vg vcap yb zb vt hg hcap hbk HT c p n T) : CW w cb w.heap.size s inp bb vg vcap yb zb vt hg hcap hbk HT c p n T := by
  have hz := h.hz
  have b0 := h.b0
  have b1 := h.b1
  exact ⟨h.mem, h.im, h.k1, h.k2, h.k3, h.k4, h.k5, h.k6, h.fz, h.rt, h.hl, h.tb, by omega, by omega, fun j hj => by have := h.b2 j hj; exact ⟨this.1, by omega, this.2.2⟩, h.bi, fun k hk => by have := h.bv k hk; exact ⟨by omega, this.2⟩, Nat.le_refl _⟩

theorem below_cell {B b i : Nat} {v : Value} (h : B ≤ b) : Below B w (w.setCell ⟨b, i, none⟩ v) := (Below.refl _ _).setCell (p := ⟨b, i, none⟩) h v

/-- A cell of the cutter's own is set, none of the image's. -/
theorem CW.setOwn (h : CW w cb top s inp bb vg vcap yb zb vt hg hcap hbk HT c p n T) (i : Nat) (v : Value) (hi : 258 ≤ i) :
    (∀ j u, j ≠ i → w.cell? ⟨cb, j, none⟩ = some u → (w.setCell ⟨cb, i, none⟩ v).cell? ⟨cb, j, none⟩ = some u) ∧
    IM (w.setCell ⟨cb, i, none⟩ v) s bb vg yb zb cb ∧ (w.setCell ⟨cb, i, none⟩ v).rangeAt cb 0 (imgC (.slice (some ⟨bb, 0, none⟩) (iR s) (iR s)) (lClassOf s) (.slice (some ⟨vg, 0, none⟩) (iM s) vcap)) ∧
    (∀ i', (w.setCell ⟨cb, i, none⟩ v).frozen? ⟨cb, i', none⟩ = false) ∧ (w.setCell ⟨cb, i, none⟩ v).ownsRow (cb + 1) 79 3 vt T.length (cells3 T) ∧
    (∀ j, j < iM s → (w.setCell ⟨cb, i, none⟩ v).cell? ⟨hg, j, none⟩ = some (.slice (some ⟨hbk j, 0, none⟩) (nSt s j * inp.size) (nSt s j * inp.size))) ∧
    (∀ j k, j < iM s → k < nSt s j * inp.size → (w.setCell ⟨cb, i, none⟩ v).cell? ⟨hbk j, k, none⟩ = some (.bool (HT j k)) ∧ (w.setCell ⟨cb, i, none⟩ v).frozen? ⟨hbk j, k, none⟩ = false) ∧
    top ≤ (w.setCell ⟨cb, i, none⟩ v).heap.size := by
  have o : ∀ j u, j ≠ i → w.cell? ⟨cb, j, none⟩ = some u → (w.setCell ⟨cb, i, none⟩ v).cell? ⟨cb, j, none⟩ = some u := fun j u hj hu => by
    rw [World.cell?_setCell_other (h := by intro e; injection e; omega)]; exact hu
  have hlen : ∀ j u, (imgC (.slice (some ⟨bb, 0, none⟩) (iR s) (iR s)) (lClassOf s) (.slice (some ⟨vg, 0, none⟩) (iM s) vcap))[j]? = some u → j < 258 := fun j u hu => by
    have := (List.getElem?_eq_some_iff.1 hu).1
    rw [imgC_len _ _ _ (by unfold lClassOf; rw [numsP_len]; rfl)] at this; exact this
  refine ⟨o, h.mem.below (below_cell (Nat.le_refl _)) (Nat.le_refl _), fun j u hu => o _ _ (by have := hlen j u hu; omega) (h.im j u hu), fun i' => by rw [World.frozen?_setCell]; exact h.fz i',
    ownsRow_setCell_below h.rt (Nat.lt_succ_self _) _, fun j hj => ?_, fun j k hj hk => ⟨?_, by rw [World.frozen?_setCell]; exact (h.tb j k hj hk).2⟩, by have := h.hz; simp [World.setCell]; omega⟩
  · rw [World.cell?_setCell_other (h := by intro e; injection e; have := h.b1; omega)]; exact h.hl j hj
  · rw [World.cell?_setCell_other (h := by intro e; injection e; have := h.b2 j hj; omega)]; exact (h.tb j k hj hk).1

theorem CW.stepN (h : CW w cb top s inp bb vg vcap yb zb vt hg hcap hbk HT c p n T) : CW (w.setCell ⟨cb, 261, none⟩ (.int .i64 ((n : Int) + 1))) cb top s inp bb vg vcap yb zb vt hg hcap hbk HT c p (n + 1) T := by
  obtain ⟨o, a1, a2, a3, a4, a5, a6, a7⟩ := h.setOwn 261 (.int .i64 ((n : Int) + 1)) (by omega)
  exact ⟨a1, a2, o _ _ (by omega) h.k1, o _ _ (by omega) h.k2, o _ _ (by omega) h.k3, World.cell?_setCell_same _ _ _ h.k4, o _ _ (by omega) h.k5, o _ _ (by omega) h.k6, a3, a4, a5, a6, h.b0, h.b1, h.b2, h.bi, h.bv, a7⟩
theorem CW.setC (h : CW w cb top s inp bb vg vcap yb zb vt hg hcap hbk HT c p n T) (c' : Nat) : CW (w.setCell ⟨cb, 259, none⟩ (.int .i64 (c' : Int))) cb top s inp bb vg vcap yb zb vt hg hcap hbk HT c' p n T := by
  obtain ⟨o, a1, a2, a3, a4, a5, a6, a7⟩ := h.setOwn 259 (.int .i64 (c' : Int)) (by omega)
  exact ⟨a1, a2, o _ _ (by omega) h.k1, World.cell?_setCell_same _ _ _ h.k2, o _ _ (by omega) h.k3, o _ _ (by omega) h.k4, o _ _ (by omega) h.k5, o _ _ (by omega) h.k6, a3, a4, a5, a6, h.b0, h.b1, h.b2, h.bi, h.bv, a7⟩
theorem CW.setP (h : CW w cb top s inp bb vg vcap yb zb vt hg hcap hbk HT c p n T) (p' : Nat) : CW (w.setCell ⟨cb, 260, none⟩ (.int .i64 (p' : Int))) cb top s inp bb vg vcap yb zb vt hg hcap hbk HT c p' n T := by
  obtain ⟨o, a1, a2, a3, a4, a5, a6, a7⟩ := h.setOwn 260 (.int .i64 (p' : Int)) (by omega)
  exact ⟨a1, a2, o _ _ (by omega) h.k1, o _ _ (by omega) h.k2, World.cell?_setCell_same _ _ _ h.k3, o _ _ (by omega) h.k4, o _ _ (by omega) h.k5, o _ _ (by omega) h.k6, a3, a4, a5, a6, h.b0, h.b1, h.b2, h.bi, h.bv, a7⟩

/-- One stand is marked. -/
theorem CW.mark (h : CW w cb top s inp bb vg vcap yb zb vt hg hcap hbk HT c p n T) {i k : Nat} (hi : i < iM s) (hk : k < nSt s i * inp.size) :
    CW (w.setCell ⟨hbk i, k, none⟩ (.bool true)) cb top s inp bb vg vcap yb zb vt hg hcap hbk (fun j m => if j = i ∧ m = k then true else HT j m) c p n T := by
  have b2 := h.b2 i hi
  have o : ∀ b j u, b ≠ hbk i → w.cell? ⟨b, j, none⟩ = some u → (w.setCell ⟨hbk i, k, none⟩ (.bool true)).cell? ⟨b, j, none⟩ = some u := fun b j u hj hu => by
    rw [World.cell?_setCell_other (h := by intro e; injection e; omega)]; exact hu
  refine ⟨h.mem.below (below_cell (by omega)) (Nat.le_refl _), fun j u hu => o _ _ _ (by omega) (h.im j u hu), o _ _ _ (by omega) h.k1, o _ _ _ (by omega) h.k2, o _ _ _ (by omega) h.k3, o _ _ _ (by omega) h.k4, o _ _ _ (by omega) h.k5, o _ _ _ (by omega) h.k6,
    fun i' => by rw [World.frozen?_setCell]; exact h.fz i', row_top h.rt (fun q hq => Below.heap_setCell _ _ _ _ (by have := (h.bv q hq).2.2 i hi; exact this)), fun j hj => o _ _ _ (by omega) (h.hl j hj), fun j m hj hm => ⟨?_, by rw [World.frozen?_setCell]; exact (h.tb j m hj hm).2⟩,
    h.b0, h.b1, h.b2, h.bi, h.bv, by have := h.hz; simp [World.setCell]; omega⟩
  by_cases e : j = i
  · subst e
    by_cases e2 : m = k
    · subst e2
      rw [if_pos ⟨rfl, rfl⟩]; exact World.cell?_setCell_same _ _ _ (h.tb j m hj hm).1
    · rw [if_neg (fun q => e2 q.2), World.cell?_setCell_other (h := by intro e'; injection e'; omega)]; exact (h.tb j m hj hm).1
  · rw [if_neg (fun q => e q.1)]
    exact o _ _ _ (fun q => e (h.bi j i hj hi q)) (h.tb j m hj hm).1
end Go.Proofs.YtgjgjgihceijnaaGreat

namespace Go.Stn
open Go.RowKit
/-- Stands as they lie in memory: a state's times the input's length, and the place. -/
def stdC (L : Nat) (S : List (Int × Int × Int)) : List Value := S.map fun (x : Int × Int × Int) => Value.int .i64 (x.2.1 * (L : Int) + x.2.2)
theorem stdC_snoc (L : Nat) (S : List (Int × Int × Int)) (c st i : Nat) : stdC L (S ++ [std c st i]) = stdC L S ++ [Value.int .i64 ((st : Int) * (L : Int) + (i : Int))] := by simp [stdC, std]
/-- The tables tell what is hopeless. -/
def hopeOk (s inp : ByteArray) (H : List (Int × Int × Int)) (HT : Nat → Nat → Bool) : Prop := ∀ c st i, c < iM s → st < nSt s c → i < inp.size → HT c (st * inp.size + i) = memB H (std c st i)
/-- Stands of one condition, all within its table. -/
def okS (s inp : ByteArray) (c : Nat) (S : List (Int × Int × Int)) : Prop := ∀ x ∈ S, ∃ st i, x = std c st i ∧ st < nSt s c ∧ i < inp.size
theorem okS_snoc {s inp : ByteArray} {c st i : Nat} {S : List (Int × Int × Int)} (h : okS s inp c S) (h1 : st < nSt s c) (h2 : i < inp.size) : okS s inp c (S ++ [std c st i]) := fun x hx => by
  rcases List.mem_append.1 hx with h3 | h3
  · exact h x h3
  · rw [List.mem_singleton] at h3; exact ⟨st, i, h3, h1, h2⟩
theorem okS_nil (s inp : ByteArray) (c : Nat) : okS s inp c [] := fun _ hx => absurd hx (List.not_mem_nil)
theorem memB_app (H : List (Int × Int × Int)) (x y : Int × Int × Int) : memB (H ++ [x]) y = (memB H y || decide (y = x)) := by
  unfold memB
  rw [Bool.eq_iff_iff]
  simp
theorem stand_lt {n L st i : Nat} (h1 : st < n) (h2 : i < L) : st * L + i < n * L := by
  have := Nat.mul_le_mul_right L (show st + 1 ≤ n from h1)
  rw [Nat.add_mul] at this; omega
theorem stand_inj {L st i st' i' : Nat} (h1 : i < L) (h2 : i' < L) (h : st * L + i = st' * L + i') : st = st' ∧ i = i' := by
  have hL : 0 < L := by omega
  have e1 : (st * L + i) / L = st := by rw [Nat.mul_comm, Nat.mul_add_div hL, Nat.div_eq_of_lt h1]; omega
  have e2 : (st' * L + i') / L = st' := by rw [Nat.mul_comm, Nat.mul_add_div hL, Nat.div_eq_of_lt h2]; omega
  have e : st = st' := by rw [← e1, ← e2, h]
  subst e
  exact ⟨rfl, by omega⟩
theorem hope_mark {s inp : ByteArray} {H : List (Int × Int × Int)} {HT : Nat → Nat → Bool} (h : hopeOk s inp H HT) {c st i : Nat} (h2 : i < inp.size) :
    hopeOk s inp (H ++ [std c st i]) (fun j m => if j = c ∧ m = st * inp.size + i then true else HT j m) := by
  intro c' st' i' hc hs hi
  rw [memB_app]
  by_cases e : c' = c ∧ st' * inp.size + i' = st * inp.size + i
  · simp only
    rw [if_pos e]
    obtain ⟨e1, e2⟩ := stand_inj hi h2 e.2
    rw [e.1, e1, e2]; simp
  · simp only
    rw [if_neg e, h c' st' i' hc hs hi]
    have : decide (std c' st' i' = std c st i) = false := by
      rw [decide_eq_false_iff_not]; intro q
      obtain ⟨q1, q2, q3⟩ := std_inj q
      exact e ⟨q1, by rw [q2, q3]⟩
    rw [this, Bool.or_false]
/-- What look tells of a token: its rule and 1, its end. -/
def tokN : Option (Nat × Nat) → Nat
  | none => 0
  | some x => x.1 + 1
def toN (p : Nat) : Option (Nat × Nat) → Nat
  | none => p
  | some x => x.2
theorem lookT_known {s inp : ByteArray} {c d st i : Nat} {H : List (Int × Int × Int)} {b : Option (Nat × Nat)} (h : memB H (std c st i) = true) : lookT s inp c H (d + 1) st i b = b := by rw [lookT, if_pos h]
theorem lookT_nowhere {s inp : ByteArray} {c d st i : Nat} {H : List (Int × Int × Int)} {b : Option (Nat × Nat)} (h : memB H (std c st i) = false) (hl : leadN s c st (bt inp i) = 255) : lookT s inp c H (d + 1) st i b = b := by
  rw [lookT, if_neg (by rw [h]; decide), if_pos hl]
theorem lookT_token {s inp : ByteArray} {c d st i : Nat} {H : List (Int × Int × Int)} {b : Option (Nat × Nat)} (h : memB H (std c st i) = false) (hl : leadN s c st (bt inp i) ≠ 255) (hm : 0 < markN s c (leadN s c st (bt inp i))) :
    lookT s inp c H (d + 1) st i b = lookT s inp c H d (leadN s c st (bt inp i)) (i + 1) (some (markN s c (leadN s c st (bt inp i)) - 1, i + 1)) := by
  rw [lookT, if_neg (by rw [h]; decide), if_neg hl, if_pos hm]
theorem lookT_step {s inp : ByteArray} {c d st i : Nat} {H : List (Int × Int × Int)} {b : Option (Nat × Nat)} (h : memB H (std c st i) = false) (hl : leadN s c st (bt inp i) ≠ 255) (hm : markN s c (leadN s c st (bt inp i)) = 0) :
    lookT s inp c H (d + 1) st i b = lookT s inp c H d (leadN s c st (bt inp i)) (i + 1) b := by
  rw [lookT, if_neg (by rw [h]; decide), if_neg hl, if_neg (by omega)]
end Go.Stn

namespace Go.Proofs.YtgjgjgihceijnaaGreat
open Go.RowKit Go.Stn

/-- What look leaves. -/
def LookOut (w : World) (cb : Nat) (s inp : ByteArray) (bb vg vcap : Nat) (yb : Nat → Nat) (zb : Nat → Nat → Nat) (vt : Value) (hg hcap : Nat) (hbk : Nat → Nat) (c p n : Nat) (H T : List (Int × Int × Int)) (e : Ending) (w' : World) : Prop :=
  e = .returned (.tuple #[.int .i64 ((tokN (lookT s inp c H (inp.size - p) 0 p none) : Nat) : Int), .int .i64 ((toN p (lookT s inp c H (inp.size - p) 0 p none) : Nat) : Int)]) ∧
  Below cb w w' ∧ ∃ HT', CW w' cb w'.heap.size s inp bb vg vcap yb zb vt hg hcap hbk HT' c p (n + (lookFrom s inp c H p).2) T ∧ hopeOk s inp (H ++ (lookFrom s inp c H p).1) HT'

theorem owns_cut {w : World} {base e g n cap : Nat} {xs : List Value} (h : w.ownsRow base e 1 (.slice (some ⟨g, 0, none⟩) n cap) n xs) : w.ownsRow base e 1 (.slice (some ⟨g, 0, none⟩) 0 cap) 0 [] := by
  refine ⟨rfl, ?_⟩
  rcases h.2 with ⟨hn, _⟩ | ⟨g', cap', cur, he, hbg, hg, hnc, hcm, hcs, _⟩
  · cases hn
  · cases he
    exact .inr ⟨g, cap, cur, rfl, hbg, hg, Nat.zero_le _, hcm, hcs, by simp⟩
theorem owns_empty (w : World) (e : TypeId) : (w.alloc (.cells #[] e)).ownsRow w.heap.size e 1 (.slice (some ⟨w.heap.size, 0, none⟩) 0 0) 0 [] := by
  refine ⟨rfl, .inr ⟨w.heap.size, 0, #[], rfl, Nat.le_refl _, heap_alloc_new w _, Nat.le_refl _, ?_⟩⟩
  simp

set_option maxRecDepth 100000 in
set_option maxHeartbeats 1000000 in
theorem clook_any (s inp : ByteArray) (cb bb vg vcap : Nat) (yb : Nat → Nat) (zb : Nat → Nat → Nat) (vt : Value) (hg hcap : Nat) (hbk : Nat → Nat) (HT : Nat → Nat → Bool) (c p n : Nat) (H T : List (Int × Int × Int)) (w : World)
    (hi : imgOk s = true) (hin : inp.size ≤ 300) (hp : p ≤ inp.size) (hc : c < iM s) (hn : n ≤ 100000) (hH : hopeOk s inp H HT)
    (hcw : CW w cb w.heap.size s inp bb vg vcap yb zb vt hg hcap hbk HT c p n T) :
    Calls Tryz.prog 52 #[.pointer (some ⟨cb, 0, none⟩)] w fun e w' => LookOut w cb s inp bb vg vcap yb zb vt hg hcap hbk c p n H T e w' := by
  have HCW := hidZ hcw
  obtain ⟨M, EM⟩ : ∃ M, iM s = M := ⟨_, rfl⟩
  obtain ⟨N, EN⟩ : ∃ N, nSt s c = N := ⟨_, rfl⟩
  obtain ⟨NL, ENL⟩ : ∃ NL, N * inp.size = NL := ⟨_, rfl⟩
  have hM := (img_head hi).2.2.2.1
  have hcI : (0 : Int) ≤ (c : Int) ∧ (c : Int) < (M : Int) := by omega
  have HLEN := hidZ (show (lClassOf s).length = 256 by unfold lClassOf; rw [numsP_len]; rfl)
  have k257 : w.cell? ⟨cb, 257, none⟩ = some (.slice (some ⟨vg, 0, none⟩) M vcap) := by have := hcw.im 257 _ (imgC_257 _ _ _ HLEN.out); rw [Nat.zero_add, EM] at this; exact this
  have k2 := hcw.k2
  have k3 := hcw.k3
  have k6 := hcw.k6
  rw [EM] at k6
  have m1 := hcw.mem.co c hc
  rw [EN] at m1
  have m2 := hcw.hl c hc
  rw [EN, ENL] at m2
  have HH := hidZ hH
  have HI := hidZ hi
  have hN := nSt_le hi hc
  rw [EN] at hN
  have hNL : NL ≤ 30000 := by rw [← ENL]; have := Nat.mul_le_mul hN.1 hin; omega
  have hc' : c < M := by omega
  replace hc := hidZ hc
  replace EM := hidZ EM
  replace EN := hidZ EN
  replace ENL := hidZ ENL
  clear hcw hH hM hi
  go_enter Tryz.func52, Tryz.ntmps52
  go_wp2
  go_quiet (fail)
  have HCWa := hidZ (HCW.out.drewN nq)
  have HBa : Hid (Below cb w (w.drewN nq)) := _root_.Go.below_drewN (Below.refl _ _) nq
  have hza : (w.drewN nq).heap.size = w.heap.size := rfl
  generalize w.drewN nq = wa at *
  clear k257 k2 k3 k6 m1 m2 HCW
  have k2 := HCWa.out.k2
  have k6 := HCWa.out.k6
  rw [EM.out] at k6
  have m2 := HCWa.out.hl c hc.out
  rw [EN.out, ENL.out] at m2
  go_wp2
  go_quiet (fail)
  have HCWb := hidZ (HCWa.out.drewN nq)
  have HBb : Hid (Below cb w (wa.drewN nq)) := _root_.Go.below_drewN HBa.out nq
  have hzb : (wa.drewN nq).heap.size = w.heap.size := hza
  generalize wa.drewN nq = wb at *
  clear k2 k6 m2 HCWa HBa hza
  have k3 := HCWb.out.k3
  go_upto_region 7 with fail
  have HCW0 := hidZ (HCWb.out.below ((Below.refl _ _).alloc HCWb.out.hz (.cells #[] 3)))
  have HB0 : Hid (Below cb w (wb.alloc (.cells #[] 3))) := HBb.out.alloc (by have := HCWb.out.b0; omega) _
  have HO0 : Hid ((wb.alloc (.cells #[] 3)).ownsRow w.heap.size 3 1 (.slice (some ⟨w.heap.size, 0, none⟩) 0 0) 0 []) := by
    rw [← hzb]; exact owns_empty wb 3
  have hz0 : w.heap.size < (wb.alloc (.cells #[] 3)).heap.size := by simp; omega
  clear k3
  generalize wb.alloc (.cells #[] 3) = w0 at *
  clear HCWb HBb
  have k3 := HCW0.out.k3
  go_upto_block 0 with fail
  clear k3
  obtain ⟨BEST, EB⟩ : ∃ b, lookT s inp c H (inp.size - p) 0 p none = b := ⟨_, rfl⟩
  obtain ⟨SF, ESF⟩ : ∃ b, lookFrom s inp c H p = b := ⟨_, rfl⟩
  replace EB := hidZ EB
  replace ESF := hidZ ESF
  go_cut [6, 7, 9] from 14 (fun tk tto sd wc => ∃ (g cap : Nat), tk = .int .i64 (tokN BEST : Nat) ∧ tto = .int .i64 (toN p BEST : Nat) ∧ sd = .slice (some ⟨g, 0, none⟩) SF.1.length cap ∧ okS s inp c SF.1 ∧ SF.1.length ≤ 300 ∧
    wc.ownsRow w.heap.size 3 1 (.slice (some ⟨g, 0, none⟩) SF.1.length cap) SF.1.length (stdC inp.size SF.1) ∧ CW wc cb w.heap.size s inp bb vg vcap yb zb vt hg hcap hbk HT c p (n + SF.2) T ∧ Below cb w wc)
  case rest =>
    obtain ⟨g, cap, rfl, rfl, rfl, hok, hsl, hown, hcw, hb⟩ := hcut
    have HOK := hidZ hok
    have HO1 := hidZ hown
    have HC1 := hidZ hcw
    have HB1 := hidZ hb
    clear hok hown hcw hb HCW0 HB0 HO0
    obtain ⟨S, kk⟩ := SF
    simp only at *
    go_wp2_with fail
    go_loopw [115] (fun x wr => ∃ (k : Nat) (HTk : Nat → Nat → Bool), x = .int .i64 (k : Int) ∧ k ≤ S.length ∧ CW wr cb w.heap.size s inp bb vg vcap yb zb vt hg hcap hbk HTk c p (n + kk) T ∧ hopeOk s inp (H ++ S.take k) HTk ∧
      wr.ownsRow w.heap.size 3 1 (.slice (some ⟨g, 0, none⟩) S.length cap) S.length (stdC inp.size S) ∧ Below cb w wr) (fun x _ => S.length - (intOf x).toNat)
    case atStart => exact ⟨0, HT, rfl, Nat.zero_le _, HC1.out, by rw [List.take_zero, List.append_nil]; exact HH.out, HO1.out, HB1.out⟩
    case round =>
      obtain ⟨k, HTk, rfl, hk, hcw, hho, hown, hb⟩ := hrel
      have HC2 := hidZ hcw
      have HH2 := hidZ hho
      have HO2 := hidZ hown
      have HB2 := hidZ hb
      clear hcw hho hown hb HC1 HO1 HB1
      by_cases hlt : k < S.length
      · obtain ⟨st, i, hx, hst, hil⟩ := HOK.out _ (List.getElem_mem hlt)
        have hm := HC2.out.tb c (st * inp.size + i) hc.out (stand_lt hst hil)
        have hcell : wr.cell? ⟨g, k, none⟩ = some (.int .i64 ((st * inp.size + i : Nat) : Int)) := by
          have e : (stdC inp.size S)[k]? = some (.int .i64 ((st * inp.size + i : Nat) : Int)) := by
            unfold stdC
            rw [List.getElem?_map, List.getElem?_eq_getElem hlt, hx]
            simp [std]
          have := row_range HO2.out k _ e
          rw [Nat.zero_add] at this; exact this
        have HM := hidZ (HC2.out.mark hc.out (stand_lt hst hil))
        have HK := hidZ (hope_mark HH2.out (c := c) (st := st) hil)
        have HTK : Hid (H ++ S.take k ++ [std c st i] = H ++ S.take (k + 1)) := by
          unfold Hid; rw [List.append_assoc, ← hx, List.take_add_one, List.getElem?_eq_getElem hlt]; rfl
        have hy : st * inp.size + i < NL := by have := stand_lt hst hil; rw [EN.out, ENL.out] at this; exact this
        generalize st * inp.size + i = Y at *
        generalize HTk c Y = old at *
        clear hx hst hil
        have hcell2 := hm.1
        have hfz2 := hm.2
        clear hm
        have hyI : (0 : Int) ≤ (Y : Int) ∧ (Y : Int) < (NL : Int) := by omega
        have hkI : (0 : Int) ≤ (k : Int) ∧ (k : Int) < (S.length : Int) := by omega
        have HO3 := hidZ (ownsRow_setCell_below (a := ⟨hbk c, Y, none⟩) HO2.out (HC2.out.b2 c hc.out).2.1 (.bool true))
        have HB3 := hidZ (HB2.out.setCell (p := ⟨hbk c, Y, none⟩) (Nat.le_of_lt (HC2.out.b2 c hc.out).1) (.bool true))
        go_wp2
        go_roundw
        case rel => exact ⟨k + 1, _, by go_num, hlt, HM.out, by rw [← HTK.out]; exact HK.out, HO3.out, HB3.out⟩
        case measure => simp [intOf]; omega
      · have e : k = S.length := by omega
        subst e
        go_wp2
        go_ret2
        refine ⟨by rw [EB.out]; rfl, HB2.out, HTk, ?_, ?_⟩
        · rw [ESF.out]; exact HC2.out.raise
        · rw [ESF.out]; have := HH2.out; rw [List.take_length] at this; exact this
  case first =>
    go_wp2_with fail
    go_loopg [6, 7, 8, 9, 10] (inp.size - p) (fun gk tk tto sv sd iv wr => ∃ (best : Option (Nat × Nat)) (st i k : Nat) (S : List (Int × Int × Int)) (g cap : Nat), tk = .int .i64 (tokN best : Nat) ∧ tto = .int .i64 (toN p best : Nat) ∧
      sv = .int .i64 (st : Int) ∧ sd = .slice (some ⟨g, 0, none⟩) S.length cap ∧ iv = .int .i64 (i : Int) ∧ st < N ∧ p ≤ i ∧ i + gk = inp.size ∧ k ≤ i - p ∧ S.length ≤ i - p ∧ okS s inp c S ∧
      SF = lookP s inp c H gk st i S k ∧ BEST = lookT s inp c H gk st i best ∧
      wr.ownsRow w.heap.size 3 1 (.slice (some ⟨g, 0, none⟩) S.length cap) S.length (stdC inp.size S) ∧ CW wr cb w.heap.size s inp bb vg vcap yb zb vt hg hcap hbk HT c p (n + k) T ∧ Below cb w wr)
    case atStart => exact ⟨none, 0, p, 0, [], w.heap.size, 0, rfl, rfl, rfl, rfl, rfl, by omega, Nat.le_refl _, by omega, by omega, by simp, okS_nil _ _ _, ESF.out.symm, EB.out.symm, HO0.out, HCW0.out, HB0.out⟩
    case round =>
      obtain ⟨best, st, i, k, S, g, cap, rfl, rfl, rfl, rfl, rfl, hst, hpi, hig, hk, hSl, hok, hlp, hlt', hown, hcw, hb⟩ := hrel
      have HLP := hidZ hlp
      have HLT := hidZ hlt'
      have HOK := hidZ hok
      have HO := hidZ hown
      have HC := hidZ hcw
      have HB := hidZ hb
      clear hlp hlt' hok hown hcw hb HCW0 HB0 HO0
      have k1 := HC.out.k1
      by_cases hlt : i < inp.size
      · obtain ⟨d, rfl⟩ : ∃ d, gk = d + 1 := ⟨gk - 1, by omega⟩
        have hst' : st < nSt s c := by rw [EN.out]; exact hst
        have hxy : st * inp.size + i < NL := by have := stand_lt hst' hlt; rw [EN.out, ENL.out] at this; exact this
        have HHB := hidZ (HH.out c st i hc.out hst' hlt)
        have htb := HC.out.tb c (st * inp.size + i) hc.out (stand_lt hst' hlt)
        obtain ⟨X, hX⟩ : ∃ X : Nat, X = st * inp.size := ⟨_, rfl⟩
        obtain ⟨Y, hY⟩ : ∃ Y : Nat, Y = X + i := ⟨_, rfl⟩
        have hXI : (st : Int) * (inp.size : Int) = (X : Int) := by rw [hX]; simp
        have hYI : (X : Int) + (i : Int) = (Y : Int) := by rw [hY]; simp
        rw [← hX, ← hY] at hxy htb HHB
        replace hX := hidZ hX
        have hXb : X ≤ 30000 := by omega
        replace hY := hidZ hY
        have hyI : (0 : Int) ≤ (Y : Int) ∧ (Y : Int) < (NL : Int) := by omega
        have hd : decide ((i : Int) < (inp.size : Int)) = true := by simp; omega
        have t1 := htb.1
        clear htb hst'
        cases hkn : memB H (std c st i) with
        | true =>
          rw [hkn] at HHB
          rw [HHB.out] at t1
          have HE1 : Hid (SF = (S, k)) := HLP.out.trans (lookP_known hkn)
          have HE2 : Hid (BEST = best) := HLT.out.trans (lookT_known hkn)
          clear hkn
          go_wp2
          go_meet
          case rel =>
            refine ⟨g, cap, by rw [HE2.out], by rw [HE2.out], by rw [HE1.out], by rw [HE1.out]; exact HOK.out, by rw [HE1.out]; simp only; omega, by rw [HE1.out]; exact HO.out, by rw [HE1.out]; exact HC.out, HB.out⟩
        | false =>
          rw [hkn] at HHB
          rw [HHB.out] at t1
          have HKN := hidZ hkn
          clear hkn
          obtain ⟨N1, hN1⟩ : ∃ N1, n + k = N1 := ⟨_, rfl⟩
          rw [hN1] at HC
          have hN1b : N1 ≤ 101000 := by omega
          replace hN1 := hidZ hN1
          have hzr := HC.out.hz
          go_wp2_with (first | (at_builtin; refine wpList_app1 wr rfl (.tmp 66) (.tmp 68) 59 rfl w.heap.size 3 (.int .i64 0) 1 8 Tryz.underlying59 Tryz.infoInt rfl (by decide) (by decide) _ S.length (stdC inp.size S) [.int .i64 (Y : Int)] _ rfl HO.out _ rfl rfl rfl (by simp [Value.oneCell']) (by omega) hzr ?_; intro g4 cap4 w4 hown4 hgrow4 hat4 hlt4; have hb4 := below_app (Below.refl w.heap.size wr) hzr HO.out (Nat.le_refl _) hgrow4; have HC4 := hidZ (HC.out.below hb4); have r4 := HC4.out.k4; have f4 := HC4.out.fz 261; clear k1 t1))
          have HC5 := hidZ HC4.out.stepN
          have HO5 : Hid ((w4.setCell ⟨cb, 261, none⟩ (.int .i64 ((N1 : Int) + 1))).ownsRow w.heap.size 3 1 (.slice (some ⟨g4, 0, none⟩) (S.length + 1) cap4) (S.length + 1) (stdC inp.size (S ++ [std c st i]))) := by
            rw [stdC_snoc]
            have e : (st : Int) * (inp.size : Int) + (i : Int) = (Y : Int) := by rw [hXI, hYI]
            rw [e]; exact ownsRow_setCell_below hown4 (by have := HC4.out.b0; exact this) _
          have HB5 := hidZ ((HB.out.trans (hb4.mono (by have := HC4.out.b0; omega))).setCell (p := ⟨cb, 261, none⟩) (Nat.le_refl _) (.int .i64 ((N1 : Int) + 1)))
          generalize w4.setCell ⟨cb, 261, none⟩ (.int .i64 ((N1 : Int) + 1)) = w5 at *
          clear HC4 HC HO HB hown4 hgrow4 hat4 hlt4 hb4 r4 f4 hzr
          have hst' : st < nSt s c := by rw [EN.out]; exact hst
          have hbe := bt_eq inp i hlt
          have hbl := bt_lt inp i
          have q1 := HC5.out.k1
          have q2 := HC5.out.mem.nx c st hc.out hst'
          rw [Nat.mul_comm 2 st] at q2
          have q3 := HC5.out.mem.ld c st (bt inp i) hc.out hst' hbl
          have q4 : w5.cell? ⟨cb, 1 + bt inp i, none⟩ = some (.int .i64 (clsN s (bt inp i) : Int)) := by
            have e : (lClassOf s)[bt inp i]'(by rw [HLEN.out]; exact hbl) = clsN s (bt inp i) := by simp only [(img_read HI.out).co]; simp
            have := HC5.out.im (1 + bt inp i) _ (imgC_k _ _ _ (bt inp i) (by rw [HLEN.out]; exact hbl))
            rw [Nat.zero_add, e] at this; exact this
          have hcl := cls_lt HI.out (bt inp i) hbl
          have HLJ : Hid (leadJ s c st (bt inp i) = leadI (leadN s c st (bt inp i))) := rfl
          have hll := lead_lt HI.out hc.out hst' hbl
          have HP1 := hidZ (@lookP_nowhere s inp c d st i k H S HKN.out)
          have HP2 := hidZ (@lookP_token s inp c d st i k H S HKN.out)
          have HP3 := hidZ (@lookP_step s inp c d st i k H S HKN.out)
          have HT1 := hidZ (@lookT_nowhere s inp c d st i H best HKN.out)
          have HT2 := hidZ (@lookT_token s inp c d st i H best HKN.out)
          have HT3 := hidZ (@lookT_step s inp c d st i H best HKN.out)
          generalize leadJ s c st (bt inp i) = lj at *
          generalize leadN s c st (bt inp i) = ln at *
          generalize clsN s (bt inp i) = q at *
          generalize iK s = K at *
          generalize bt inp i = v at *
          rw [EN.out] at hll
          have hstI : (0 : Int) ≤ (st : Int) ∧ (st : Int) < (N : Int) := by omega
          have hqI : (0 : Int) ≤ (q : Int) ∧ (q : Int) < (K : Int) := by omega
          have hvI : (0 : Int) ≤ (v : Int) ∧ (v : Int) < 256 := by omega
          have hiI : (0 : Int) ≤ (i : Int) ∧ (i : Int) < (inp.size : Int) := by omega
          clear hst'
          go_quiet (fail)
          have HC6 := hidZ (HC5.out.drewN nq)
          have HO6 : Hid ((w5.drewN nq).ownsRow w.heap.size 3 1 (.slice (some ⟨g4, 0, none⟩) (S.length + 1) cap4) (S.length + 1) (stdC inp.size (S ++ [std c st i]))) := HO5.out
          have HB6 := hidZ (_root_.Go.below_drewN HB5.out nq)
          generalize w5.drewN nq = w6 at *
          clear HC5 HO5 HB5 q1 q2 q3 q4
          have HSN : Hid ((S ++ [std c st i]).length = S.length + 1) := by unfold Hid; simp
          have HNN : Hid (n + (k + 1) = N1 + 1) := by unfold Hid; have := hN1.out; omega
          have HOK6 : Hid (okS s inp c (S ++ [std c st i])) := okS_snoc HOK.out (by rw [EN.out]; exact hst) hlt
          by_cases h255 : ln = 255
          · have hlj : lj = -1 := by rw [HLJ.out, h255]; rfl
            subst hlj
            have HE1 : Hid (SF = (S ++ [std c st i], k + 1)) := HLP.out.trans (HP1.out h255)
            have HE2 : Hid (BEST = best) := HLT.out.trans (HT1.out h255)
            clear hll h255
            go_wp2
            go_meet
            case rel =>
              refine ⟨g4, cap4, by rw [HE2.out], by rw [HE2.out], by rw [HE1.out]; simp only; rw [HSN.out], by rw [HE1.out]; exact HOK6.out, by rw [HE1.out]; simp only; rw [HSN.out]; omega, by rw [HE1.out]; simp only; rw [HSN.out]; exact HO6.out, by rw [HE1.out]; simp only; rw [HNN.out]; exact HC6.out, HB6.out⟩
          · have hlj : lj = (ln : Int) := by rw [HLJ.out]; unfold leadI; rw [if_neg h255]
            subst hlj
            have hlnN : ln < N := by omega
            have hd3 : ((ln : Int) == -1) = false := by rw [beq_eq_false_iff_ne]; omega
            have q5 := HC6.out.mem.tk c ln hc.out (by rw [EN.out]; exact hlnN)
            rw [Nat.mul_comm 2 ln] at q5
            have HP4 := hidZ (HP2.out h255)
            have HP5 := hidZ (HP3.out h255)
            have HT4 := hidZ (HT2.out h255)
            have HT5 := hidZ (HT3.out h255)
            generalize markN s c ln = m at *
            have hlnI : (0 : Int) ≤ (ln : Int) ∧ (ln : Int) < (N : Int) := by omega
            clear hll h255 HP1 HP2 HP3 HT1 HT2 HT3
            by_cases hm : m = 0
            · have HE1 : Hid (SF = lookP s inp c H d ln (i + 1) (S ++ [std c st i]) (k + 1)) := HLP.out.trans (HP5.out hm)
              have HE2 : Hid (BEST = lookT s inp c H d ln (i + 1) best) := HLT.out.trans (HT5.out hm)
              have hd4 : ((m : Int) != 0) = false := by rw [hm]; rfl
              clear hm
              go_wp2
              go_roundg d
              case measure => omega
              case rel =>
                refine ⟨best, ln, i + 1, k + 1, S ++ [std c st i], g4, cap4, rfl, rfl, rfl, by rw [HSN.out], by go_num, hlnN, by omega, by omega, by omega, by rw [HSN.out]; omega, HOK6.out, HE1.out, HE2.out, by rw [HSN.out]; exact HO6.out, by rw [HNN.out]; exact HC6.out, HB6.out⟩
            · have HE1 : Hid (SF = lookP s inp c H d ln (i + 1) [] (k + 1)) := HLP.out.trans (HP4.out (by omega))
              have HE2 : Hid (BEST = lookT s inp c H d ln (i + 1) (some (m - 1, i + 1))) := HLT.out.trans (HT4.out (by omega))
              have hd4 : ((m : Int) != 0) = true := by rw [bne_iff_ne]; omega
              have HMM : Hid (tokN (some (m - 1, i + 1)) = m) := by unfold Hid tokN; simp only; omega
              have HO7 := hidZ (owns_cut HO6.out)
              clear hm
              go_wp2
              go_roundg d
              case measure => omega
              case rel =>
                refine ⟨some (m - 1, i + 1), ln, i + 1, k + 1, [], g4, cap4, by rw [HMM.out], by simp [toN], rfl, rfl, by go_num, hlnN, by omega, by omega, by omega, by simp, okS_nil _ _ _, HE1.out, HE2.out, HO7.out, by rw [HNN.out]; exact HC6.out, HB6.out⟩
      · have e : gk = 0 := by omega
        subst e
        have HE1 : Hid (SF = (S, k)) := HLP.out
        have HE2 : Hid (BEST = best) := HLT.out
        have hd : decide ((i : Int) < (inp.size : Int)) = false := by simp; omega
        go_wp2
        go_meet
        case rel =>
          refine ⟨g, cap, by rw [HE2.out], by rw [HE2.out], by rw [HE1.out], by rw [HE1.out]; exact HOK.out, by rw [HE1.out]; simp only; omega, by rw [HE1.out]; exact HO.out, by rw [HE1.out]; exact HC.out, HB.out⟩
end Go.Proofs.YtgjgjgihceijnaaGreat

