/- A cut in memory: its six cells, its two lists; what each kind of step leaves of it. -/
import Derived.Test.YtgjgjgihceijnaaScHas
namespace Go.Proofs.Ytgjgjgihceijnaa
open Go.RowKit Go.Stn

/-- The cut that lies at block cb: its image at ib, its input, its condition, what is hopeless (H), the steps, what was told (T). All its blocks lie below top. -/
structure CutAt (w : World) (cb base top ib : Nat) (inp : ByteArray) (c : Nat) (H : List (Int × Int × Int)) (n : Nat) (T : List (Int × Int × Int)) (vh vt : Value) : Prop where
  c0 : w.cell? ⟨cb, 0, none⟩ = some (.pointer (some ⟨ib, 0, none⟩))
  c1 : w.cell? ⟨cb, 1, none⟩ = some (.string inp)
  c2 : w.cell? ⟨cb, 2, none⟩ = some (.int .i64 c)
  c3 : w.cell? ⟨cb, 3, none⟩ = some vh
  c4 : w.cell? ⟨cb, 4, none⟩ = some (.int .i64 n)
  c5 : w.cell? ⟨cb, 5, none⟩ = some vt
  fz : ∀ i, w.frozen? ⟨cb, i, none⟩ = false
  rh : w.ownsRow base 207 3 vh H.length (cells3 H)
  rt : w.ownsRow base 61 3 vt T.length (cells3 T)
  hb : cb < base
  hz : top ≤ w.heap.size
  hbt : base ≤ top
  lh : ∀ k, vh.ownBlock = some k → k < top
  lt : ∀ k, vt.ownBlock = some k → k < top
  ap : vh.ownBlock = none ∨ vh.ownBlock ≠ vt.ownBlock

variable {w w' : World} {cb base top ib : Nat} {inp : ByteArray} {c : Nat} {H : List (Int × Int × Int)} {n : Nat} {T : List (Int × Int × Int)} {vh vt : Value}

theorem CutAt.below (h : CutAt w cb base top ib inp c H n T vh vt) (hB : Below top w w') : CutAt w' cb base top ib inp c H n T vh vt := by
  have hb := h.hb
  have hbt := h.hbt
  have hcb : cb < top := by omega
  have cl : ∀ i, w'.cell? ⟨cb, i, none⟩ = w.cell? ⟨cb, i, none⟩ := fun i => hB.cell (p := ⟨cb, i, none⟩) hcb
  have row : ∀ (v : Value) (m : Nat) (xs : List Value) (e : TypeId), w.ownsRow base e 3 v m xs → (∀ k, v.ownBlock = some k → k < top) → w'.ownsRow base e 3 v m xs := fun v m xs e hr hl => by
    refine ⟨hr.1, ?_⟩
    rcases hr.2 with hn | ⟨g, cap, cur, rfl, hbg, hg, rest⟩
    · exact .inl hn
    · exact .inr ⟨g, cap, cur, rfl, hbg, (hB.block g (hl g rfl)).trans hg, rest⟩
  exact ⟨(cl 0).trans h.c0, (cl 1).trans h.c1, (cl 2).trans h.c2, (cl 3).trans h.c3, (cl 4).trans h.c4, (cl 5).trans h.c5,
    fun i => (hB.frozen (p := ⟨cb, i, none⟩) hcb).trans (h.fz i), row _ _ _ _ h.rh h.lh, row _ _ _ _ h.rt h.lt, h.hb, Nat.le_trans h.hz hB.size, h.hbt, h.lh, h.lt, h.ap⟩

theorem CutAt.drewN (h : CutAt w cb base top ib inp c H n T vh vt) (q : Nat) : CutAt (w.drewN q) cb base top ib inp c H n T vh vt :=
  ⟨h.c0, h.c1, h.c2, h.c3, h.c4, h.c5, h.fz, h.rh, h.rt, h.hb, h.hz, h.hbt, h.lh, h.lt, h.ap⟩

theorem CutAt.other (h : CutAt w cb base top ib inp c H n T vh vt) (i : Nat) (v : Value) : ∀ j u, j ≠ i → w.cell? ⟨cb, j, none⟩ = some u → (w.setCell ⟨cb, i, none⟩ v).cell? ⟨cb, j, none⟩ = some u := fun j u hj hu => by
  have _ := h
  rw [World.cell?_setCell_other (h := by intro e; injection e; omega)]; exact hu

/-- The steps are stored. -/
theorem CutAt.steps (h : CutAt w cb base top ib inp c H n T vh vt) (m : Nat) : CutAt (w.setCell ⟨cb, 4, none⟩ (.int .i64 m)) cb base top ib inp c H m T vh vt := by
  have o := h.other 4 (.int .i64 m)
  refine ⟨o 0 _ (by omega) h.c0, o 1 _ (by omega) h.c1, o 2 _ (by omega) h.c2, o 3 _ (by omega) h.c3, World.cell?_setCell_same _ _ _ h.c4, o 5 _ (by omega) h.c5,
    fun i => by rw [World.frozen?_setCell]; exact h.fz i, ownsRow_setCell_below h.rh h.hb _, ownsRow_setCell_below h.rt h.hb _, h.hb, ?_, h.hbt, h.lh, h.lt, h.ap⟩
  have := h.hz
  simp [World.setCell]; omega

/-- The condition is stored. -/
theorem CutAt.cond (h : CutAt w cb base top ib inp c H n T vh vt) (m : Nat) : CutAt (w.setCell ⟨cb, 2, none⟩ (.int .i64 m)) cb base top ib inp m H n T vh vt := by
  have o := h.other 2 (.int .i64 m)
  refine ⟨o 0 _ (by omega) h.c0, o 1 _ (by omega) h.c1, World.cell?_setCell_same _ _ _ h.c2, o 3 _ (by omega) h.c3, o 4 _ (by omega) h.c4, o 5 _ (by omega) h.c5,
    fun i => by rw [World.frozen?_setCell]; exact h.fz i, ownsRow_setCell_below h.rh h.hb _, ownsRow_setCell_below h.rt h.hb _, h.hb, ?_, h.hbt, h.lh, h.lt, h.ap⟩
  have := h.hz
  simp [World.setCell]; omega

/-- All lies below the heap's size. -/
theorem CutAt.raise (h : CutAt w cb base top ib inp c H n T vh vt) : CutAt w cb base w.heap.size ib inp c H n T vh vt := by
  have hz := h.hz
  have hbt := h.hbt
  exact ⟨h.c0, h.c1, h.c2, h.c3, h.c4, h.c5, h.fz, h.rh, h.rt, h.hb, Nat.le_refl _, by omega, fun k hk => by have := h.lh k hk; omega, fun k hk => by have := h.lt k hk; omega, h.ap⟩

/-- What is hopeless is stored as it was. -/
theorem CutAt.again3 (h : CutAt w cb base top ib inp c H n T vh vt) : CutAt (w.setCell ⟨cb, 3, none⟩ vh) cb base top ib inp c H n T vh vt := by
  have o := h.other 3 vh
  refine ⟨o 0 _ (by omega) h.c0, o 1 _ (by omega) h.c1, o 2 _ (by omega) h.c2, World.cell?_setCell_same _ _ _ h.c3, o 4 _ (by omega) h.c4, o 5 _ (by omega) h.c5,
    fun i => by rw [World.frozen?_setCell]; exact h.fz i, ownsRow_setCell_below h.rh h.hb _, ownsRow_setCell_below h.rt h.hb _, h.hb, ?_, h.hbt, h.lh, h.lt, h.ap⟩
  have := h.hz
  simp [World.setCell]; omega

/-- One step more is stored. -/
theorem CutAt.step1 (h : CutAt w cb base top ib inp c H n T vh vt) : CutAt (w.setCell ⟨cb, 4, none⟩ (.int .i64 ((n : Int) + 1))) cb base top ib inp c H (n + 1) T vh vt :=
  h.steps (n + 1)

theorem ownsRow_below {w w' : World} {base : Nat} {e : TypeId} {size : Nat} {v : Value} {m : Nat} {xs : List Value} {B : Nat} (h : w.ownsRow base e size v m xs) (hB : Below B w w') (hz : w.heap.size ≤ B) : w'.ownsRow base e size v m xs := by
  refine ⟨h.1, ?_⟩
  rcases h.2 with hn | ⟨g, cap, cur, rfl, hbg, hg, rest⟩
  · exact .inl hn
  · have hlt : g < w.heap.size := (Array.getElem?_eq_some_iff.1 hg).1
    exact .inr ⟨g, cap, cur, rfl, hbg, (hB.block g (by omega)).trans hg, rest⟩

theorem hid_mk {p : Prop} (h : p) : Hid p := h

theorem ownsRow_shape {w : World} {base : Nat} {e : TypeId} {size : Nat} {v : Value} {m : Nat} {xs : List Value} (h : w.ownsRow base e size v m xs) : v = .slice none 0 0 ∨ ∃ g cap, v = .slice (some ⟨g, 0, none⟩) m cap := by
  rcases h.2 with ⟨e, _⟩ | ⟨g, cap, _, e, _⟩
  · exact .inl e
  · exact .inr ⟨g, cap, e⟩

theorem cells3_one (l : List (Int × Int × Int)) : ∀ u ∈ cells3 l, u.oneCell' = true := by
  intro u hu
  unfold cells3 at hu
  rw [List.mem_flatMap] at hu
  obtain ⟨x, _, hx⟩ := hu
  simp at hx
  rcases hx with rfl | rfl | rfl <;> rfl

/-- Behind an append to what is hopeless: the cells that the store asks for. -/
theorem CutAt.kept (h : CutAt w cb base top ib inp c H n T vh vt) {w1 : World} {row : Option Nat} (hr : ∀ k, row = some k → base ≤ k) (hg : w.grownBy w1 row) :
    (∀ i u, w.cell? ⟨cb, i, none⟩ = some u → w1.cell? ⟨cb, i, none⟩ = some u) ∧ ∀ i, w1.frozen? ⟨cb, i, none⟩ = false := by
  have hb := h.hb
  have hbt := h.hbt
  have hz := h.hz
  have hne : some cb ≠ row := fun e => by have := hr cb e.symm; omega
  exact ⟨fun i u hu => hg.cell hu hne, fun i => (hg.frozen_far ⟨cb, i, none⟩ (by show cb < _; omega) hne).trans (h.fz i)⟩

/-- What is hopeless grows: an append, and the store. -/
theorem CutAt.hope (h : CutAt w cb base top ib inp c H n T vh vt) {w1 : World} {S : List (Int × Int × Int)} {g m cap : Nat} (hm : m = H.length + S.length)
    (hown : w1.ownsRow base 207 3 (.slice (some ⟨g, 0, none⟩) m cap) m (cells3 H ++ cells3 S))
    (hgrow : w.grownBy w1 vh.ownBlock) (hat : vh.ownBlock = some g ∨ g = w.heap.size) (hgl : g < w1.heap.size) :
    CutAt (w1.setCell ⟨cb, 3, none⟩ (.slice (some ⟨g, 0, none⟩) m cap)) cb base w1.heap.size ib inp c (H ++ S) n T (.slice (some ⟨g, 0, none⟩) m cap) vt := by
  have hb := h.hb
  have hbt := h.hbt
  have hz := h.hz
  have hsz := hgrow.size
  obtain ⟨kc, kf⟩ := h.kept (fun k hk => (h.rh.lt k hk).1) hgrow
  have o : ∀ j u, j ≠ 3 → w.cell? ⟨cb, j, none⟩ = some u → (w1.setCell ⟨cb, 3, none⟩ (.slice (some ⟨g, 0, none⟩) m cap)).cell? ⟨cb, j, none⟩ = some u := fun j u hj hu => by
    rw [World.cell?_setCell_other (h := by intro e; injection e; omega)]; exact kc j u hu
  refine ⟨o 0 _ (by omega) h.c0, o 1 _ (by omega) h.c1, o 2 _ (by omega) h.c2, World.cell?_setCell_same _ _ _ (kc 3 _ h.c3), o 4 _ (by omega) h.c4, o 5 _ (by omega) h.c5,
    fun i => by rw [World.frozen?_setCell]; exact kf i, ?_, ?_, h.hb, by simp [World.setCell], by omega, ?_, ?_, ?_⟩
  · rw [List.length_append, ← hm, cells3_append]; exact ownsRow_setCell_below hown h.hb _
  · refine ownsRow_setCell_below (h.rt.kept hgrow ?_) h.hb _
    rcases h.ap with e | e
    · cases hv : vt.ownBlock with
      | none => exact .inl rfl
      | some k => right; rw [e]; simp
    · exact .inr (Ne.symm e)
  · intro k hk
    have : g = k := by simpa [Value.ownBlock] using hk
    omega
  · intro k hk; have := h.lt k hk; omega
  · right
    show some g ≠ vt.ownBlock
    intro e
    rcases hat with h1 | h1
    · rcases h.ap with e2 | e2
      · rw [e2] at h1; cases h1
      · exact e2 (h1.trans e)
    · have := h.lt g e.symm; omega

/-- A token is told: an append, and the store. -/
theorem CutAt.tell (h : CutAt w cb base top ib inp c H n T vh vt) {w1 : World} {o : Obj} {x : Int × Int × Int} {g cap : Nat}
    (hown : w1.ownsRow base 61 3 (.slice (some ⟨g, 0, none⟩) (T.length + 1) cap) (T.length + 1) (cells3 T ++ [.int .i64 x.1, .int .i64 x.2.1, .int .i64 x.2.2]))
    (hgrow : (w.alloc o).grownBy w1 vt.ownBlock) (hat : vt.ownBlock = some g ∨ g = w.heap.size + 1) (hgl : g < w1.heap.size) :
    CutAt (w1.setCell ⟨cb, 5, none⟩ (.slice (some ⟨g, 0, none⟩) (T.length + 1) cap)) cb base w1.heap.size ib inp c H n (T ++ [x]) vh (.slice (some ⟨g, 0, none⟩) (T.length + 1) cap) := by
  have h' : CutAt (w.alloc o) cb base top ib inp c H n T vh vt := h.below ((Below.refl _ _).alloc h.hz o)
  have hb := h.hb
  have hbt := h.hbt
  have hz := h.hz
  have hsz := hgrow.size
  simp at hsz
  obtain ⟨kc, kf⟩ := h'.kept (fun k hk => (h'.rt.lt k hk).1) hgrow
  have oo : ∀ j u, j ≠ 5 → (w.alloc o).cell? ⟨cb, j, none⟩ = some u → (w1.setCell ⟨cb, 5, none⟩ (.slice (some ⟨g, 0, none⟩) (T.length + 1) cap)).cell? ⟨cb, j, none⟩ = some u := fun j u hj hu => by
    rw [World.cell?_setCell_other (h := by intro e; injection e; omega)]; exact kc j u hu
  refine ⟨oo 0 _ (by omega) h'.c0, oo 1 _ (by omega) h'.c1, oo 2 _ (by omega) h'.c2, oo 3 _ (by omega) h'.c3, oo 4 _ (by omega) h'.c4, World.cell?_setCell_same _ _ _ (kc 5 _ h'.c5),
    fun i => by rw [World.frozen?_setCell]; exact kf i, ?_, ?_, h.hb, by simp [World.setCell], by omega, ?_, ?_, ?_⟩
  · refine ownsRow_setCell_below (h'.rh.kept hgrow ?_) h.hb _
    exact h.ap
  · rw [List.length_append, List.length_singleton, cells3_snoc]; exact ownsRow_setCell_below hown h.hb _
  · intro k hk; have := h.lh k hk; omega
  · intro k hk
    have : g = k := by simpa [Value.ownBlock] using hk
    omega
  · right
    show vh.ownBlock ≠ some g
    intro e
    rcases hat with h1 | h1
    · rcases h.ap with e2 | e2
      · rw [e2] at e; cases e
      · exact e2 (e.trans h1.symm)
    · have := h.lh g e; omega
end Go.Proofs.Ytgjgjgihceijnaa
