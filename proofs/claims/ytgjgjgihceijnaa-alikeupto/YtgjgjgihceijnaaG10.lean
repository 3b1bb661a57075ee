/- Texts put together: RfRd, RfScan, RfSteps, RfPure2. -/
import Derived.Test.YtgjgjgihceijnaaG09
import Derived.Test.YtgjgjgihceijnaaG01
import Derived.Deep.QuietTactic
import Derived.BigQuiet
/- A reader in memory: its five cells, its three lists; what each kind of step leaves of it. -/
namespace Go.Stn
/-- Two lists that share no block. -/
def apartV (u v : Value) : Prop := ∀ k, u.ownBlock = some k → v.ownBlock = some k → False
theorem apartV.symm {u v : Value} (h : apartV u v) : apartV v u := fun k a b => h k b a
/-- Four bools and two numbers, as a rule lies in memory. -/
def ruleC (x : (Nat → Bool) × Int × Int) : List Value := [.bool (x.1 0), .bool (x.1 1), .bool (x.1 2), .bool (x.1 3), .int .i64 x.2.1, .int .i64 x.2.2]
def rulesC (l : List ((Nat → Bool) × Int × Int)) : List Value := l.flatMap ruleC
def bitsC (l : List (Nat → Bool)) : List Value := l.flatMap bitL
def cells3' (l : List (Int × Int × Int)) : List Value := l.flatMap fun x => [.int .i64 x.1, .int .i64 x.2.1, .int .i64 x.2.2]
end Go.Stn
namespace Go.Proofs.Ytgjgjgihceijnaa
open Go.RowKit Go.Stn

theorem hidK {p : Prop} (h : p) : Hid p := h

/-- The reader at block rb: its text, and what it has read. All its blocks lie below top. -/
structure Rd (w : World) (rb base top : Nat) (t : ByteArray) (st : PSt) (vr vn vp : Value) : Prop where
  c0 : w.cell? ⟨rb, 0, none⟩ = some (.string t)
  c1 : w.cell? ⟨rb, 1, none⟩ = some (.int .i64 st.at_)
  c2 : w.cell? ⟨rb, 2, none⟩ = some vr
  c3 : w.cell? ⟨rb, 3, none⟩ = some vn
  c4 : w.cell? ⟨rb, 4, none⟩ = some vp
  fz : ∀ i, w.frozen? ⟨rb, i, none⟩ = false
  rr : w.ownsRow base 151 6 vr st.rules.length (rulesC st.rules)
  rn : w.ownsRow base 191 3 vn st.nodes.length (cells3' st.nodes)
  rp : w.ownsRow base 187 256 vp st.places.length (bitsC st.places)
  hb : rb < base
  hbt : base ≤ top
  hz : top ≤ w.heap.size
  lr : ∀ k, vr.ownBlock = some k → k < top
  ln : ∀ k, vn.ownBlock = some k → k < top
  lp : ∀ k, vp.ownBlock = some k → k < top
  a1 : apartV vr vn
  a2 : apartV vr vp
  a3 : apartV vn vp

variable {w w' : World} {rb base top : Nat} {t : ByteArray} {st : PSt} {vr vn vp : Value}

theorem row_below {w w' : World} {base top : Nat} {e : TypeId} {size : Nat} {v : Value} {m : Nat} {xs : List Value} (hr : w.ownsRow base e size v m xs) (hB : Below top w w') (hl : ∀ k, v.ownBlock = some k → k < top) : w'.ownsRow base e size v m xs := by
  refine ⟨hr.1, ?_⟩
  rcases hr.2 with hn | ⟨g, cap, cur, rfl, hbg, hg, rest⟩
  · exact .inl hn
  · exact .inr ⟨g, cap, cur, rfl, hbg, (hB.block g (hl g rfl)).trans hg, rest⟩

theorem Rd.below (h : Rd w rb base top t st vr vn vp) (hB : Below top w w') : Rd w' rb base top t st vr vn vp := by
  have hb := h.hb
  have hbt := h.hbt
  have hc : rb < top := by omega
  have cl : ∀ i, w'.cell? ⟨rb, i, none⟩ = w.cell? ⟨rb, i, none⟩ := fun i => hB.cell (p := ⟨rb, i, none⟩) hc
  exact ⟨(cl 0).trans h.c0, (cl 1).trans h.c1, (cl 2).trans h.c2, (cl 3).trans h.c3, (cl 4).trans h.c4, fun i => (hB.frozen (p := ⟨rb, i, none⟩) hc).trans (h.fz i),
    row_below h.rr hB h.lr, row_below h.rn hB h.ln, row_below h.rp hB h.lp, h.hb, h.hbt, Nat.le_trans h.hz hB.size, h.lr, h.ln, h.lp, h.a1, h.a2, h.a3⟩

theorem Rd.drewN (h : Rd w rb base top t st vr vn vp) (q : Nat) : Rd (w.drewN q) rb base top t st vr vn vp :=
  ⟨h.c0, h.c1, h.c2, h.c3, h.c4, h.fz, h.rr, h.rn, h.rp, h.hb, h.hbt, h.hz, h.lr, h.ln, h.lp, h.a1, h.a2, h.a3⟩

theorem Rd.drew (h : Rd w rb base top t st vr vn vp) : Rd w.drew rb base top t st vr vn vp :=
  ⟨h.c0, h.c1, h.c2, h.c3, h.c4, h.fz, h.rr, h.rn, h.rp, h.hb, h.hbt, h.hz, h.lr, h.ln, h.lp, h.a1, h.a2, h.a3⟩

theorem Rd.raise (h : Rd w rb base top t st vr vn vp) : Rd w rb base w.heap.size t st vr vn vp := by
  have hz := h.hz
  have hbt := h.hbt
  exact ⟨h.c0, h.c1, h.c2, h.c3, h.c4, h.fz, h.rr, h.rn, h.rp, h.hb, by omega, Nat.le_refl _, fun k hk => by have := h.lr k hk; omega, fun k hk => by have := h.ln k hk; omega, fun k hk => by have := h.lp k hk; omega, h.a1, h.a2, h.a3⟩

theorem Rd.retop {w0 : World} {top0 : Nat} {st0 : PSt} (h0 : Rd w0 rb base top0 t st0 vr vn vp) (h : Rd w rb base top t st vr vn vp) (hz : top0 ≤ w.heap.size) : Rd w rb base top0 t st vr vn vp :=
  ⟨h.c0, h.c1, h.c2, h.c3, h.c4, h.fz, h.rr, h.rn, h.rp, h.hb, h0.hbt, hz, h0.lr, h0.ln, h0.lp, h.a1, h.a2, h.a3⟩

/-- One place on. -/
theorem Rd.adv (h : Rd w rb base top t st vr vn vp) : Rd (w.setCell ⟨rb, 1, none⟩ (.int .i64 ((st.at_ : Int) + 1))) rb base top t (adv st) vr vn vp := by
  have o : ∀ j u, j ≠ 1 → w.cell? ⟨rb, j, none⟩ = some u → (w.setCell ⟨rb, 1, none⟩ (.int .i64 ((st.at_ : Int) + 1))).cell? ⟨rb, j, none⟩ = some u := fun j u hj hu => by
    rw [World.cell?_setCell_other (h := by intro e; injection e; omega)]; exact hu
  refine ⟨o 0 _ (by omega) h.c0, World.cell?_setCell_same _ _ _ h.c1, o 2 _ (by omega) h.c2, o 3 _ (by omega) h.c3, o 4 _ (by omega) h.c4,
    fun i => by rw [World.frozen?_setCell]; exact h.fz i, ownsRow_setCell_below h.rr h.hb _, ownsRow_setCell_below h.rn h.hb _, ownsRow_setCell_below h.rp h.hb _, h.hb, h.hbt, ?_, h.lr, h.ln, h.lp, h.a1, h.a2, h.a3⟩
  have := h.hz
  simp [World.setCell]; omega


/-- The reader's own blocks. -/
def mine (rb : Nat) (vr vn vp : Value) (k : Nat) : Prop := k = rb ∨ vr.ownBlock = some k ∨ vn.ownBlock = some k ∨ vp.ownBlock = some k

/-- What a step of the reader may turn: its own blocks; what it makes is new. -/
structure Fr (w w' : World) (rb : Nat) (vr vn vp vr' vn' vp' : Value) : Prop where
  os : w'.os = w.os
  tape : w'.tape = w.tape
  output : w'.output = w.output
  size : w.heap.size ≤ w'.heap.size
  block : ∀ k, k < w.heap.size → ¬ mine rb vr vn vp k → w'.heap[k]? = w.heap[k]?
  stay : ∀ k, k < w.heap.size → ¬ mine rb vr vn vp k → ¬ mine rb vr' vn' vp' k

theorem Fr.refl (w : World) (rb : Nat) (vr vn vp : Value) : Fr w w rb vr vn vp vr vn vp := ⟨rfl, rfl, rfl, Nat.le_refl _, fun _ _ _ => rfl, fun _ _ h => h⟩
theorem Fr.trans {a b c : World} {rb : Nat} {vr vn vp vr1 vn1 vp1 vr2 vn2 vp2 : Value} (h : Fr a b rb vr vn vp vr1 vn1 vp1) (k : Fr b c rb vr1 vn1 vp1 vr2 vn2 vp2) : Fr a c rb vr vn vp vr2 vn2 vp2 :=
  ⟨k.os.trans h.os, k.tape.trans h.tape, k.output.trans h.output, Nat.le_trans h.size k.size, fun i hi hm => (k.block i (Nat.lt_of_lt_of_le hi h.size) (h.stay i hi hm)).trans (h.block i hi hm),
    fun i hi hm => k.stay i (Nat.lt_of_lt_of_le hi h.size) (h.stay i hi hm)⟩
theorem Fr.of_grown {a b : World} {rb : Nat} {vr vn vp : Value} (h : a.grownBy b (some rb)) : Fr a b rb vr vn vp vr vn vp :=
  ⟨h.os, h.tape, h.output, h.size, fun k hk hm => h.block k hk (fun e => hm (.inl (Option.some.inj e))), fun _ _ hm => hm⟩
theorem Fr.below {a b : World} {rb base top : Nat} {t : ByteArray} {st : PSt} {vr vn vp vr' vn' vp' : Value} (h : Fr a b rb vr vn vp vr' vn' vp') (hr : Rd a rb base top t st vr vn vp) : Below rb a b := by
  have hb := hr.hb
  have hbt := hr.hbt
  have hz := hr.hz
  refine ⟨h.os, h.tape, h.output, h.size, fun k hk => h.block k (by omega) ?_⟩
  rintro (e | e | e | e)
  · omega
  · have := (hr.rr.lt k e).1; omega
  · have := (hr.rn.lt k e).1; omega
  · have := (hr.rp.lt k e).1; omega
theorem Fr.of_drew {a b : World} {rb : Nat} {vr vn vp vr' vn' vp' : Value} (h : Fr a.drew b rb vr vn vp vr' vn' vp') : Fr a b rb vr vn vp vr' vn' vp' := ⟨h.os, h.tape, h.output, h.size, h.block, h.stay⟩
/-- What a step of the reader leaves that may make nodes, places, rules. -/
def RdOut (w : World) (rb base : Nat) (t : ByteArray) (vr vn vp : Value) (st : PSt) (w' : World) : Prop := ∃ vr' vn' vp', Rd w' rb base w'.heap.size t st vr' vn' vp' ∧ Fr w w' rb vr vn vp vr' vn' vp'

/-- A block that is none of the reader's. -/
theorem not_mine {w : World} {rb base top : Nat} {t : ByteArray} {st : PSt} {vr vn vp : Value} (hr : Rd w rb base top t st vr vn vp) {k : Nat} (hk : top ≤ k) : ¬ mine rb vr vn vp k := by
  have hb := hr.hb
  have hbt := hr.hbt
  rintro (e | e | e | e)
  · omega
  · have := hr.lr k e; omega
  · have := hr.ln k e; omega
  · have := hr.lp k e; omega

/-- One node more: an append, and the store. -/
theorem Rd.moreN {W w4 : World} {rb base top : Nat} {t : ByteArray} {st : PSt} {vr vn vp : Value} (h : Rd W rb base top t st vr vn vp) {o : Obj} {x : Int × Int × Int} {g cap : Nat}
    (hown : w4.ownsRow base 191 3 (.slice (some ⟨g, 0, none⟩) (st.nodes.length + 1) cap) (st.nodes.length + 1) (cells3' st.nodes ++ [.int .i64 x.1, .int .i64 x.2.1, .int .i64 x.2.2]))
    (hgrow : (W.alloc o).grownBy w4 vn.ownBlock) (hat : vn.ownBlock = some g ∨ g = W.heap.size + 1) (hgl : g < w4.heap.size) :
    Rd (w4.setCell ⟨rb, 3, none⟩ (.slice (some ⟨g, 0, none⟩) (st.nodes.length + 1) cap)) rb base w4.heap.size t { st with nodes := st.nodes ++ [x] } vr (.slice (some ⟨g, 0, none⟩) (st.nodes.length + 1) cap) vp ∧
    Fr W (w4.setCell ⟨rb, 3, none⟩ (.slice (some ⟨g, 0, none⟩) (st.nodes.length + 1) cap)) rb vr vn vp vr (.slice (some ⟨g, 0, none⟩) (st.nodes.length + 1) cap) vp := by
  have hb := h.hb
  have hbt := h.hbt
  have hz := h.hz
  have hsz := hgrow.size
  simp at hsz
  have h' : Rd (W.alloc o) rb base top t st vr vn vp := h.below ((Below.refl _ _).alloc h.hz o)
  have hne : some rb ≠ vn.ownBlock := fun e => by have := (h.rn.lt rb e.symm).1; omega
  obtain ⟨gc, gf⟩ := grow_cell hgrow (k := rb) (by omega) hne
  have oth : ∀ j u, j ≠ 3 → W.cell? ⟨rb, j, none⟩ = some u → (w4.setCell ⟨rb, 3, none⟩ (.slice (some ⟨g, 0, none⟩) (st.nodes.length + 1) cap)).cell? ⟨rb, j, none⟩ = some u := fun j u hj hu => by
    rw [World.cell?_setCell_other (h := by intro e; injection e; omega), gc]; exact hu
  have slf : ∀ u, W.cell? ⟨rb, 3, none⟩ = some u → (w4.setCell ⟨rb, 3, none⟩ (.slice (some ⟨g, 0, none⟩) (st.nodes.length + 1) cap)).cell? ⟨rb, 3, none⟩ = some (.slice (some ⟨g, 0, none⟩) (st.nodes.length + 1) cap) := fun u hu =>
    World.cell?_setCell_same (u := u) _ _ _ ((gc 3).trans hu)
  have kp : ∀ (v : Value) (m sz : Nat) (xs : List Value) (e : TypeId), (W.alloc o).ownsRow base e sz v m xs → apartV vn v → (w4.setCell ⟨rb, 3, none⟩ (.slice (some ⟨g, 0, none⟩) (st.nodes.length + 1) cap)).ownsRow base e sz v m xs := fun v m sz xs e hr ha => by
    refine ownsRow_setCell_below (hr.kept hgrow ?_) h.hb _
    cases hv : v.ownBlock with
    | none => exact .inl rfl
    | some k => right; intro e; exact ha k e.symm hv
  have nw : ∀ v : Value, (∀ k, v.ownBlock = some k → k < top) → apartV vn v → apartV (.slice (some ⟨g, 0, none⟩) (st.nodes.length + 1) cap) v := fun v hl ha k e1 e2 => by
    have e : g = k := by simpa [Value.ownBlock] using e1
    subst e
    rcases hat with h1 | h1
    · exact ha g h1 e2
    · have := hl g e2; omega
  have rn2 : (w4.setCell ⟨rb, 3, none⟩ (.slice (some ⟨g, 0, none⟩) (st.nodes.length + 1) cap)).ownsRow base 191 3 (.slice (some ⟨g, 0, none⟩) (st.nodes.length + 1) cap) (st.nodes ++ [x]).length (cells3' (st.nodes ++ [x])) := by
    have e : cells3' (st.nodes ++ [x]) = cells3' st.nodes ++ [.int .i64 x.1, .int .i64 x.2.1, .int .i64 x.2.2] := by simp [cells3']
    rw [e, List.length_append, List.length_singleton]; exact ownsRow_setCell_below hown h.hb _
  have tp : ∀ v : Value, (∀ k, v.ownBlock = some k → k < top) → ∀ k, v.ownBlock = some k → k < w4.heap.size := fun v hl k hk => by have := hl k hk; omega
  have tg : ∀ k, (Value.slice (some ⟨g, 0, none⟩) (st.nodes.length + 1) cap).ownBlock = some k → k < w4.heap.size := fun k hk => by
    have e : g = k := by simpa [Value.ownBlock] using hk
    omega
  refine ⟨⟨oth 0 _ (by omega) h.c0, oth 1 _ (by omega) h.c1, oth 2 _ (by omega) h.c2, slf _ h.c3, oth 4 _ (by omega) h.c4, fun i => by rw [World.frozen?_setCell, gf]; exact h.fz i, kp _ _ _ _ _ h'.rr h.a1.symm, rn2, kp _ _ _ _ _ h'.rp h.a3, h.hb, by omega, by simp [World.setCell], tp _ h.lr, tg, tp _ h.lp, (nw _ h.lr h.a1.symm).symm, h.a2, nw _ h.lp h.a3⟩, ?_⟩
  refine ⟨hgrow.os, hgrow.tape, hgrow.output, by simp [World.setCell]; omega, fun k hk hm => ?_, fun k hk hm => ?_⟩
  · rw [Below.heap_setCell _ _ _ _ (by intro e; exact hm (.inl e)), hgrow.block k (by simp; omega) (by intro e; exact hm (.inr (.inr (.inl e.symm))))]
    exact Below.heap_alloc W o k hk
  · rintro (e | e | e | e)
    · exact hm (.inl e)
    · exact hm (.inr (.inl e))
    · have e : g = k := by simpa [Value.ownBlock] using e
      subst e
      rcases hat with h1 | h1
      · exact hm (.inr (.inr (.inl h1)))
      · omega
    · exact hm (.inr (.inr (.inr e)))

/-- One place more: an append, and the store. -/
theorem Rd.moreP {W w4 : World} {rb base top : Nat} {t : ByteArray} {st : PSt} {vr vn vp : Value} (h : Rd W rb base top t st vr vn vp) {o : Obj} {x : Nat → Bool} {g cap : Nat}
    (hown : w4.ownsRow base 187 256 (.slice (some ⟨g, 0, none⟩) (st.places.length + 1) cap) (st.places.length + 1) (bitsC st.places ++ bitL x))
    (hgrow : (W.alloc o).grownBy w4 vp.ownBlock) (hat : vp.ownBlock = some g ∨ g = W.heap.size + 1) (hgl : g < w4.heap.size) :
    Rd (w4.setCell ⟨rb, 4, none⟩ (.slice (some ⟨g, 0, none⟩) (st.places.length + 1) cap)) rb base w4.heap.size t { st with places := st.places ++ [x] } vr vn (.slice (some ⟨g, 0, none⟩) (st.places.length + 1) cap) ∧
    Fr W (w4.setCell ⟨rb, 4, none⟩ (.slice (some ⟨g, 0, none⟩) (st.places.length + 1) cap)) rb vr vn vp vr vn (.slice (some ⟨g, 0, none⟩) (st.places.length + 1) cap) := by
  have hb := h.hb
  have hbt := h.hbt
  have hz := h.hz
  have hsz := hgrow.size
  simp at hsz
  have h' : Rd (W.alloc o) rb base top t st vr vn vp := h.below ((Below.refl _ _).alloc h.hz o)
  have hne : some rb ≠ vp.ownBlock := fun e => by have := (h.rp.lt rb e.symm).1; omega
  obtain ⟨gc, gf⟩ := grow_cell hgrow (k := rb) (by omega) hne
  have oth : ∀ j u, j ≠ 4 → W.cell? ⟨rb, j, none⟩ = some u → (w4.setCell ⟨rb, 4, none⟩ (.slice (some ⟨g, 0, none⟩) (st.places.length + 1) cap)).cell? ⟨rb, j, none⟩ = some u := fun j u hj hu => by
    rw [World.cell?_setCell_other (h := by intro e; injection e; omega), gc]; exact hu
  have slf : ∀ u, W.cell? ⟨rb, 4, none⟩ = some u → (w4.setCell ⟨rb, 4, none⟩ (.slice (some ⟨g, 0, none⟩) (st.places.length + 1) cap)).cell? ⟨rb, 4, none⟩ = some (.slice (some ⟨g, 0, none⟩) (st.places.length + 1) cap) := fun u hu =>
    World.cell?_setCell_same (u := u) _ _ _ ((gc 4).trans hu)
  have kp : ∀ (v : Value) (m sz : Nat) (xs : List Value) (e : TypeId), (W.alloc o).ownsRow base e sz v m xs → apartV vp v → (w4.setCell ⟨rb, 4, none⟩ (.slice (some ⟨g, 0, none⟩) (st.places.length + 1) cap)).ownsRow base e sz v m xs := fun v m sz xs e hr ha => by
    refine ownsRow_setCell_below (hr.kept hgrow ?_) h.hb _
    cases hv : v.ownBlock with
    | none => exact .inl rfl
    | some k => right; intro e; exact ha k e.symm hv
  have nw : ∀ v : Value, (∀ k, v.ownBlock = some k → k < top) → apartV vp v → apartV (.slice (some ⟨g, 0, none⟩) (st.places.length + 1) cap) v := fun v hl ha k e1 e2 => by
    have e : g = k := by simpa [Value.ownBlock] using e1
    subst e
    rcases hat with h1 | h1
    · exact ha g h1 e2
    · have := hl g e2; omega
  have rn2 : (w4.setCell ⟨rb, 4, none⟩ (.slice (some ⟨g, 0, none⟩) (st.places.length + 1) cap)).ownsRow base 187 256 (.slice (some ⟨g, 0, none⟩) (st.places.length + 1) cap) (st.places ++ [x]).length (bitsC (st.places ++ [x])) := by
    have e : bitsC (st.places ++ [x]) = bitsC st.places ++ bitL x := by simp [bitsC]
    rw [e, List.length_append, List.length_singleton]; exact ownsRow_setCell_below hown h.hb _
  have tp : ∀ v : Value, (∀ k, v.ownBlock = some k → k < top) → ∀ k, v.ownBlock = some k → k < w4.heap.size := fun v hl k hk => by have := hl k hk; omega
  have tg : ∀ k, (Value.slice (some ⟨g, 0, none⟩) (st.places.length + 1) cap).ownBlock = some k → k < w4.heap.size := fun k hk => by
    have e : g = k := by simpa [Value.ownBlock] using hk
    omega
  refine ⟨⟨oth 0 _ (by omega) h.c0, oth 1 _ (by omega) h.c1, oth 2 _ (by omega) h.c2, oth 3 _ (by omega) h.c3, slf _ h.c4, fun i => by rw [World.frozen?_setCell, gf]; exact h.fz i, kp _ _ _ _ _ h'.rr h.a2.symm, kp _ _ _ _ _ h'.rn h.a3.symm, rn2, h.hb, by omega, by simp [World.setCell], tp _ h.lr, tp _ h.ln, tg, h.a1, (nw _ h.lr h.a2.symm).symm, (nw _ h.ln h.a3.symm).symm⟩, ?_⟩
  refine ⟨hgrow.os, hgrow.tape, hgrow.output, by simp [World.setCell]; omega, fun k hk hm => ?_, fun k hk hm => ?_⟩
  · rw [Below.heap_setCell _ _ _ _ (by intro e; exact hm (.inl e)), hgrow.block k (by simp; omega) (by intro e; exact hm (.inr (.inr (.inr e.symm))))]
    exact Below.heap_alloc W o k hk
  · rintro (e | e | e | e)
    · exact hm (.inl e)
    · exact hm (.inr (.inl e))
    · exact hm (.inr (.inr (.inl e)))
    · have e : g = k := by simpa [Value.ownBlock] using e
      subst e
      rcases hat with h1 | h1
      · exact hm (.inr (.inr (.inr h1)))
      · omega

/-- One rule more: an append, and the store. -/
theorem Rd.moreR {W w4 : World} {rb base top : Nat} {t : ByteArray} {st : PSt} {vr vn vp : Value} (h : Rd W rb base top t st vr vn vp) {o : Obj} {x : (Nat → Bool) × Int × Int} {g cap : Nat}
    (hown : w4.ownsRow base 151 6 (.slice (some ⟨g, 0, none⟩) (st.rules.length + 1) cap) (st.rules.length + 1) (rulesC st.rules ++ ruleC x))
    (hgrow : (W.alloc o).grownBy w4 vr.ownBlock) (hat : vr.ownBlock = some g ∨ g = W.heap.size + 1) (hgl : g < w4.heap.size) :
    Rd (w4.setCell ⟨rb, 2, none⟩ (.slice (some ⟨g, 0, none⟩) (st.rules.length + 1) cap)) rb base w4.heap.size t { st with rules := st.rules ++ [x] } (.slice (some ⟨g, 0, none⟩) (st.rules.length + 1) cap) vn vp ∧
    Fr W (w4.setCell ⟨rb, 2, none⟩ (.slice (some ⟨g, 0, none⟩) (st.rules.length + 1) cap)) rb vr vn vp (.slice (some ⟨g, 0, none⟩) (st.rules.length + 1) cap) vn vp := by
  have hb := h.hb
  have hbt := h.hbt
  have hz := h.hz
  have hsz := hgrow.size
  simp at hsz
  have h' : Rd (W.alloc o) rb base top t st vr vn vp := h.below ((Below.refl _ _).alloc h.hz o)
  have hne : some rb ≠ vr.ownBlock := fun e => by have := (h.rr.lt rb e.symm).1; omega
  obtain ⟨gc, gf⟩ := grow_cell hgrow (k := rb) (by omega) hne
  have oth : ∀ j u, j ≠ 2 → W.cell? ⟨rb, j, none⟩ = some u → (w4.setCell ⟨rb, 2, none⟩ (.slice (some ⟨g, 0, none⟩) (st.rules.length + 1) cap)).cell? ⟨rb, j, none⟩ = some u := fun j u hj hu => by
    rw [World.cell?_setCell_other (h := by intro e; injection e; omega), gc]; exact hu
  have slf : ∀ u, W.cell? ⟨rb, 2, none⟩ = some u → (w4.setCell ⟨rb, 2, none⟩ (.slice (some ⟨g, 0, none⟩) (st.rules.length + 1) cap)).cell? ⟨rb, 2, none⟩ = some (.slice (some ⟨g, 0, none⟩) (st.rules.length + 1) cap) := fun u hu =>
    World.cell?_setCell_same (u := u) _ _ _ ((gc 2).trans hu)
  have kp : ∀ (v : Value) (m sz : Nat) (xs : List Value) (e : TypeId), (W.alloc o).ownsRow base e sz v m xs → apartV vr v → (w4.setCell ⟨rb, 2, none⟩ (.slice (some ⟨g, 0, none⟩) (st.rules.length + 1) cap)).ownsRow base e sz v m xs := fun v m sz xs e hr ha => by
    refine ownsRow_setCell_below (hr.kept hgrow ?_) h.hb _
    cases hv : v.ownBlock with
    | none => exact .inl rfl
    | some k => right; intro e; exact ha k e.symm hv
  have nw : ∀ v : Value, (∀ k, v.ownBlock = some k → k < top) → apartV vr v → apartV (.slice (some ⟨g, 0, none⟩) (st.rules.length + 1) cap) v := fun v hl ha k e1 e2 => by
    have e : g = k := by simpa [Value.ownBlock] using e1
    subst e
    rcases hat with h1 | h1
    · exact ha g h1 e2
    · have := hl g e2; omega
  have rn2 : (w4.setCell ⟨rb, 2, none⟩ (.slice (some ⟨g, 0, none⟩) (st.rules.length + 1) cap)).ownsRow base 151 6 (.slice (some ⟨g, 0, none⟩) (st.rules.length + 1) cap) (st.rules ++ [x]).length (rulesC (st.rules ++ [x])) := by
    have e : rulesC (st.rules ++ [x]) = rulesC st.rules ++ ruleC x := by simp [rulesC]
    rw [e, List.length_append, List.length_singleton]; exact ownsRow_setCell_below hown h.hb _
  have tp : ∀ v : Value, (∀ k, v.ownBlock = some k → k < top) → ∀ k, v.ownBlock = some k → k < w4.heap.size := fun v hl k hk => by have := hl k hk; omega
  have tg : ∀ k, (Value.slice (some ⟨g, 0, none⟩) (st.rules.length + 1) cap).ownBlock = some k → k < w4.heap.size := fun k hk => by
    have e : g = k := by simpa [Value.ownBlock] using hk
    omega
  refine ⟨⟨oth 0 _ (by omega) h.c0, oth 1 _ (by omega) h.c1, slf _ h.c2, oth 3 _ (by omega) h.c3, oth 4 _ (by omega) h.c4, fun i => by rw [World.frozen?_setCell, gf]; exact h.fz i, rn2, kp _ _ _ _ _ h'.rn h.a1, kp _ _ _ _ _ h'.rp h.a2, h.hb, by omega, by simp [World.setCell], tg, tp _ h.ln, tp _ h.lp, nw _ h.ln h.a1, nw _ h.lp h.a2, h.a3⟩, ?_⟩
  refine ⟨hgrow.os, hgrow.tape, hgrow.output, by simp [World.setCell]; omega, fun k hk hm => ?_, fun k hk hm => ?_⟩
  · rw [Below.heap_setCell _ _ _ _ (by intro e; exact hm (.inl e)), hgrow.block k (by simp; omega) (by intro e; exact hm (.inr (.inl e.symm)))]
    exact Below.heap_alloc W o k hk
  · rintro (e | e | e | e)
    · exact hm (.inl e)
    · have e : g = k := by simpa [Value.ownBlock] using e
      subst e
      rcases hat with h1 | h1
      · exact hm (.inr (.inl h1))
      · omega
    · exact hm (.inr (.inr (.inl e)))
    · exact hm (.inr (.inr (.inr e)))

end Go.Proofs.Ytgjgjgihceijnaa

/- The reader's small steps: walks. -/
namespace Go.Proofs.Ytgjgjgihceijnaa
open Go.RowKit Go.Stn

theorem visible_any (b : Int) (w : World) : Calls Try.prog 147 #[.int .i64 b] w fun e w' => e = .returned (.bool (visB b)) ∧ w' = w := by
  by_cases h1 : 33 ≤ b
  · by_cases h2 : b ≤ 126
    · have e : visB b = true := by unfold visB; simp [h1, h2]
      rw [e]; clear e
      go_enter Try.func147, Try.ntmps147
      go_wp2
      go_ret
      exact ⟨by simp, rfl⟩
    · have e : visB b = false := by unfold visB; simp [h2]
      rw [e]; clear e
      go_enter Try.func147, Try.ntmps147
      go_wp2
      go_ret
      exact ⟨by simp, rfl⟩
  · have e : visB b = false := by unfold visB; simp [h1]
    rw [e]; clear e
    go_enter Try.func147, Try.ntmps147
    go_wp2
    go_ret
    exact ⟨rfl, rfl⟩

theorem lod_any (b : Int) (w : World) : Calls Try.prog 156 #[.int .i64 b] w fun e w' => e = .returned (.bool (lodB b)) ∧ w' = w := by
  have e : lodB b = (decide (97 ≤ b) && decide (b ≤ 122) || (decide (65 ≤ b) && decide (b ≤ 90)) || (decide (48 ≤ b) && decide (b ≤ 57))) := by
    unfold lodB; rw [Bool.eq_iff_iff]; simp; omega
  rw [e]
  clear e
  by_cases h1 : 97 ≤ b <;> by_cases h2 : b ≤ 122 <;> by_cases h3 : 65 ≤ b <;> by_cases h4 : b ≤ 90 <;> by_cases h5 : 48 ≤ b <;> by_cases h6 : b ≤ 57
  all_goals first
    | (exfalso; omega)
    | (simp only [h1, h2, h3, h4, h5, h6, decide_true, decide_false, Bool.and_false, Bool.or_false, Bool.or_true, Bool.and_true]
       go_enter Try.func156, Try.ntmps156
       go_wp2
       go_ret
       exact ⟨by simp <;> omega, rfl⟩)

theorem plain_any (b : Int) (sp : ByteArray) (w : World) (hs : sp.size ≤ 100) : Calls Try.prog 141 #[.int .i64 b, .string sp] w fun e w' => e = .returned (.bool (plainB b sp)) ∧ w' = w := by
  cases hv : visB b with
  | false =>
    have e : plainB b sp = false := by unfold plainB; rw [hv]; rfl
    rw [e]; clear e
    go_enter Try.func141, Try.ntmps141
    go_wp2_with (go_at_call 147; refine (visible_any _ _).mono ?_; rintro e w ⟨rfl, rfl⟩)
    go_ret
    exact ⟨rfl, rfl⟩
  | true =>
    have e : plainB b sp = decide (∀ i, i < sp.size → (bt sp i : Int) ≠ b) := by unfold plainB; rw [hv]; rfl
    rw [e]; clear e
    go_enter Try.func141, Try.ntmps141
    go_wp2_with (go_at_call 147; refine (visible_any _ _).mono ?_; rintro e w ⟨rfl, rfl⟩)
    go_loop [5] (fun x => ∃ k : Nat, k ≤ sp.size ∧ x = .int .i64 (k : Int) ∧ ∀ i, i < k → (bt sp i : Int) ≠ b) (fun x => sp.size - (intOf x).toNat)
    case atStart => exact ⟨0, Nat.zero_le _, rfl, fun i h => absurd h (Nat.not_lt_zero _)⟩
    case round =>
      obtain ⟨k, hk, rfl, hall⟩ := hrel
      have HA := hidK hall
      clear hall
      by_cases hlt : k < sp.size
      · have hbe := bt_eq sp k hlt
        have hbl := bt_lt sp k
        by_cases heq : (bt sp k : Int) = b
        · have HN : Hid (decide (∀ i, i < sp.size → (bt sp i : Int) ≠ b) = false) := by
            unfold Hid; rw [decide_eq_false_iff_not]; intro h; exact h k hlt heq
          have hbq : ((bt sp k : Int) == b) = true := beq_iff_eq.2 heq
          clear heq
          go_wp2
          go_ret
          exact ⟨by rw [HN.out]; rfl, rfl⟩
        · have hbq : ((bt sp k : Int) == b) = false := beq_eq_false_iff_ne.2 heq
          have HQ := hidK heq
          clear heq
          go_wp2
          go_round
          case rel =>
            refine ⟨k + 1, hlt, by go_num, fun i hi => ?_⟩
            by_cases e : i = k
            · rw [e]; exact HQ.out
            · exact HA.out i (by omega)
          case measure => simp [intOf]; omega
      · have HY : Hid (decide (∀ i, i < sp.size → (bt sp i : Int) ≠ b) = true) := by
          unfold Hid; rw [decide_eq_true_eq]; intro i hi; exact HA.out i (by omega)
        go_wp2
        go_ret
        exact ⟨by rw [HY.out]; rfl, rfl⟩


set_option maxRecDepth 100000 in
theorem peek_any (t : ByteArray) (st : PSt) (rb base top : Nat) (vr vn vp : Value) (w : World) (h : Rd w rb base top t st vr vn vp) :
    Calls Try.prog 117 #[.pointer (some ⟨rb, 0, none⟩)] w fun e w' => e = .returned (.int .i64 (peekP t st.at_)) ∧ ∃ q, w' = w.drewN q := by
  have c0 := h.c0
  have c1 := h.c1
  clear h
  generalize st.at_ = a at *
  by_cases he : t.size ≤ a
  · rw [peekP_end he]
    have hd : decide ((t.size : Int) ≤ (a : Int)) = true := by simp; omega
    go_enter Try.func117, Try.ntmps117
    go_wp2
    go_quiet (fail)
    go_wp2
    go_ret
    exact ⟨rfl, _, rfl⟩
  · rw [peekP_at (by omega)]
    have hd : decide ((t.size : Int) ≤ (a : Int)) = false := by simp; omega
    have hbe := bt_eq t a (by omega)
    have hbl := bt_lt t a
    have hI : (0 : Int) ≤ (a : Int) ∧ (a : Int) < (t.size : Int) := by omega
    have hwb : IntKind.i64.wrap (bt t a : Int) = (bt t a : Int) := IntWalk.i64_in _ (by omega)
    go_enter Try.func117, Try.ntmps117
    go_wp2
    go_quiet (fail)
    go_wp2
    go_quiet (fail)
    go_wp2
    go_ret
    exact ⟨rfl, _, World.drewN_drewN _ _ _⟩

end Go.Proofs.Ytgjgjgihceijnaa

/- The reader's steps that move it: walks. -/
namespace Go.Stn
def skipP (t : ByteArray) (b : Int) (st : PSt) : PSt := if nextB t b st = true then adv st else st
theorem skipP_yes {t : ByteArray} {b : Int} {st : PSt} (h : nextB t b st = true) : skipP t b st = adv st := by unfold skipP; rw [if_pos h]
theorem skipP_no {t : ByteArray} {b : Int} {st : PSt} (h : nextB t b st = false) : skipP t b st = st := by unfold skipP; rw [if_neg (by rw [h]; decide)]
/-- The place is within the text. -/
def okAt (t : ByteArray) (st : PSt) : Prop := st.at_ ≤ t.size
end Go.Stn
namespace Go.Proofs.Ytgjgjgihceijnaa
open Go.RowKit Go.Stn

/-- What a step of the reader leaves: the reader in a new state; no block but its own is turned. -/
def RdTo (w : World) (rb base : Nat) (t : ByteArray) (vr vn vp : Value) (st : PSt) (w' : World) : Prop := w.grownBy w' (some rb) ∧ Rd w' rb base w'.heap.size t st vr vn vp

set_option maxRecDepth 100000 in
theorem skip_any (t : ByteArray) (st : PSt) (b : Int) (rb base : Nat) (vr vn vp : Value) (w : World) (ht : t.size ≤ 120) (hat : st.at_ ≤ t.size) (h : Rd w rb base w.heap.size t st vr vn vp) :
    Calls Try.prog 89 #[.pointer (some ⟨rb, 0, none⟩), .int .i64 b] w fun e w' => e = .returned (.bool (nextB t b st)) ∧ RdTo w rb base t vr vn vp (skipP t b st) w' := by
  cases hb : nextB t b st with
  | true =>
    rw [skipP_yes hb]
    have hbq : (peekP t st.at_ != b) = false := by unfold nextB at hb; rw [decide_eq_true_eq] at hb; rw [hb]; simp
    go_enter Try.func89, Try.ntmps89
    go_wp2_with fail
    refine (peek_any t st rb base w.heap.size vr vn vp _ h).mono ?_
    rintro e w1 ⟨rfl, q, rfl⟩
    have HR := hidK (h.drewN q).raise
    have HB : Hid (w.grownBy (w.drewN q) (some rb)) := grown_drewN (World.grownBy.refl _ _) q
    generalize w.drewN q = w1 at *
    clear h
    have c1 := HR.out.c1
    have f1 := HR.out.fz 1
    go_wp2
    go_ret
    exact ⟨rfl, grown_set HB.out _ _, HR.out.adv.raise⟩
  | false =>
    rw [skipP_no hb]
    have hbq : (peekP t st.at_ != b) = true := by unfold nextB at hb; rw [decide_eq_false_iff_not] at hb; rw [bne_iff_ne]; exact hb
    go_enter Try.func89, Try.ntmps89
    go_wp2_with fail
    refine (peek_any t st rb base w.heap.size vr vn vp _ h).mono ?_
    rintro e w1 ⟨rfl, q, rfl⟩
    go_wp2
    go_ret
    exact ⟨rfl, grown_drewN (World.grownBy.refl _ _) q, (h.drewN q).raise⟩


theorem adv_ok {t : ByteArray} {st : PSt} (h : st.at_ < t.size) : (adv st).at_ ≤ t.size := h

set_option maxRecDepth 100000 in
theorem esc_any (t : ByteArray) (st : PSt) (rb base : Nat) (vr vn vp : Value) (w : World) (ht : t.size ≤ 120) (hat : st.at_ ≤ t.size) (h : Rd w rb base w.heap.size t st vr vn vp) :
    Calls Try.prog 155 #[.pointer (some ⟨rb, 0, none⟩)] w fun e w' => e = .returned (.tuple #[.int .i64 (escP t st).1, .bool (escP t st).2.1]) ∧ RdTo w rb base t vr vn vp (escP t st).2.2 w' := by
  cases h1 : nextB t 110 st with
  | true =>
    have HE : Hid (escP t st = (10, true, adv st)) := by unfold Hid escP; rw [if_pos h1]
    go_enter Try.func155, Try.ntmps155
    go_wp2_with fail
    refine (skip_any t st 110 rb base vr vn vp _ ht hat h).mono ?_
    rintro e w1 ⟨rfl, hr⟩
    rw [skipP_yes h1] at hr
    rw [h1]
    go_wp2
    go_ret2
    rw [HE.out]
    exact ⟨rfl, hr⟩
  | false =>
    have n1 : ¬ (nextB t 110 st = true) := by rw [h1]; decide
    have HS1 := hidK h1
    go_enter Try.func155, Try.ntmps155
    go_wp2_with fail
    refine (skip_any t st 110 rb base vr vn vp _ ht hat h).mono ?_
    rintro e w1 ⟨rfl, hb1, hr1⟩
    rw [skipP_no h1] at hr1
    rw [h1]
    have HB1 := hidK hb1
    clear h hb1
    go_wp2_with fail
    refine (skip_any t st 115 rb base vr vn vp _ ht hat hr1).mono ?_
    rintro e w2 ⟨rfl, hb2, hr2⟩
    cases h2 : nextB t 115 st with
    | true =>
      have HE : Hid (escP t st = (32, true, adv st)) := by unfold Hid escP; rw [if_neg n1, if_pos h2]
      rw [skipP_yes h2] at hr2
      have HR2 := hidK hr2
      have HB2 := hidK (grown_trans HB1.out hb2)
      clear hr2 hb2 hr1 HB1
      go_wp2
      go_ret2
      rw [HE.out]
      exact ⟨rfl, HB2.out, HR2.out⟩
    | false =>
      have n2 : ¬ (nextB t 115 st = true) := by rw [h2]; decide
      rw [skipP_no h2] at hr2
      have HB2 := hidK (grown_trans HB1.out hb2)
      clear hb2 hr1 HB1
      go_wp2_with fail
      refine (peek_any t st rb base _ vr vn vp _ hr2).mono ?_
      rintro e w3 ⟨rfl, q, rfl⟩
      have HR3 := hidK (hr2.drewN q).raise
      have HB3 := hidK (grown_drewN HB2.out q)
      clear HB2 hr2
      generalize w2.drewN q = w3 at *
      have c1 := HR3.out.c1
      have f1 := HR3.out.fz 1
      cases hv : visB (peekP t st.at_) with
      | false =>
        have HE : Hid (escP t st = (0, false, st)) := by unfold Hid escP; rw [if_neg n1, if_neg n2, if_neg (by rw [hv]; simp)]
        clear n1 n2
        go_wp2_with (go_at_call 147; refine (visible_any _ _).mono ?_; rintro e w3 ⟨rfl, rfl⟩)
        go_ret2
        rw [HE.out]
        exact ⟨rfl, HB3.out, HR3.out⟩
      | true =>
        cases hl : lodB (peekP t st.at_) with
        | true =>
          have HE : Hid (escP t st = (0, false, st)) := by unfold Hid escP; rw [if_neg n1, if_neg n2, if_neg (by rw [hl]; simp)]
          clear n1 n2
          go_wp2_with (first | (go_at_call 147; refine (visible_any _ _).mono ?_; rintro e w3 ⟨rfl, rfl⟩) | (go_at_call 156; refine (lod_any _ _).mono ?_; rintro e w3 ⟨rfl, rfl⟩))
          go_ret2
          rw [HE.out]
          exact ⟨rfl, HB3.out, HR3.out⟩
        | false =>
          have HE : Hid (escP t st = (peekP t st.at_, true, adv st)) := by unfold Hid escP; rw [if_neg n1, if_neg n2, if_pos ⟨hv, hl⟩]
          clear n1 n2
          go_wp2_with (first | (go_at_call 147; refine (visible_any _ _).mono ?_; rintro e w3 ⟨rfl, rfl⟩) | (go_at_call 156; refine (lod_any _ _).mono ?_; rintro e w3 ⟨rfl, rfl⟩))
          go_ret2
          rw [HE.out]
          exact ⟨rfl, grown_set HB3.out _ _, HR3.out.adv.raise⟩

end Go.Proofs.Ytgjgjgihceijnaa

/- Plain facts: the reader goes on within its text. -/
namespace Go.Stn
theorem vis_lt {t : ByteArray} {a : Nat} (h : visB (peekP t a) = true) : a < t.size := by
  unfold visB at h; rw [decide_eq_true_eq] at h
  rcases Nat.lt_or_ge a t.size with h1 | h1
  · exact h1
  · rw [peekP_end h1] at h; omega
theorem plain_lt {t sp : ByteArray} {a : Nat} (h : plainB (peekP t a) sp = true) : a < t.size := by
  unfold plainB at h; rw [Bool.and_eq_true] at h; exact vis_lt h.1
theorem adv_at (st : PSt) : (adv st).at_ = st.at_ + 1 := rfl

theorem escP_at {t : ByteArray} {st : PSt} (h : st.at_ ≤ t.size) : st.at_ ≤ (escP t st).2.2.at_ ∧ (escP t st).2.2.at_ ≤ t.size := by
  unfold escP
  by_cases h1 : nextB t 110 st = true
  · rw [if_pos h1]; have := nextB_lt (by omega) h1; simp only [adv_at]; omega
  · rw [if_neg h1]
    by_cases h2 : nextB t 115 st = true
    · rw [if_pos h2]; have := nextB_lt (by omega) h2; simp only [adv_at]; omega
    · rw [if_neg h2]
      by_cases h3 : visB (peekP t st.at_) = true ∧ lodB (peekP t st.at_) = false
      · rw [if_pos h3]; have := vis_lt h3.1; simp only [adv_at]; omega
      · rw [if_neg h3]; exact ⟨Nat.le_refl _, h⟩

theorem singleP_at {t sp : ByteArray} {st : PSt} (h : st.at_ ≤ t.size) : st.at_ ≤ (singleP t sp st).2.2.at_ ∧ (singleP t sp st).2.2.at_ ≤ t.size := by
  unfold singleP
  by_cases h1 : nextB t 92 st = true
  · rw [if_pos h1]; have := nextB_lt (by omega) h1; have := escP_at (t := t) (st := adv st) (by rw [adv_at]; omega); rw [adv_at] at this; omega
  · rw [if_neg h1]
    by_cases h2 : plainB (peekP t st.at_) sp = true
    · rw [if_pos h2]; have := plain_lt h2; simp only [adv_at]; omega
    · rw [if_neg h2]; exact ⟨Nat.le_refl _, h⟩

theorem escP_adv {t : ByteArray} {st : PSt} (h : (escP t st).2.1 = true) : st.at_ < (escP t st).2.2.at_ := by
  unfold escP at h ⊢
  by_cases h1 : nextB t 110 st = true
  · rw [if_pos h1]; simp only [adv_at]; omega
  · rw [if_neg h1] at h ⊢
    by_cases h2 : nextB t 115 st = true
    · rw [if_pos h2]; simp only [adv_at]; omega
    · rw [if_neg h2] at h ⊢
      by_cases h3 : visB (peekP t st.at_) = true ∧ lodB (peekP t st.at_) = false
      · rw [if_pos h3]; simp only [adv_at]; omega
      · rw [if_neg h3] at h; simp at h
theorem singleP_adv {t sp : ByteArray} {st : PSt} (h : (singleP t sp st).2.1 = true) : st.at_ < (singleP t sp st).2.2.at_ := by
  unfold singleP at h ⊢
  by_cases h1 : nextB t 92 st = true
  · rw [if_pos h1] at h ⊢; have := escP_adv h; rw [adv_at] at this; omega
  · rw [if_neg h1] at h ⊢
    by_cases h2 : plainB (peekP t st.at_) sp = true
    · rw [if_pos h2]; simp only [adv_at]; omega
    · rw [if_neg h2] at h; simp at h
theorem memberP_at {t : ByteArray} {f : Nat → Bool} {st : PSt} (h : st.at_ ≤ t.size) : st.at_ ≤ (memberP t f st).2.2.at_ ∧ (memberP t f st).2.2.at_ ≤ t.size := by
  have h1 := singleP_at (sp := spIn) h
  obtain ⟨b1, ok1, s1, hS1⟩ : ∃ b ok s, singleP t spIn st = (b, ok, s) := ⟨_, _, _, rfl⟩
  rw [hS1] at h1
  cases ok1 with
  | false => rw [memberP_no1 hS1]; exact h1
  | true =>
    cases hn : nextB t 45 s1 with
    | false => rw [memberP_one hS1 hn]; exact h1
    | true =>
      have hlt := nextB_lt (by omega) hn
      have h2 := singleP_at (sp := spIn) (st := adv s1) (t := t) (by rw [adv_at]; omega)
      obtain ⟨b2, ok2, s2, hS2⟩ : ∃ b ok s, singleP t spIn (adv s1) = (b, ok, s) := ⟨_, _, _, rfl⟩
      rw [hS2, adv_at] at h2
      simp only at h1 h2
      by_cases hb : ok2 = false ∨ b2 < b1
      · rw [memberP_no2 hS1 hn hS2 hb]; simp only; omega
      · have ho : ok2 = true := by cases ok2 <;> simp_all
        subst ho
        rw [memberP_two hS1 hn hS2 (by simp at hb; omega)]; simp only; omega
theorem memberP_adv {t : ByteArray} {f : Nat → Bool} {st : PSt} (h : (memberP t f st).2.1 = true) : st.at_ < (memberP t f st).2.2.at_ := by
  have h1 := @singleP_adv t spIn st
  obtain ⟨b1, ok1, s1, hS1⟩ : ∃ b ok s, singleP t spIn st = (b, ok, s) := ⟨_, _, _, rfl⟩
  rw [hS1] at h1
  cases ok1 with
  | false => rw [memberP_no1 hS1] at h; simp at h
  | true =>
    have h1 := h1 rfl
    cases hn : nextB t 45 s1 with
    | false => rw [memberP_one hS1 hn]; exact h1
    | true =>
      have hlt := nextB_lt (by omega) hn
      have h2 := singleP_at (sp := spIn) (st := adv s1) (t := t) (by rw [adv_at]; omega)
      obtain ⟨b2, ok2, s2, hS2⟩ : ∃ b ok s, singleP t spIn (adv s1) = (b, ok, s) := ⟨_, _, _, rfl⟩
      rw [hS2, adv_at] at h2
      simp only at h1 h2
      by_cases hb : ok2 = false ∨ b2 < b1
      · rw [memberP_no2 hS1 hn hS2 hb] at h; simp at h
      · have ho : ok2 = true := by cases ok2 <;> simp_all
        subst ho
        rw [memberP_two hS1 hn hS2 (by simp at hb; omega)]; simp only; omega

theorem letterP_at {t : ByteArray} {st : PSt} (h : st.at_ ≤ t.size) : st.at_ ≤ (letterP t st).2.2.at_ ∧ (letterP t st).2.2.at_ ≤ t.size := by
  unfold letterP
  by_cases h1 : 65 ≤ peekP t st.at_ ∧ peekP t st.at_ < 69
  · rw [if_pos h1]
    have : st.at_ < t.size := by
      rcases Nat.lt_or_ge st.at_ t.size with h2 | h2
      · exact h2
      · rw [peekP_end h2] at h1; omega
    simp only [adv_at]; omega
  · rw [if_neg h1]; exact ⟨Nat.le_refl _, h⟩

theorem behindP_at {t : ByteArray} {st : PSt} (h : st.at_ ≤ t.size) : st.at_ ≤ (behindP t st).2.2.at_ ∧ (behindP t st).2.2.at_ ≤ t.size := by
  unfold behindP
  by_cases h1 : nextB t 46 st = true
  · rw [if_pos h1]; have := nextB_lt (by omega) h1; simp only [adv_at]; omega
  · rw [if_neg h1]
    by_cases h2 : nextB t 45 st = true
    · rw [if_pos h2]; have := nextB_lt (by omega) h2; simp only [adv_at]; omega
    · rw [if_neg h2]
      have := letterP_at h
      split <;> exact this
end Go.Stn

