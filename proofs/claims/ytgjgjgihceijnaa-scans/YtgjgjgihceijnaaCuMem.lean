/- An image that layout.Read laid in memory, as cut reads it. -/
import Derived.Test.YtgjgjgihceijnaaLyRead
namespace Go.Stn
open Go.RowKit
theorem stC_get (cl : Nat) (zs : List ((Nat × List Int) × Nat)) : ∀ (k : Nat) (z : (Nat × List Int) × Nat), zs[k]? = some z → (stC cl zs)[2 * k]? = some (.int .i64 (z.1.1 : Int)) ∧ (stC cl zs)[2 * k + 1]? = some (.slice (some ⟨z.2, 0, none⟩) cl cl) := by
  induction zs with
  | nil => intro k z h; simp at h
  | cons y r ih =>
    intro k z h
    have e : stC cl (y :: r) = Value.int .i64 (y.1.1 : Int) :: Value.slice (some ⟨y.2, 0, none⟩) cl cl :: stC cl r := by simp [stC]
    rw [e]
    cases k with
    | zero => simp at h; subst h; exact ⟨rfl, rfl⟩
    | succ j =>
      have := ih j z (by simpa using h)
      rw [show 2 * (j + 1) = 2 * j + 1 + 1 by omega]
      exact ⟨by simpa using this.1, by simpa using this.2⟩
theorem condC_get (ys : List CondG) (k : Nat) (y : CondG) (h : ys[k]? = some y) : (condC ys)[k]? = some (.slice (some ⟨y.1, 0, none⟩) y.2.length y.2.length) := by
  unfold condC; rw [List.getElem?_map, h]; rfl
theorem intC_get (l : List Int) (k : Nat) (x : Int) (h : l[k]? = some x) : (intC l)[k]? = some (.int .i64 x) := by
  unfold intC; rw [List.getElem?_map, h]; rfl

/-- Where a byte leads, as a number: -1 for nowhere. -/
def leadJ (s : ByteArray) (c st v : Nat) : Int := leadI (leadN s c st v)

/-- An image in memory, below top. -/
structure IM (w : World) (s : ByteArray) (bb vg : Nat) (yb : Nat → Nat) (zb : Nat → Nat → Nat) (top : Nat) : Prop where
  be : ∀ r, r < iR s → w.cell? ⟨bb, r, none⟩ = some (.int .i64 (thenB s r))
  co : ∀ c, c < iM s → w.cell? ⟨vg, c, none⟩ = some (.slice (some ⟨yb c, 0, none⟩) (nSt s c) (nSt s c))
  tk : ∀ c st, c < iM s → st < nSt s c → w.cell? ⟨yb c, 2 * st, none⟩ = some (.int .i64 (markN s c st))
  nx : ∀ c st, c < iM s → st < nSt s c → w.cell? ⟨yb c, 2 * st + 1, none⟩ = some (.slice (some ⟨zb c st, 0, none⟩) (iK s) (iK s))
  ld : ∀ c st v, c < iM s → st < nSt s c → v < 256 → w.cell? ⟨zb c st, clsN s v, none⟩ = some (.int .i64 (leadJ s c st v))
  b0 : bb < top
  b1 : vg < top
  b2 : ∀ c, c < iM s → yb c < top
  b3 : ∀ c st, c < iM s → st < nSt s c → zb c st < top

theorem IM.below {w w' : World} {s : ByteArray} {bb vg : Nat} {yb : Nat → Nat} {zb : Nat → Nat → Nat} {top B : Nat} (h : IM w s bb vg yb zb top) (hB : Below B w w') (hb : top ≤ B) : IM w' s bb vg yb zb top :=
  ⟨fun r hr => (hB.cell (p := ⟨bb, r, none⟩) (Nat.lt_of_lt_of_le h.b0 hb)).trans (h.be r hr), fun c hc => (hB.cell (p := ⟨vg, c, none⟩) (Nat.lt_of_lt_of_le h.b1 hb)).trans (h.co c hc),
    fun c st hc hs => (hB.cell (p := ⟨yb c, 2 * st, none⟩) (Nat.lt_of_lt_of_le (h.b2 c hc) hb)).trans (h.tk c st hc hs), fun c st hc hs => (hB.cell (p := ⟨yb c, 2 * st + 1, none⟩) (Nat.lt_of_lt_of_le (h.b2 c hc) hb)).trans (h.nx c st hc hs),
    fun c st v hc hs hv => (hB.cell (p := ⟨zb c st, clsN s v, none⟩) (Nat.lt_of_lt_of_le (h.b3 c st hc hs) hb)).trans (h.ld c st v hc hs hv), h.b0, h.b1, h.b2, h.b3⟩
theorem IM.drewN {w : World} {s : ByteArray} {bb vg : Nat} {yb : Nat → Nat} {zb : Nat → Nat → Nat} {top : Nat} (h : IM w s bb vg yb zb top) (q : Nat) : IM (w.drewN q) s bb vg yb zb top := ⟨h.be, h.co, h.tk, h.nx, h.ld, h.b0, h.b1, h.b2, h.b3⟩
end Go.Stn
namespace Go.Proofs.Ytgjgjgihceijnaa
open Go.RowKit Go.Stn

/-- What Read laid, to be read. -/
theorem read_mem {w : World} {s : ByteArray} (hi : imgOk s = true) {bb : Nat} {vc : Value} {ys : List CondG} (hn : NatsIn w 0 bb (lBehind s)) (ho : w.ownsRow (bb + 1) 143 1 vc ys.length (condC ys))
    (hm : ys.map (fun y => y.2.map (·.1)) = lConds s) (hc : ∀ y ∈ ys, CondIn w (lClasses s) y) : ∃ vg cap yb zb, vc = .slice (some ⟨vg, 0, none⟩) (iM s) cap ∧ IM w s bb vg yb zb w.heap.size := by
  have hd := img_read hi
  have hcs := (img_conds hi).1
  have hlen : ys.length = iM s := by have := congrArg List.length (hm.trans hcs); simpa using this
  have hM := (img_head hi).2.2.1
  have hlt := ho.lt
  obtain ⟨g, cap, rfl, hbg, hgl⟩ := ho.form (by omega)
  have hrow := row_range ho
  have hy : ∀ c, c < iM s → ∃ y, ys[c]? = some y ∧ y ∈ ys ∧ y.2.map (·.1) = condV s c := fun c hc' => by
    have hcl : c < ys.length := by omega
    refine ⟨ys[c], List.getElem?_eq_getElem hcl, List.getElem_mem hcl, ?_⟩
    have := congrArg (fun l => l[c]?) (hm.trans hcs)
    simp only [List.getElem?_map, List.getElem?_eq_getElem hcl, List.getElem?_range hc', Option.map_some] at this
    injection this
  have hz : ∀ c st, c < iM s → st < nSt s c → ∀ y, ys[c]? = some y → y ∈ ys → y.2.map (·.1) = condV s c → ∃ z, y.2[st]? = some z ∧ z ∈ y.2 ∧ z.1 = rowV s (iK s) (rwAt s c st) := fun c st hc' hs' y _ _ he => by
    have hl : y.2.length = nSt s c := by have := congrArg List.length he; unfold condV at this; simpa using this
    have hsl : st < y.2.length := by omega
    refine ⟨y.2[st], List.getElem?_eq_getElem hsl, List.getElem_mem hsl, ?_⟩
    have := congrArg (fun l => l[st]?) he
    unfold condV at this
    simp only [List.getElem?_map, List.getElem?_eq_getElem hsl, List.getElem?_range hs', Option.map_some] at this
    injection this
  have hlenY : ∀ c, c < iM s → ∀ y, ys[c]? = some y → y.2.map (·.1) = condV s c → y.2.length = nSt s c := fun c _ y _ he => by
    have := congrArg List.length he; unfold condV at this; simpa using this
  have cellAt : ∀ (b k : Nat) (l : List Value) (v : Value), w.rangeAt b 0 l → l[k]? = some v → w.cell? ⟨b, k, none⟩ = some v := fun b k l v hr hk => by
    have := hr k v hk; rw [Nat.zero_add] at this; exact this
  refine ⟨g, cap, fun c => ((ys[c]?).getD (0, [])).1, fun c st => ((((ys[c]?).getD (0, [])).2[st]?).getD ((0, []), 0)).2, by rw [hlen], ?_⟩
  refine ⟨fun r hr => ?_, fun c hc' => ?_, fun c st hc' hs' => ?_, fun c st hc' hs' => ?_, fun c st v hc' hs' hv => ?_, hn.2.1, (hlt g rfl).2, fun c hc' => ?_, fun c st hc' hs' => ?_⟩
  · refine cellAt _ _ _ _ hn.2.2 ?_
    rw [hd.be]
    unfold natC
    rw [List.getElem?_map, List.getElem?_map, List.getElem?_range hr]; rfl
  · obtain ⟨y, h1, h2, h3⟩ := hy c hc'
    refine cellAt _ _ _ _ hrow ?_
    rw [condC_get ys c y h1, h1, hlenY c hc' y h1 h3]; rfl
  · obtain ⟨y, h1, h2, h3⟩ := hy c hc'
    obtain ⟨z, h4, h5, h6⟩ := hz c st hc' hs' y h1 h2 h3
    simp only [h1, Option.getD_some]
    refine cellAt _ _ _ _ (hc y h2).rg ?_
    rw [(stC_get _ _ st z h4).1, h6]; rfl
  · obtain ⟨y, h1, h2, h3⟩ := hy c hc'
    obtain ⟨z, h4, h5, h6⟩ := hz c st hc' hs' y h1 h2 h3
    simp only [h1, Option.getD_some, h4]
    refine cellAt _ _ _ _ (hc y h2).rg ?_
    rw [(stC_get _ _ st z h4).2, hd.cl]
  · obtain ⟨y, h1, h2, h3⟩ := hy c hc'
    obtain ⟨z, h4, h5, h6⟩ := hz c st hc' hs' y h1 h2 h3
    simp only [h1, Option.getD_some, h4]
    refine cellAt _ _ _ _ ((hc y h2).rows z h5).2 (intC_get _ _ _ ?_)
    rw [h6]
    unfold rowV
    rw [List.getElem?_map, List.getElem?_range (cls_lt hi v hv)]
    unfold leadJ leadN
    rw [Option.map_some, show rwAt s c st + (clsN s v + 1) = rwAt s c st + 1 + clsN s v by omega]
  · obtain ⟨y, h1, h2, h3⟩ := hy c hc'
    simp only [h1, Option.getD_some]
    exact (hc y h2).lt
  · obtain ⟨y, h1, h2, h3⟩ := hy c hc'
    obtain ⟨z, h4, h5, h6⟩ := hz c st hc' hs' y h1 h2 h3
    simp only [h1, Option.getD_some, h4]
    exact ((hc y h2).rows z h5).1
end Go.Proofs.Ytgjgjgihceijnaa
