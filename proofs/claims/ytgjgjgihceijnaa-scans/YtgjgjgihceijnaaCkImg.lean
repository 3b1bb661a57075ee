/- An image in memory as Parse lays it: its seven cells and two lists; what an append and a draw leave of it. -/
import Derived.Test.YtgjgjgihceijnaaCkParse2
namespace Go.Proofs.Ytgjgjgihceijnaa
open Go.RowKit Go.Stn

theorem Try.infoInt : (Try.prog.info? 3).map (fun i => (i.zero, i.size, i.bytes)) = some (some (.int .i64 0), 1, 8) := by kernel_rfl

/-- What At and States hold. -/
def atRow (s : ByteArray) (c : Nat) : List Value := (List.range c).map fun i => .int .i64 ((iAt s i + 1 : Nat) : Int)
def stRow (s : ByteArray) (c : Nat) : List Value := (List.range c).map fun i => .int .i64 (bt s (iAt s i))

/-- The image in memory: its seven cells; the two lists. -/
structure ImgAt (w : World) (b base : Nat) (s : ByteArray) (ca cs : Nat) (va vs : Value) : Prop where
  c0 : w.cell? ⟨b, 0, none⟩ = some (.string s)
  c1 : w.cell? ⟨b, 1, none⟩ = some (.int .i64 (iR s))
  c2 : w.cell? ⟨b, 2, none⟩ = some (.int .i64 (iM s))
  c3 : w.cell? ⟨b, 3, none⟩ = some (.int .i64 ((6 + iR s : Nat) : Int))
  c4 : w.cell? ⟨b, 4, none⟩ = some (.int .i64 (iK s))
  c5 : w.cell? ⟨b, 5, none⟩ = some va
  c6 : w.cell? ⟨b, 6, none⟩ = some vs
  f5 : w.frozen? ⟨b, 5, none⟩ = false
  f6 : w.frozen? ⟨b, 6, none⟩ = false
  ra : w.ownsRow base 3 1 va ca (atRow s ca)
  rs : w.ownsRow base 3 1 vs cs (stRow s cs)
  hb : b < base
  hz : base ≤ w.heap.size
  ap : va.ownBlock = none ∨ va.ownBlock ≠ vs.ownBlock

theorem ImgAt.drewN {w : World} {b base : Nat} {s : ByteArray} {ca cs : Nat} {va vs : Value} (h : ImgAt w b base s ca cs va vs) (q : Nat) : ImgAt (w.drewN q) b base s ca cs va vs :=
  ⟨h.c0, h.c1, h.c2, h.c3, h.c4, h.c5, h.c6, h.f5, h.f6, h.ra, h.rs, h.hb, h.hz, h.ap⟩

theorem ownsRow_ne {w : World} {base : Nat} {e : TypeId} {size : Nat} {v : Value} {n : Nat} {xs : List Value} (h : w.ownsRow base e size v n xs) {b : Nat} (hb : b < base) : some b ≠ v.ownBlock := by
  intro e
  have := h.lt b e.symm
  omega

/-- Behind an append to At, and the store. -/
theorem ImgAt.app5 {w w1 : World} {b base : Nat} {s : ByteArray} {c cs : Nat} {va vs : Value} (h : ImgAt w b base s c cs va vs) (o : Obj) {g cap : Nat}
    (hown : w1.ownsRow base 3 1 (.slice (some ⟨g, 0, none⟩) (c + 1) cap) (c + 1) (atRow s c ++ [.int .i64 ((iAt s c + 1 : Nat) : Int)]))
    (hgrow : (w.alloc o).grownBy w1 va.ownBlock) (hat : va.ownBlock = some g ∨ g = w.heap.size + 1) :
    ImgAt (w1.setCell ⟨b, 5, none⟩ (.slice (some ⟨g, 0, none⟩) (c + 1) cap)) b base s (c + 1) cs (.slice (some ⟨g, 0, none⟩) (c + 1) cap) vs := by
  have hbz := h.hb
  have hzz := h.hz
  have hne : some b ≠ va.ownBlock := ownsRow_ne h.ra h.hb
  have hcell : ∀ i v, w.cell? ⟨b, i, none⟩ = some v → w1.cell? ⟨b, i, none⟩ = some v := fun i v hv =>
    hgrow.cell (by rw [World.cell?_alloc_past (hn := by omega)]; exact hv) hne
  have hfr : ∀ i, w1.frozen? ⟨b, i, none⟩ = w.frozen? ⟨b, i, none⟩ := fun i => by
    rw [hgrow.frozen_far ⟨b, i, none⟩ (by simp; omega) hne, World.frozen?_alloc_past (hn := by omega)]
  have hoth : ∀ i v, i ≠ 5 → w.cell? ⟨b, i, none⟩ = some v → (w1.setCell ⟨b, 5, none⟩ (.slice (some ⟨g, 0, none⟩) (c + 1) cap)).cell? ⟨b, i, none⟩ = some v := fun i v hi hv => by
    rw [World.cell?_setCell_other (h := by intro e; injection e; omega)]; exact hcell i v hv
  refine ⟨hoth 0 _ (by omega) h.c0, hoth 1 _ (by omega) h.c1, hoth 2 _ (by omega) h.c2, hoth 3 _ (by omega) h.c3, hoth 4 _ (by omega) h.c4,
    World.cell?_setCell_same _ _ _ (hcell 5 _ h.c5), hoth 6 _ (by omega) h.c6, ?_, ?_, ?_, ?_, h.hb, ?_, ?_⟩
  · rw [World.frozen?_setCell, hfr]; exact h.f5
  · rw [World.frozen?_setCell, hfr]; exact h.f6
  · have e : atRow s (c + 1) = atRow s c ++ [.int .i64 ((iAt s c + 1 : Nat) : Int)] := by
      unfold atRow; rw [List.range_succ, List.map_append]; rfl
    rw [e]; exact ownsRow_setCell_below hown h.hb _
  · refine ownsRow_setCell_below ((h.rs.alloc o).kept hgrow ?_) h.hb _
    rcases h.ap with e | e
    · cases hv : vs.ownBlock with
      | none => exact .inl rfl
      | some k => right; rw [e]; simp
    · exact .inr (Ne.symm e)
  · have := hgrow.size; simp [World.setCell] at this ⊢; omega
  · right
    show some g ≠ vs.ownBlock
    intro e
    rcases hat with h1 | h1
    · rcases h.ap with e2 | e2
      · rw [e2] at h1; cases h1
      · exact e2 (h1.trans e)
    · have := h.rs.lt g e.symm; omega

/-- Behind an append to States, and the store. -/
theorem ImgAt.app6 {w w1 : World} {b base : Nat} {s : ByteArray} {c ca : Nat} {va vs : Value} (h : ImgAt w b base s ca c va vs) (o : Obj) {g cap : Nat}
    (hown : w1.ownsRow base 3 1 (.slice (some ⟨g, 0, none⟩) (c + 1) cap) (c + 1) (stRow s c ++ [.int .i64 (bt s (iAt s c))]))
    (hgrow : (w.alloc o).grownBy w1 vs.ownBlock) (hat : vs.ownBlock = some g ∨ g = w.heap.size + 1) :
    ImgAt (w1.setCell ⟨b, 6, none⟩ (.slice (some ⟨g, 0, none⟩) (c + 1) cap)) b base s ca (c + 1) va (.slice (some ⟨g, 0, none⟩) (c + 1) cap) := by
  have hbz := h.hb
  have hzz := h.hz
  have hne : some b ≠ vs.ownBlock := ownsRow_ne h.rs h.hb
  have hcell : ∀ i v, w.cell? ⟨b, i, none⟩ = some v → w1.cell? ⟨b, i, none⟩ = some v := fun i v hv =>
    hgrow.cell (by rw [World.cell?_alloc_past (hn := by omega)]; exact hv) hne
  have hfr : ∀ i, w1.frozen? ⟨b, i, none⟩ = w.frozen? ⟨b, i, none⟩ := fun i => by
    rw [hgrow.frozen_far ⟨b, i, none⟩ (by simp; omega) hne, World.frozen?_alloc_past (hn := by omega)]
  have hoth : ∀ i v, i ≠ 6 → w.cell? ⟨b, i, none⟩ = some v → (w1.setCell ⟨b, 6, none⟩ (.slice (some ⟨g, 0, none⟩) (c + 1) cap)).cell? ⟨b, i, none⟩ = some v := fun i v hi hv => by
    rw [World.cell?_setCell_other (h := by intro e; injection e; omega)]; exact hcell i v hv
  refine ⟨hoth 0 _ (by omega) h.c0, hoth 1 _ (by omega) h.c1, hoth 2 _ (by omega) h.c2, hoth 3 _ (by omega) h.c3, hoth 4 _ (by omega) h.c4,
    hoth 5 _ (by omega) h.c5, World.cell?_setCell_same _ _ _ (hcell 6 _ h.c6), ?_, ?_, ?_, ?_, h.hb, ?_, ?_⟩
  · rw [World.frozen?_setCell, hfr]; exact h.f5
  · rw [World.frozen?_setCell, hfr]; exact h.f6
  · refine ownsRow_setCell_below ((h.ra.alloc o).kept hgrow ?_) h.hb _
    exact h.ap
  · have e : stRow s (c + 1) = stRow s c ++ [.int .i64 (bt s (iAt s c))] := by
      unfold stRow; rw [List.range_succ, List.map_append]; rfl
    rw [e]; exact ownsRow_setCell_below hown h.hb _
  · have := hgrow.size; simp [World.setCell] at this ⊢; omega
  · right
    show va.ownBlock ≠ some g
    intro e
    rcases hat with h1 | h1
    · rcases h.ap with e2 | e2
      · rw [e2] at e; cases e
      · exact e2 (e.trans h1.symm)
    · have := h.ra.lt g e; omega

/-- Behind an append, ahead of the store. -/
theorem ImgAt.kept {w w1 : World} {b base : Nat} {s : ByteArray} {ca cs : Nat} {va vs v : Value} {n : Nat} {xs : List Value} (h : ImgAt w b base s ca cs va vs) {o : Obj}
    (hv : w.ownsRow base 3 1 v n xs) (hgrow : (w.alloc o).grownBy w1 v.ownBlock) :
    w1.cell? ⟨b, 5, none⟩ = some va ∧ w1.frozen? ⟨b, 5, none⟩ = false ∧ w1.cell? ⟨b, 6, none⟩ = some vs ∧ w1.frozen? ⟨b, 6, none⟩ = false := by
  have hbz := h.hb
  have hzz := h.hz
  have hne : some b ≠ v.ownBlock := ownsRow_ne hv h.hb
  have hcell : ∀ i v, w.cell? ⟨b, i, none⟩ = some v → w1.cell? ⟨b, i, none⟩ = some v := fun i v hv =>
    hgrow.cell (by rw [World.cell?_alloc_past (hn := by omega)]; exact hv) hne
  have hfr : ∀ i, w1.frozen? ⟨b, i, none⟩ = w.frozen? ⟨b, i, none⟩ := fun i => by
    rw [hgrow.frozen_far ⟨b, i, none⟩ (by simp; omega) hne, World.frozen?_alloc_past (hn := by omega)]
  exact ⟨hcell 5 _ h.c5, (hfr 5).trans h.f5, hcell 6 _ h.c6, (hfr 6).trans h.f6⟩

/-- Where the loop begins. -/
theorem ImgAt.start (w : World) (s : ByteArray) (k q1 q2 : Nat) (hk : iK s = k + 1) :
    ImgAt (((((w.alloc (.cells #[.string s, .int .i64 (iR s), .int .i64 (iM s), .int .i64 0, .int .i64 0, .slice none 0 0, .slice none 0 0] 160)).drewN q1).setCell ⟨w.heap.size, 4, none⟩ (.int .i64 ((k : Int) + 1))).setCell
      ⟨w.heap.size, 3, none⟩ (.int .i64 (4 + (iR s : Int) + 2))).drewN q2) w.heap.size (w.heap.size + 1) s 0 0 (.slice none 0 0) (.slice none 0 0) := by
  have hc : ∀ i v, #[Value.string s, .int .i64 (iR s), .int .i64 (iM s), .int .i64 0, .int .i64 0, .slice none 0 0, .slice none 0 0][i]? = some v →
      ((w.alloc (.cells #[.string s, .int .i64 (iR s), .int .i64 (iM s), .int .i64 0, .int .i64 0, .slice none 0 0, .slice none 0 0] 160)).drewN q1).cell? ⟨w.heap.size, i, none⟩ = some v := fun i v h => by
    show (w.alloc _).cell? _ = _
    rw [World.cell?_alloc_new]; exact h
  have hf : ∀ i, ((w.alloc (.cells #[.string s, .int .i64 (iR s), .int .i64 (iM s), .int .i64 0, .int .i64 0, .slice none 0 0, .slice none 0 0] 160)).drewN q1).frozen? ⟨w.heap.size, i, none⟩ = false := fun i => by
    show (w.alloc _).frozen? _ = _
    rw [World.frozen?_alloc_new]
  have hsz : ((w.alloc (.cells #[.string s, .int .i64 (iR s), .int .i64 (iM s), .int .i64 0, .int .i64 0, .slice none 0 0, .slice none 0 0] 160)).drewN q1).heap.size = w.heap.size + 1 := by
    show (w.alloc _).heap.size = _
    simp
  generalize ((w.alloc (.cells #[.string s, .int .i64 (iR s), .int .i64 (iM s), .int .i64 0, .int .i64 0, .slice none 0 0, .slice none 0 0] 160)).drewN q1) = W at *
  refine ImgAt.drewN ?_ q2
  have hoth : ∀ i v, i ≠ 3 → i ≠ 4 → W.cell? ⟨w.heap.size, i, none⟩ = some v → ((W.setCell ⟨w.heap.size, 4, none⟩ (.int .i64 ((k : Int) + 1))).setCell ⟨w.heap.size, 3, none⟩ (.int .i64 (4 + (iR s : Int) + 2))).cell? ⟨w.heap.size, i, none⟩ = some v := fun i v h3 h4 hv => by
    rw [World.cell?_setCell_other (h := by intro e; injection e; omega), World.cell?_setCell_other (h := by intro e; injection e; omega)]; exact hv
  refine ⟨hoth 0 _ (by omega) (by omega) (hc 0 _ rfl), hoth 1 _ (by omega) (by omega) (hc 1 _ rfl), hoth 2 _ (by omega) (by omega) (hc 2 _ rfl), ?_, ?_,
    hoth 5 _ (by omega) (by omega) (hc 5 _ rfl), hoth 6 _ (by omega) (by omega) (hc 6 _ rfl), ?_, ?_, World.ownsRow_nil _ _ _ _, World.ownsRow_nil _ _ _ _, by omega, ?_, .inl rfl⟩
  · rw [World.cell?_setCell_same (u := .int .i64 0)]
    · congr 2; omega
    · rw [World.cell?_setCell_other (h := by intro e; injection e; omega)]; exact hc 3 _ rfl
  · rw [World.cell?_setCell_other (h := by intro e; injection e; omega), World.cell?_setCell_same (h := hc 4 _ rfl)]
    rw [hk]; rfl
  · rw [World.frozen?_setCell, World.frozen?_setCell]; exact hf 5
  · rw [World.frozen?_setCell, World.frozen?_setCell]; exact hf 6
  · simp [World.setCell]; omega

theorem iAt_small {s : ByteArray} {c : Nat} (hs : s.size ≤ 120000) (h8 : iR s ≤ 8) (h : ∀ l, l < c → stOk s (iR s) (iK s) (iAt s l) = true) : iAt s c ≤ 120000 := by
  cases c with
  | zero => show 262 + iR s ≤ 120000; omega
  | succ n => have := (iAt_step (h n (Nat.lt_succ_self n))).2; omega

end Go.Proofs.Ytgjgjgihceijnaa
