/- Texts put together: CkImg, CkParse3, CkCheck, LyRead, CuMem. -/
import Derived.Test.YtgjgjgihceijnaaG04
import Derived.Test.YtgjgjgihceijnaaG02
/- An image in memory as Parse lays it: its seven cells and two lists; what an append and a draw leave of it. -/
namespace Go.Proofs.Ytgjgjgihceijnaa
open Go.RowKit Go.Stn


/-- What At and States hold. -/
def atRow (s : ByteArray) (c : Nat) : List Value := (List.range c).map fun i => .int .i64 ((iAt s i + 1 : Nat) : Int)
def stRow (s : ByteArray) (c : Nat) : List Value := (List.range c).map fun i => .int .i64 (bt s (iAt s i))

/-- The image in memory: its seven cells; the two lists. -/
structure ImgAt (w : World) (b base : Nat) (s : ByteArray) (ca cs : Nat) (va vs : Value) : Prop where
  c0 : w.cell? ⟨b, 0, none⟩ = some (.string s)
  c1 : w.cell? ⟨b, 1, none⟩ = some (.int .i64 (iR s))
  c2 : w.cell? ⟨b, 2, none⟩ = some (.int .i64 (iM s))
  c3 : w.cell? ⟨b, 3, none⟩ = some (.int .i64 ((6 + iR s : Nat) : Int))
  c4 : w.cell? ⟨b, 4, none⟩ = some (.int .i64 (iK s))
  c5 : w.cell? ⟨b, 5, none⟩ = some va
  c6 : w.cell? ⟨b, 6, none⟩ = some vs
  f5 : w.frozen? ⟨b, 5, none⟩ = false
  f6 : w.frozen? ⟨b, 6, none⟩ = false
  ra : w.ownsRow base 3 1 va ca (atRow s ca)
  rs : w.ownsRow base 3 1 vs cs (stRow s cs)
  hb : b < base
  hz : base ≤ w.heap.size
  ap : va.ownBlock = none ∨ va.ownBlock ≠ vs.ownBlock

theorem ImgAt.drewN {w : World} {b base : Nat} {s : ByteArray} {ca cs : Nat} {va vs : Value} (h : ImgAt w b base s ca cs va vs) (q : Nat) : ImgAt (w.drewN q) b base s ca cs va vs :=
  ⟨h.c0, h.c1, h.c2, h.c3, h.c4, h.c5, h.c6, h.f5, h.f6, h.ra, h.rs, h.hb, h.hz, h.ap⟩

theorem ownsRow_ne {w : World} {base : Nat} {e : TypeId} {size : Nat} {v : Value} {n : Nat} {xs : List Value} (h : w.ownsRow base e size v n xs) {b : Nat} (hb : b < base) : some b ≠ v.ownBlock := by
  intro e
  have := h.lt b e.symm
  omega

/-- Behind an append to At, and the store. -/
theorem ImgAt.app5 {w w1 : World} {b base : Nat} {s : ByteArray} {c cs : Nat} {va vs : Value} (h : ImgAt w b base s c cs va vs) (o : Obj) {g cap : Nat}
    (hown : w1.ownsRow base 3 1 (.slice (some ⟨g, 0, none⟩) (c + 1) cap) (c + 1) (atRow s c ++ [.int .i64 ((iAt s c + 1 : Nat) : Int)]))
    (hgrow : (w.alloc o).grownBy w1 va.ownBlock) (hat : va.ownBlock = some g ∨ g = w.heap.size + 1) :
    ImgAt (w1.setCell ⟨b, 5, none⟩ (.slice (some ⟨g, 0, none⟩) (c + 1) cap)) b base s (c + 1) cs (.slice (some ⟨g, 0, none⟩) (c + 1) cap) vs := by
  have hbz := h.hb
  have hzz := h.hz
  have hne : some b ≠ va.ownBlock := ownsRow_ne h.ra h.hb
  have hcell : ∀ i v, w.cell? ⟨b, i, none⟩ = some v → w1.cell? ⟨b, i, none⟩ = some v := fun i v hv =>
    hgrow.cell (by rw [World.cell?_alloc_past (hn := by omega)]; exact hv) hne
  have hfr : ∀ i, w1.frozen? ⟨b, i, none⟩ = w.frozen? ⟨b, i, none⟩ := fun i => by
    rw [hgrow.frozen_far ⟨b, i, none⟩ (by simp; omega) hne, World.frozen?_alloc_past (hn := by omega)]
  have hoth : ∀ i v, i ≠ 5 → w.cell? ⟨b, i, none⟩ = some v → (w1.setCell ⟨b, 5, none⟩ (.slice (some ⟨g, 0, none⟩) (c + 1) cap)).cell? ⟨b, i, none⟩ = some v := fun i v hi hv => by
    rw [World.cell?_setCell_other (h := by intro e; injection e; omega)]; exact hcell i v hv
  refine ⟨hoth 0 _ (by omega) h.c0, hoth 1 _ (by omega) h.c1, hoth 2 _ (by omega) h.c2, hoth 3 _ (by omega) h.c3, hoth 4 _ (by omega) h.c4,
    World.cell?_setCell_same _ _ _ (hcell 5 _ h.c5), hoth 6 _ (by omega) h.c6, ?_, ?_, ?_, ?_, h.hb, ?_, ?_⟩
  · rw [World.frozen?_setCell, hfr]; exact h.f5
  · rw [World.frozen?_setCell, hfr]; exact h.f6
  · have e : atRow s (c + 1) = atRow s c ++ [.int .i64 ((iAt s c + 1 : Nat) : Int)] := by
      unfold atRow; rw [List.range_succ, List.map_append]; rfl
    rw [e]; exact ownsRow_setCell_below hown h.hb _
  · refine ownsRow_setCell_below ((h.rs.alloc o).kept hgrow ?_) h.hb _
    rcases h.ap with e | e
    · cases hv : vs.ownBlock with
      | none => exact .inl rfl
      | some k => right; rw [e]; simp
    · exact .inr (Ne.symm e)
  · have := hgrow.size; simp [World.setCell] at this ⊢; omega
  · right
    show some g ≠ vs.ownBlock
    intro e
    rcases hat with h1 | h1
    · rcases h.ap with e2 | e2
      · rw [e2] at h1; cases h1
      · exact e2 (h1.trans e)
    · have := h.rs.lt g e.symm; omega

/-- Behind an append to States, and the store. -/
theorem ImgAt.app6 {w w1 : World} {b base : Nat} {s : ByteArray} {c ca : Nat} {va vs : Value} (h : ImgAt w b base s ca c va vs) (o : Obj) {g cap : Nat}
    (hown : w1.ownsRow base 3 1 (.slice (some ⟨g, 0, none⟩) (c + 1) cap) (c + 1) (stRow s c ++ [.int .i64 (bt s (iAt s c))]))
    (hgrow : (w.alloc o).grownBy w1 vs.ownBlock) (hat : vs.ownBlock = some g ∨ g = w.heap.size + 1) :
    ImgAt (w1.setCell ⟨b, 6, none⟩ (.slice (some ⟨g, 0, none⟩) (c + 1) cap)) b base s ca (c + 1) va (.slice (some ⟨g, 0, none⟩) (c + 1) cap) := by
  have hbz := h.hb
  have hzz := h.hz
  have hne : some b ≠ vs.ownBlock := ownsRow_ne h.rs h.hb
  have hcell : ∀ i v, w.cell? ⟨b, i, none⟩ = some v → w1.cell? ⟨b, i, none⟩ = some v := fun i v hv =>
    hgrow.cell (by rw [World.cell?_alloc_past (hn := by omega)]; exact hv) hne
  have hfr : ∀ i, w1.frozen? ⟨b, i, none⟩ = w.frozen? ⟨b, i, none⟩ := fun i => by
    rw [hgrow.frozen_far ⟨b, i, none⟩ (by simp; omega) hne, World.frozen?_alloc_past (hn := by omega)]
  have hoth : ∀ i v, i ≠ 6 → w.cell? ⟨b, i, none⟩ = some v → (w1.setCell ⟨b, 6, none⟩ (.slice (some ⟨g, 0, none⟩) (c + 1) cap)).cell? ⟨b, i, none⟩ = some v := fun i v hi hv => by
    rw [World.cell?_setCell_other (h := by intro e; injection e; omega)]; exact hcell i v hv
  refine ⟨hoth 0 _ (by omega) h.c0, hoth 1 _ (by omega) h.c1, hoth 2 _ (by omega) h.c2, hoth 3 _ (by omega) h.c3, hoth 4 _ (by omega) h.c4,
    hoth 5 _ (by omega) h.c5, World.cell?_setCell_same _ _ _ (hcell 6 _ h.c6), ?_, ?_, ?_, ?_, h.hb, ?_, ?_⟩
  · rw [World.frozen?_setCell, hfr]; exact h.f5
  · rw [World.frozen?_setCell, hfr]; exact h.f6
  · refine ownsRow_setCell_below ((h.ra.alloc o).kept hgrow ?_) h.hb _
    exact h.ap
  · have e : stRow s (c + 1) = stRow s c ++ [.int .i64 (bt s (iAt s c))] := by
      unfold stRow; rw [List.range_succ, List.map_append]; rfl
    rw [e]; exact ownsRow_setCell_below hown h.hb _
  · have := hgrow.size; simp [World.setCell] at this ⊢; omega
  · right
    show va.ownBlock ≠ some g
    intro e
    rcases hat with h1 | h1
    · rcases h.ap with e2 | e2
      · rw [e2] at e; cases e
      · exact e2 (e.trans h1.symm)
    · have := h.ra.lt g e; omega

/-- Behind an append, ahead of the store. -/
theorem ImgAt.kept {w w1 : World} {b base : Nat} {s : ByteArray} {ca cs : Nat} {va vs v : Value} {n : Nat} {xs : List Value} (h : ImgAt w b base s ca cs va vs) {o : Obj}
    (hv : w.ownsRow base 3 1 v n xs) (hgrow : (w.alloc o).grownBy w1 v.ownBlock) :
    w1.cell? ⟨b, 5, none⟩ = some va ∧ w1.frozen? ⟨b, 5, none⟩ = false ∧ w1.cell? ⟨b, 6, none⟩ = some vs ∧ w1.frozen? ⟨b, 6, none⟩ = false := by
  have hbz := h.hb
  have hzz := h.hz
  have hne : some b ≠ v.ownBlock := ownsRow_ne hv h.hb
  have hcell : ∀ i v, w.cell? ⟨b, i, none⟩ = some v → w1.cell? ⟨b, i, none⟩ = some v := fun i v hv =>
    hgrow.cell (by rw [World.cell?_alloc_past (hn := by omega)]; exact hv) hne
  have hfr : ∀ i, w1.frozen? ⟨b, i, none⟩ = w.frozen? ⟨b, i, none⟩ := fun i => by
    rw [hgrow.frozen_far ⟨b, i, none⟩ (by simp; omega) hne, World.frozen?_alloc_past (hn := by omega)]
  exact ⟨hcell 5 _ h.c5, (hfr 5).trans h.f5, hcell 6 _ h.c6, (hfr 6).trans h.f6⟩

/-- Where the loop begins. -/
theorem ImgAt.start (w : World) (s : ByteArray) (k q1 q2 : Nat) (hk : iK s = k + 1) :
    ImgAt (((((w.alloc (.cells #[.string s, .int .i64 (iR s), .int .i64 (iM s), .int .i64 0, .int .i64 0, .slice none 0 0, .slice none 0 0] 160)).drewN q1).setCell ⟨w.heap.size, 4, none⟩ (.int .i64 ((k : Int) + 1))).setCell
      ⟨w.heap.size, 3, none⟩ (.int .i64 (4 + (iR s : Int) + 2))).drewN q2) w.heap.size (w.heap.size + 1) s 0 0 (.slice none 0 0) (.slice none 0 0) := by
  have hc : ∀ i v, #[Value.string s, .int .i64 (iR s), .int .i64 (iM s), .int .i64 0, .int .i64 0, .slice none 0 0, .slice none 0 0][i]? = some v →
      ((w.alloc (.cells #[.string s, .int .i64 (iR s), .int .i64 (iM s), .int .i64 0, .int .i64 0, .slice none 0 0, .slice none 0 0] 160)).drewN q1).cell? ⟨w.heap.size, i, none⟩ = some v := fun i v h => by
    show (w.alloc _).cell? _ = _
    rw [World.cell?_alloc_new]; exact h
  have hf : ∀ i, ((w.alloc (.cells #[.string s, .int .i64 (iR s), .int .i64 (iM s), .int .i64 0, .int .i64 0, .slice none 0 0, .slice none 0 0] 160)).drewN q1).frozen? ⟨w.heap.size, i, none⟩ = false := fun i => by
    show (w.alloc _).frozen? _ = _
    rw [World.frozen?_alloc_new]
  have hsz : ((w.alloc (.cells #[.string s, .int .i64 (iR s), .int .i64 (iM s), .int .i64 0, .int .i64 0, .slice none 0 0, .slice none 0 0] 160)).drewN q1).heap.size = w.heap.size + 1 := by
    show (w.alloc _).heap.size = _
    simp
  generalize ((w.alloc (.cells #[.string s, .int .i64 (iR s), .int .i64 (iM s), .int .i64 0, .int .i64 0, .slice none 0 0, .slice none 0 0] 160)).drewN q1) = W at *
  refine ImgAt.drewN ?_ q2
  have hoth : ∀ i v, i ≠ 3 → i ≠ 4 → W.cell? ⟨w.heap.size, i, none⟩ = some v → ((W.setCell ⟨w.heap.size, 4, none⟩ (.int .i64 ((k : Int) + 1))).setCell ⟨w.heap.size, 3, none⟩ (.int .i64 (4 + (iR s : Int) + 2))).cell? ⟨w.heap.size, i, none⟩ = some v := fun i v h3 h4 hv => by
    rw [World.cell?_setCell_other (h := by intro e; injection e; omega), World.cell?_setCell_other (h := by intro e; injection e; omega)]; exact hv
  refine ⟨hoth 0 _ (by omega) (by omega) (hc 0 _ rfl), hoth 1 _ (by omega) (by omega) (hc 1 _ rfl), hoth 2 _ (by omega) (by omega) (hc 2 _ rfl), ?_, ?_,
    hoth 5 _ (by omega) (by omega) (hc 5 _ rfl), hoth 6 _ (by omega) (by omega) (hc 6 _ rfl), ?_, ?_, World.ownsRow_nil _ _ _ _, World.ownsRow_nil _ _ _ _, by omega, ?_, .inl rfl⟩
  · rw [World.cell?_setCell_same (u := .int .i64 0)]
    · congr 2; omega
    · rw [World.cell?_setCell_other (h := by intro e; injection e; omega)]; exact hc 3 _ rfl
  · rw [World.cell?_setCell_other (h := by intro e; injection e; omega), World.cell?_setCell_same (h := hc 4 _ rfl)]
    rw [hk]; rfl
  · rw [World.frozen?_setCell, World.frozen?_setCell]; exact hf 5
  · rw [World.frozen?_setCell, World.frozen?_setCell]; exact hf 6
  · simp [World.setCell]; omega

theorem iAt_small {s : ByteArray} {c : Nat} (hs : s.size ≤ 120000) (h8 : iR s ≤ 8) (h : ∀ l, l < c → stOk s (iR s) (iK s) (iAt s l) = true) : iAt s c ≤ 120000 := by
  cases c with
  | zero => show 262 + iR s ≤ 120000; omega
  | succ n => have := (iAt_step (h n (Nat.lt_succ_self n))).2; omega

end Go.Proofs.Ytgjgjgihceijnaa

/- stencilref.Parse: the head is fine. -/
namespace Go.Proofs.Ytgjgjgihceijnaa
open Go.RowKit Go.Stn

set_option maxRecDepth 100000 in
set_option maxHeartbeats 2000000 in
theorem parse_head (s : ByteArray) (w : World) (hs : s.size ≤ 120000) (hA : headA s = true) (hB : headB s = true) (hC : headC s = true) :
    Calls Try.prog 47 #[.string s] w fun e w' =>
      ∃ v, e = .returned (.tuple #[v, .bool (imgOk s)]) ∧ Below w.heap.size w w' ∧ (imgOk s = true → v = .pointer (some ⟨w.heap.size, 0, none⟩) ∧ ∃ va vs, ImgAt w' w.heap.size (w.heap.size + 1) s (iM s) (iM s) va vs) := by
  obtain ⟨h4, hp, h1, h8⟩ := headA_iff.1 hA
  have hp := (pre3 s (by omega)).2 hp
  have hb3 : (s[3]).toNat = iR s := bt_eq s 3 (by omega)
  have hB2 := hB
  unfold headB at hB2
  simp only [Bool.and_eq_true, decide_eq_true_eq] at hB2
  obtain ⟨hb, hz⟩ := hB2
  have hlt := belowB_size hb
  have hm4 := belowB_le hb 0 (by omega)
  have hbe : (s[4 + iR s]).toNat = iM s := bt_eq s (4 + iR s) (by omega)
  have hm4 : iM s ≤ 4 := by unfold iM; simp at hm4; omega
  have hC2 := hC
  unfold headC at hC2
  simp only [Bool.and_eq_true] at hC2
  obtain ⟨hc1, hc2⟩ := hC2
  have hlt2 := belowB_size hc2
  have hbk : (s[4 + iR s + 1]).toNat = bt s (5 + iR s) := by rw [bt_eq s (4 + iR s + 1) (by omega)]; congr 1; omega
  have hkl := bt_lt s (5 + iR s)
  have hz0 : ((iM s : Int) == 0) = false := beq_eq_false_iff_ne.2 (by omega)
  have HK : Hid (iK s = bt s (5 + iR s) + 1) := rfl
  have hd4 : decide ((s.size : Int) < 4) = false := by simp; omega
  have hd1 : decide ((iR s : Int) < 1) = false := by simp; omega
  have hd8 : decide (8 < (iR s : Int)) = false := by simp; omega
  by_cases hD : headD s = true
  · have hd : belowB s (6 + iR s) 256 (bt s (5 + iR s) : Int) = true := by
      have : headD s = belowB s (6 + iR s) 256 (bt s (5 + iR s) : Int) := by unfold headD iK; congr 1; omega
      rw [← this]; exact hD
    have hlt3 := belowB_size hd
    have HH : Hid (headA s = true ∧ headB s = true ∧ headC s = true ∧ headD s = true) := ⟨hA, hB, hC, hD⟩
    clear hA hB hC hD
    generalize hkk : bt s (5 + iR s) = k at *
    have HKK : Hid (bt s (5 + iR s) = k) := hkk
    clear hkk
    go_enter Try.func47, Try.ntmps47
    go_wp2_with (first | (go_at_call 71; refine (below_any s (4 + iR s) 1 4 _ (by unfold maxLen; omega) (by omega) (by omega)).mono ?_; rintro e w ⟨rfl, rfl⟩))
    go_quiet ((go_at_call 71; exact Calls.quiet_of_same (below_any s 4 (iR s) (1 + iM s) _ (by unfold maxLen; omega) (by omega) (by omega))))
    go_wp2_with fail
    refine (below_z s (5 + iR s) 1 _ _ 255 _ (by omega) (by omega) (by omega) (by omega) rfl).mono ?_
    rintro e w ⟨rfl, rfl⟩
    go_wp2_with fail
    go_quiet ((go_at_call 71; exact Calls.quiet_of_same (below_z s (6 + iR s) 256 _ _ k _ (by omega) (by omega) (by omega) (by omega) rfl)))
    go_wp2_with fail
    rw [hd]
    go_loopw [8, 9] (fun a c wr => ∃ (cn : Nat) (va vs : Value), cn ≤ iM s ∧ c = .int .i64 cn ∧ a = .int .i64 (iAt s cn) ∧ (∀ l, l < cn → stOk s (iR s) (iK s) (iAt s l) = true) ∧ ImgAt wr w.heap.size (w.heap.size + 1) s cn cn va vs ∧ Below w.heap.size w wr)
      (fun _ c _ => 4 - (intOf c).toNat)
    case atStart =>
      refine ⟨0, .slice none 0 0, .slice none 0 0, Nat.zero_le _, rfl, ?_, fun l h => absurd h (Nat.not_lt_zero _), ?_, ?_⟩
      · show _ = Value.int .i64 ((262 + iR s : Nat) : Int); go_num
      · exact ImgAt.start w s k _ _ (by rw [HK.out])
      · exact _root_.Go.below_drewN (((_root_.Go.below_drewN ((Below.refl w.heap.size w).alloc (Nat.le_refl _) _) _).setCell (p := ⟨w.heap.size, 4, none⟩) (Nat.le_refl _) _).setCell (p := ⟨w.heap.size, 3, none⟩) (Nat.le_refl _) _) _
    case round =>
      obtain ⟨cn, va, vs, hcn, rfl, rfl, hall, himg, hbel⟩ := hrel
      have hsm := iAt_small hs h8 hall
      have hic2 := himg.c2
      have HA : Hid (∀ l, l < cn → stOk s (iR s) (iK s) (iAt s l) = true) := hall
      clear hall
      have hBz := hbel.size
      by_cases hlt4 : cn < iM s
      · cases hst : stOk s (iR s) (iK s) (iAt s cn) with
        | false =>
          have hno := not_img_st hlt4 hst
          have hno2 := st_no (s := s) (rules := iR s) (many := iK s) (i := iAt s cn) (by rw [hst]; simp)
          have HN : Hid (imgOk s = false) := hno
          clear hno
          go_wp2_with fail
          refine (states_any s (iR s) (iK s) (iAt s cn) w.heap.size _ hs (by omega) (iK_le s) himg.c0 himg.c1 himg.c4).mono ?_
          rintro e wr2 ⟨rfl, q, rfl⟩
          rw [hno2.1, hno2.2.1, hno2.2.2]
          go_wp2
          go_ret2
          refine ⟨.pointer none, by rw [HN.out]; rfl, _root_.Go.below_drewN hbel _, fun h => ?_⟩
          rw [HN.out] at h; cases h
        | true =>
          have hyes := st_yes hst
          have hstep := iAt_step hst
          go_wp2_with fail
          refine (states_any s (iR s) (iK s) (iAt s cn) w.heap.size _ hs (by omega) (iK_le s) himg.c0 himg.c1 himg.c4).mono ?_
          rintro e wr2 ⟨rfl, q, rfl⟩
          rw [hyes.1, hyes.2, hst]
          have himg2 := himg.drewN q
          have hbel2 := _root_.Go.below_drewN hbel q
          have hBz2 := himg2.hz
          generalize wr.drewN q = wq at *
          clear himg hbel hBz hic2
          have hic5 := himg2.c5
          go_wp2_with (first
            | (at_builtin; refine wpList_app1 wq rfl (.tmp 134) (.tmp 137) 30 rfl (w.heap.size + 1) 3 (.int .i64 0) 1 8 Try.underlying30 Try.infoInt rfl (by decide) (by decide) va cn (atRow s cn) [.int .i64 ((iAt s cn : Int) + 1)] _ rfl himg2.ra _ rfl rfl rfl (by simp [Value.oneCell']) (by omega) (by omega) ?_; intro g cap w1 hown hgrow hat hlt5; obtain ⟨k5, kf5, k6, kf6⟩ := himg2.kept himg2.ra hgrow; have himg3 := himg2.app5 _ hown hgrow hat; have hz3 := himg3.hz)
            | (at_builtin; refine wpList_app1 (w1.setCell ⟨w.heap.size, 5, none⟩ (.slice (some ⟨g, 0, none⟩) (cn + 1) cap)) rfl (.tmp 145) (.tmp 147) 30 rfl (w.heap.size + 1) 3 (.int .i64 0) 1 8 Try.underlying30 Try.infoInt rfl (by decide) (by decide) vs cn (stRow s cn) [.int .i64 (bt s (iAt s cn))] _ rfl himg3.rs w1.heap.size (by simp) rfl rfl (by simp [Value.oneCell']) (by omega) (by omega) ?_; intro g2 cap2 w2 hown2 hgrow2 hat2 hlt6; obtain ⟨m5, mf5, m6, mf6⟩ := himg3.kept himg3.rs hgrow2; have himg4 := himg3.app6 _ hown2 hgrow2 hat2))
          go_roundw
          case rel =>
            refine ⟨cn + 1, _, _, hlt4, by go_num, ?_, ?_, himg4, ?_⟩
            · rw [hstep.1]; simp
            · intro l hl
              by_cases e : l = cn
              · rw [e]; exact hst
              · exact HA.out l (by omega)
            · have hb1 := (below_app hbel2 (by omega) himg2.ra (by omega) hgrow).setCell (p := ⟨w.heap.size, 5, none⟩) (Nat.le_refl _) (.slice (some ⟨g, 0, none⟩) (cn + 1) cap)
              exact (below_app hb1 (by omega) himg3.rs (by omega) hgrow2).setCell (p := ⟨w.heap.size, 6, none⟩) (Nat.le_refl _) _
          case measure => simp [intOf]; omega
      · have e : cn = iM s := by omega
        have hfin : imgOk s = decide (iAt s cn = s.size) := by
          rw [Bool.eq_iff_iff, imgOk_iff, decide_eq_true_eq, e]
          rw [e] at HA
          exact ⟨fun h => h.2.2.2.2.2, fun h => ⟨HH.out.1, HH.out.2.1, HH.out.2.2.1, HH.out.2.2.2, HA.out, h⟩⟩
        have HF : Hid (imgOk s = decide (iAt s cn = s.size)) := hfin
        have E : Hid (cn = iM s) := e
        clear hfin e
        go_wp2
        go_ret2
        refine ⟨.pointer (some ⟨w.heap.size, 0, none⟩), ?_, hbel, fun _ => ⟨rfl, va, vs, ?_⟩⟩
        · rw [HF.out]; simp
          rw [Bool.eq_iff_iff, beq_iff_eq, decide_eq_true_eq]; omega
        · rw [← E.out]; exact himg
  · have hd : belowB s (6 + iR s) 256 (bt s (5 + iR s) : Int) = false := by
      have : headD s = belowB s (6 + iR s) 256 (bt s (5 + iR s) : Int) := by unfold headD iK; congr 1; omega
      rw [← this]; simpa using hD
    have HN : Hid (imgOk s = false) := not_img_D (by simpa using hD)
    clear hA hB hC hD
    generalize hkk : bt s (5 + iR s) = k at *
    clear hkk
    go_enter Try.func47, Try.ntmps47
    go_wp2_with (first | (go_at_call 71; refine (below_any s (4 + iR s) 1 4 _ (by unfold maxLen; omega) (by omega) (by omega)).mono ?_; rintro e w ⟨rfl, rfl⟩))
    go_quiet ((go_at_call 71; exact Calls.quiet_of_same (below_any s 4 (iR s) (1 + iM s) _ (by unfold maxLen; omega) (by omega) (by omega))))
    go_wp2_with fail
    refine (below_z s (5 + iR s) 1 _ _ 255 _ (by omega) (by omega) (by omega) (by omega) rfl).mono ?_
    rintro e w ⟨rfl, rfl⟩
    go_wp2_with fail
    go_quiet ((go_at_call 71; exact Calls.quiet_of_same (below_z s (6 + iR s) 256 _ _ k _ (by omega) (by omega) (by omega) (by omega) rfl)))
    go_wp2
    go_ret2
    refine ⟨.pointer none, by rw [HN.out]; rfl, ?_, fun h => ?_⟩
    · exact _root_.Go.below_drewN (((_root_.Go.below_drewN ((Below.refl w.heap.size w).alloc (Nat.le_refl _) _) _).setCell (p := ⟨w.heap.size, 4, none⟩) (Nat.le_refl _) _).setCell (p := ⟨w.heap.size, 3, none⟩) (Nat.le_refl _) _) _
    · rw [HN.out] at h; cases h

/-- Parse, of whatever text of at most MaxImage bytes. -/
theorem parse_any (s : ByteArray) (w : World) (hs : s.size ≤ 120000) :
    Calls Try.prog 47 #[.string s] w fun e w' =>
      ∃ v, e = .returned (.tuple #[v, .bool (imgOk s)]) ∧ Below w.heap.size w w' ∧ (imgOk s = true → v = .pointer (some ⟨w.heap.size, 0, none⟩) ∧ ∃ va vs, ImgAt w' w.heap.size (w.heap.size + 1) s (iM s) (iM s) va vs) := by
  cases hA : headA s with
  | false =>
    refine (parse_noA s w hs hA).mono ?_
    rintro e w' ⟨rfl, rfl⟩
    rw [not_img_A hA]
    exact ⟨_, rfl, Below.refl _ _, fun h => by cases h⟩
  | true =>
    cases hB : headB s with
    | false =>
      refine (parse_noB s w hs hA hB).mono ?_
      rintro e w' ⟨rfl, hb⟩
      rw [not_img_B hB]
      exact ⟨_, rfl, hb, fun h => by cases h⟩
    | true =>
      cases hC : headC s with
      | false =>
        refine (parse_noC s w hs hA hB hC).mono ?_
        rintro e w' ⟨rfl, hb⟩
        rw [not_img_C hC]
        exact ⟨_, rfl, hb, fun h => by cases h⟩
      | true => exact parse_head s w hs hA hB hC
end Go.Proofs.Ytgjgjgihceijnaa

/- stencilref.Check: a walk. -/
namespace Go.Proofs.Ytgjgjgihceijnaa
open Go.RowKit Go.Stn

/-- What Check answers. -/
def chk (s : ByteArray) : Int := if 120000 < s.size then 1 else if imgOk s = true then 0 else 5

set_option maxHeartbeats 400000 in
theorem check_any (s : ByteArray) (w : World) (hs : s.size ≤ maxLen) :
    Calls Try.prog 40 #[.string s] w fun e w' => e = .returned (.int .i64 (chk s)) ∧ Below w.heap.size w w' := by
  unfold maxLen at hs
  by_cases hl : 120000 < s.size
  · have hc : chk s = 1 := by unfold chk; rw [if_pos hl]
    rw [hc]; clear hc
    go_enter Try.func40, Try.ntmps40
    go_wp2
    go_ret
    exact ⟨rfl, Below.refl _ _⟩
  · cases hi : imgOk s with
    | true =>
      have hc : chk s = 0 := by unfold chk; rw [if_neg hl, if_pos hi]
      rw [hc]; clear hc
      go_enter Try.func40, Try.ntmps40
      go_wp2_with (go_at_call 47; refine (parse_any s _ (by omega)).mono ?_; rintro e w1 ⟨v, rfl, hb, _⟩)
      go_ret
      exact ⟨rfl, hb⟩
    | false =>
      have hc : chk s = 5 := by unfold chk; rw [if_neg hl, if_neg (by rw [hi]; decide)]
      rw [hc]; clear hc
      go_enter Try.func40, Try.ntmps40
      go_wp2_with (go_at_call 47; refine (parse_any s _ (by omega)).mono ?_; rintro e w1 ⟨v, rfl, hb, _⟩)
      go_ret
      exact ⟨rfl, hb⟩
end Go.Proofs.Ytgjgjgihceijnaa

/- layout.Read: a walk. -/
namespace Go.Proofs.Ytgjgjgihceijnaa
open Go.RowKit Go.Stn

/-- What Read comes to: an image in memory, or the error. -/
def LReadOut (w : World) (s : ByteArray) (e : Ending) (w' : World) : Prop :=
  Below w.heap.size w w' ∧ ((¬ (s.size ≤ 120000 ∧ imgOk s = true) ∧ e = .returned (.tuple #[.agg Try.zeroCells75, .int .i64 (chk s)])) ∨ (s.size ≤ 120000 ∧ imgOk s = true ∧
    ∃ (bb : Nat) (vc : Value) (ys : List CondG), e = .returned (.tuple #[.agg (imgC (.slice (some ⟨bb, 0, none⟩) (lRules s) (lRules s)) (lClassOf s) vc).toArray, .int .i64 0]) ∧
      NatsIn w' w.heap.size bb (lBehind s) ∧ w'.ownsRow (bb + 1) 143 1 vc ys.length (condC ys) ∧ ys.map (fun y => y.2.map (·.1)) = lConds s ∧ (∀ y ∈ ys, CondIn w' (lClasses s) y) ∧ (∀ y ∈ ys, ∀ k, ownG y k → bb < k)))

theorem row_stay {w w' : World} {base : Nat} {e : TypeId} {size : Nat} {v : Value} {m : Nat} {xs : List Value} (hr : w.ownsRow base e size v m xs) (hB : Below w.heap.size w w') : w'.ownsRow base e size v m xs := by
  refine ⟨hr.1, ?_⟩
  have hlt := hr.lt
  rcases hr.2 with hn | ⟨g, cap, cur, rfl, hbg, hg, rest⟩
  · exact .inl hn
  · exact .inr ⟨g, cap, cur, rfl, hbg, (hB.block g (hlt g rfl).2).trans hg, rest⟩

set_option maxRecDepth 100000 in
set_option maxHeartbeats 2000000 in
theorem lread_any (s : ByteArray) (w : World) :
    Calls Try.prog 39 #[.string s] w fun e w' => LReadOut w s e w' := by
  by_cases hlong : 120000 < s.size
  · have HT := hidZ (there_newA w Try.zeroCells75 75 w.heap.size 258 Try.imgZero rfl)
    have hd : decide ((120000 : Int) < (s.size : Int)) = true := by simp; omega
    go_enter Try.func39, Try.ntmps39
    go_wp2_with (first | (refine wpList_store_mid rfl 75 (.tmp 2) (.tmp 9) rfl w.heap.size 0 Try.zeroCells75 rfl rfl ?_ ?_ Try.imgZeroOne ?_; (rw [Try.imgZero]; exact HT.out); (rw [Try.imgZero]; exact Try.imgSize)))
    refine ret_cell2 Try.results39 w.heap.size 0 Try.zeroCells75.toList _ (.int .i64 1) rfl rfl ?_ Try.underlying75 rfl (by rw [Array.length_toList, Try.imgZero]; exact Try.imgSize) rfl ?_
    · exact World.rangeAt_setCells_same _ _ _ _ (by rw [Array.length_toList, Try.imgZero]; exact HT.out)
    · refine ⟨below_setCells _ 0 _ w.heap.size ((Below.refl _ _).alloc (Nat.le_refl _) _) (Nat.le_refl _), .inl ⟨fun h => by omega, ?_⟩⟩
      have e : chk s = 1 := by unfold chk; rw [if_pos hlong]
      rw [e]
  · have hd : decide ((120000 : Int) < (s.size : Int)) = false := by simp; omega
    have HL0 : Hid (LRd ((w.alloc (.cells Try.zeroCells75 75)).alloc (.cells #[.string s, .int .i64 0, .bool false] 132)) (w.heap.size + 1) s (0, false)) := by
      have e : w.heap.size + 1 = (w.alloc (.cells Try.zeroCells75 75)).heap.size := by simp
      rw [e]
      refine ⟨?_, ?_, ?_, ?_, ?_⟩
      · rw [World.cell?_alloc_new]; rfl
      · rw [World.cell?_alloc_new]; rfl
      · rw [World.cell?_alloc_new]; rfl
      · intro i; rw [World.frozen?_alloc_new]
      · simp
    have HT := hidZ (World.there_alloc (there_newA w Try.zeroCells75 75 w.heap.size 258 Try.imgZero rfl) (.cells #[.string s, .int .i64 0, .bool false] 132))
    have HB : Hid (Below w.heap.size w ((w.alloc (.cells Try.zeroCells75 75)).alloc (.cells #[.string s, .int .i64 0, .bool false] 132))) := ((Below.refl _ _).alloc (Nat.le_refl _) _).alloc (by simp) _
    have hz : w.heap.size + 2 = ((w.alloc (.cells Try.zeroCells75 75)).alloc (.cells #[.string s, .int .i64 0, .bool false] 132)).heap.size := by simp
    go_enter Try.func39, Try.ntmps39
    go_wp2_with fail
    generalize (w.alloc (.cells Try.zeroCells75 75)).alloc (.cells #[.string s, .int .i64 0, .bool false] 132) = W at *
    refine (limage_any s (w.heap.size + 1) W (by omega) HL0.out).mono ?_
    rintro e w1 ⟨bb, vc, ys, rfl, hn, ho, hm, hc, hg, hl⟩
    have HLEN := hidZ (imgC_len (.slice (some ⟨bb, 0, none⟩) (lRules s) (lRules s)) (lClassOf s) vc (by unfold lClassOf; rw [numsP_len]; rfl))
    have HONE := hidZ (imgC_one (vb := .slice (some ⟨bb, 0, none⟩) (lRules s) (lRules s)) (vc := vc) (cs := lClassOf s) rfl (by obtain ⟨va, vcap, rfl⟩ := rowSlice ho; rfl))
    obtain ⟨IL, EIL⟩ : ∃ l, imgC (.slice (some ⟨bb, 0, none⟩) (lRules s) (lRules s)) (lClassOf s) vc = l := ⟨_, rfl⟩
    rw [EIL] at HLEN HONE ⊢
    replace EIL := hidZ EIL
    have HSZ : Hid (IL.toArray.size = 258) := by unfold Hid; simpa using HLEN.out
    have HTL : Hid (IL.toArray.toList = IL) := by unfold Hid; simp
    have HALL : Hid (IL.toArray.all (·.oneCell') = true) := all_oneCell_toArray HONE.out
    obtain ⟨IA, EIA⟩ : ∃ l, IL.toArray = l := ⟨_, rfl⟩
    rw [EIA] at HSZ HTL HALL ⊢
    replace EIA := hidZ EIA
    have HN := hidZ hn
    have HO := hidZ ho
    have HM := hidZ hm
    have HC := hidZ hc
    have HB1 : Hid (Below w.heap.size w w1) := HB.out.trans ((grown_below hg (by omega)).mono (by omega))
    have HT1 := hidZ (there_block HT.out (hg.block w.heap.size (by omega) (by intro e; injection e; omega)))
    have HRD := hidZ hl
    have hz1 : w.heap.size + 2 ≤ w1.heap.size := by have := hg.size; omega
    have c1 := hl.c1
    have c2 := hl.c2
    have HIF := hidZ (read_iff s)
    have hat := lh9_at s
    have hbb : w.heap.size + 4 ≤ bb := by have := HN.out.1; omega
    clear hn ho hm hc hg hl HL0 HB HT hz
    generalize lh9 s = R at *
    have HN2 := hidZ (there_newA w1 Try.zeroCells75 75 w1.heap.size 258 Try.imgZero rfl)
    have HBS : Hid (Below w1.heap.size w1 ((w1.alloc (.cells Try.zeroCells75 75)).setCells w1.heap.size 0 IA.toList)) := below_setCells _ 0 _ w1.heap.size ((Below.refl _ _).alloc (Nat.le_refl _) _) (Nat.le_refl _)
    have HRI : Hid (((w1.alloc (.cells Try.zeroCells75 75)).setCells w1.heap.size 0 IA.toList).rangeAt w1.heap.size 0 IL) := by
      have h := World.rangeAt_setCells_same (w1.alloc (.cells Try.zeroCells75 75)) w1.heap.size 0 IA.toList (by rw [Array.length_toList, HSZ.out]; exact HN2.out)
      rw [HTL.out] at h ⊢; exact h
    have HB2 : Hid (Below w.heap.size w ((w1.alloc (.cells Try.zeroCells75 75)).setCells w1.heap.size 0 IA.toList)) := HB1.out.trans (HBS.out.mono (by omega))
    have HT2 := hidZ (there_below HT1.out HBS.out (by omega))
    have HR2 := hidZ (HRD.out.below HBS.out (by omega))
    clear c1 c2
    have c1 := HR2.out.c1
    have c2 := HR2.out.c2
    have HNF := hidZ (HN.out.block HBS.out.size (HBS.out.block bb HN.out.2.1))
    have HOF := hidZ (row_stay HO.out HBS.out)
    have HCF : Hid (∀ y ∈ ys, CondIn ((w1.alloc (.cells Try.zeroCells75 75)).setCells w1.heap.size 0 IA.toList) (lClasses s) y ∧ ∀ k, ownG y k → bb < k) := fun y hy => ⟨(HC.out y hy).1.below HBS.out (Nat.le_refl _), (HC.out y hy).2⟩
    obtain ⟨a, b⟩ := R
    simp only at *
    generalize hW2 : (w1.alloc (.cells Try.zeroCells75 75)).setCells w1.heap.size 0 IA.toList = w2 at *
    have HW2 := hidZ hW2
    clear HB1 HT1 HRD HN HO HC HBS hW2
    cases b with
    | true =>
      have HNO : Hid (imgOk s = false) := by have := HIF.out; unfold Hid; simpa using this
      go_wp2_with (first | (refine wpList_store_mid rfl 75 (.tmp 5) (.tmp 12) rfl w1.heap.size 0 IA rfl rfl ?_ ?_ HALL.out ?_; (rw [HSZ.out]; exact HN2.out); (rw [HSZ.out]; exact Try.imgSize); rw [HW2.out]) | (refine wpList_store_mid rfl 75 (.tmp 2) (.tmp 22) rfl w.heap.size 0 Try.zeroCells75 rfl rfl ?_ ?_ Try.imgZeroOne ?_; (rw [Try.imgZero]; exact HT2.out); (rw [Try.imgZero]; exact Try.imgSize)))
      refine ret_cell2 Try.results39 w.heap.size 0 Try.zeroCells75.toList _ (.int .i64 5) rfl rfl ?_ Try.underlying75 rfl (by rw [Array.length_toList, Try.imgZero]; exact Try.imgSize) rfl ?_
      · exact World.rangeAt_setCells_same _ _ _ _ (by rw [Array.length_toList, Try.imgZero]; exact HT2.out)
      · refine ⟨below_setCells _ 0 _ w.heap.size HB2.out (Nat.le_refl _), .inl ⟨fun h => (by have h2 := h.2; rw [HNO.out] at h2; cases h2), ?_⟩⟩
        have e : chk s = 5 := by unfold chk; rw [if_neg hlong, HNO.out]; rfl
        rw [e]
    | false =>
      by_cases hlt : a < s.size
      · have HNO : Hid (imgOk s = false) := by have := HIF.out; unfold Hid; simpa [hlt] using this
        have hda : decide ((a : Int) < (s.size : Int)) = true := by simp; omega
        go_wp2_with (first | (refine wpList_store_mid rfl 75 (.tmp 5) (.tmp 12) rfl w1.heap.size 0 IA rfl rfl ?_ ?_ HALL.out ?_; (rw [HSZ.out]; exact HN2.out); (rw [HSZ.out]; exact Try.imgSize); rw [HW2.out]) | (refine wpList_store_mid rfl 75 (.tmp 2) (.tmp 22) rfl w.heap.size 0 Try.zeroCells75 rfl rfl ?_ ?_ Try.imgZeroOne ?_; (rw [Try.imgZero]; exact HT2.out); (rw [Try.imgZero]; exact Try.imgSize)))
        refine ret_cell2 Try.results39 w.heap.size 0 Try.zeroCells75.toList _ (.int .i64 5) rfl rfl ?_ Try.underlying75 rfl (by rw [Array.length_toList, Try.imgZero]; exact Try.imgSize) rfl ?_
        · exact World.rangeAt_setCells_same _ _ _ _ (by rw [Array.length_toList, Try.imgZero]; exact HT2.out)
        · refine ⟨below_setCells _ 0 _ w.heap.size HB2.out (Nat.le_refl _), .inl ⟨fun h => (by have h2 := h.2; rw [HNO.out] at h2; cases h2), ?_⟩⟩
          have e : chk s = 5 := by unfold chk; rw [if_neg hlong, HNO.out]; rfl
          rw [e]
      · have HYES : Hid (imgOk s = true) := by have := HIF.out; unfold Hid; simpa [hlt] using this
        have hda : decide ((a : Int) < (s.size : Int)) = false := by simp; omega
        go_wp2_with (first | (refine wpList_store_mid rfl 75 (.tmp 5) (.tmp 12) rfl w1.heap.size 0 IA rfl rfl ?_ ?_ HALL.out ?_; (rw [HSZ.out]; exact HN2.out); (rw [HSZ.out]; exact Try.imgSize); rw [HW2.out]) | (refine wpList_load_mid rfl 75 (.tmp 5) rfl w1.heap.size 0 rfl IL _ HRI.out Try.underlying75 rfl ?_ ?_; (rw [HLEN.out]; exact Try.imgSize); rw [EIA.out]) | (refine wpList_store_mid rfl 75 (.tmp 2) (.tmp 23) rfl w.heap.size 0 IA rfl rfl ?_ ?_ HALL.out ?_; (rw [HSZ.out]; exact HT2.out); (rw [HSZ.out]; exact Try.imgSize)))
        refine ret_cell2 Try.results39 w.heap.size 0 IL _ (.int .i64 0) rfl rfl ?_ Try.underlying75 rfl (by rw [HLEN.out]; exact Try.imgSize) rfl ?_
        · have h := World.rangeAt_setCells_same w2 w.heap.size 0 IA.toList (by rw [Array.length_toList, HSZ.out]; exact HT2.out)
          rw [HTL.out] at h ⊢; exact h
        · have hbs : Below w.heap.size w2 (w2.setCells w.heap.size 0 IA.toList) := below_setCells _ 0 _ w.heap.size (Below.refl _ _) (Nat.le_refl _)
          refine ⟨HB2.out.trans hbs, .inr ⟨by omega, HYES.out, bb, vc, ys, by rw [EIL.out], ?_, ownsRow_setCells_below HOF.out (by omega) _ 0, HM.out, fun y hy => ?_, fun y hy => (HCF.out y hy).2⟩⟩
          · obtain ⟨_, n2, n3⟩ := HNF.out.block hbs.size (setCells_block w2 w.heap.size 0 IA.toList bb (by omega))
            exact ⟨by omega, n2, n3⟩
          · obtain ⟨h1, h2⟩ := HCF.out y hy
            exact h1.block hbs.size (fun q _ ho => setCells_block w2 w.heap.size 0 IA.toList q (by have := h2 q ho; omega))
end Go.Proofs.Ytgjgjgihceijnaa

/- An image that layout.Read laid in memory, as cut reads it. -/
namespace Go.Stn
open Go.RowKit
theorem stC_get (cl : Nat) (zs : List ((Nat × List Int) × Nat)) : ∀ (k : Nat) (z : (Nat × List Int) × Nat), zs[k]? = some z → (stC cl zs)[2 * k]? = some (.int .i64 (z.1.1 : Int)) ∧ (stC cl zs)[2 * k + 1]? = some (.slice (some ⟨z.2, 0, none⟩) cl cl) := by
  induction zs with
  | nil => intro k z h; simp at h
  | cons y r ih =>
    intro k z h
    have e : stC cl (y :: r) = Value.int .i64 (y.1.1 : Int) :: Value.slice (some ⟨y.2, 0, none⟩) cl cl :: stC cl r := by simp [stC]
    rw [e]
    cases k with
    | zero => simp at h; subst h; exact ⟨rfl, rfl⟩
    | succ j =>
      have := ih j z (by simpa using h)
      rw [show 2 * (j + 1) = 2 * j + 1 + 1 by omega]
      exact ⟨by simpa using this.1, by simpa using this.2⟩
theorem condC_get (ys : List CondG) (k : Nat) (y : CondG) (h : ys[k]? = some y) : (condC ys)[k]? = some (.slice (some ⟨y.1, 0, none⟩) y.2.length y.2.length) := by
  unfold condC; rw [List.getElem?_map, h]; rfl
theorem intC_get (l : List Int) (k : Nat) (x : Int) (h : l[k]? = some x) : (intC l)[k]? = some (.int .i64 x) := by
  unfold intC; rw [List.getElem?_map, h]; rfl

/-- Where a byte leads, as a number: -1 for nowhere. -/
def leadJ (s : ByteArray) (c st v : Nat) : Int := leadI (leadN s c st v)

/-- An image in memory, below top. -/
structure IM (w : World) (s : ByteArray) (bb vg : Nat) (yb : Nat → Nat) (zb : Nat → Nat → Nat) (top : Nat) : Prop where
  be : ∀ r, r < iR s → w.cell? ⟨bb, r, none⟩ = some (.int .i64 (thenB s r))
  co : ∀ c, c < iM s → w.cell? ⟨vg, c, none⟩ = some (.slice (some ⟨yb c, 0, none⟩) (nSt s c) (nSt s c))
  tk : ∀ c st, c < iM s → st < nSt s c → w.cell? ⟨yb c, 2 * st, none⟩ = some (.int .i64 (markN s c st))
  nx : ∀ c st, c < iM s → st < nSt s c → w.cell? ⟨yb c, 2 * st + 1, none⟩ = some (.slice (some ⟨zb c st, 0, none⟩) (iK s) (iK s))
  ld : ∀ c st v, c < iM s → st < nSt s c → v < 256 → w.cell? ⟨zb c st, clsN s v, none⟩ = some (.int .i64 (leadJ s c st v))
  b0 : bb < top
  b1 : vg < top
  b2 : ∀ c, c < iM s → yb c < top
  b3 : ∀ c st, c < iM s → st < nSt s c → zb c st < top

/-- From where on it lies. -/
structure ILo (s : ByteArray) (bb vg : Nat) (yb : Nat → Nat) (zb : Nat → Nat → Nat) (lo : Nat) : Prop where
  b0 : lo ≤ bb
  b1 : lo ≤ vg
  b2 : ∀ c, c < iM s → lo ≤ yb c
  b3 : ∀ c st, c < iM s → st < nSt s c → lo ≤ zb c st

/-- Only the image's own blocks matter. -/
theorem IM.blocks {w w' : World} {s : ByteArray} {bb vg : Nat} {yb : Nat → Nat} {zb : Nat → Nat → Nat} {top lo : Nat} (h : IM w s bb vg yb zb top) (hl : ILo s bb vg yb zb lo) (hB : ∀ k, lo ≤ k → k < top → w'.heap[k]? = w.heap[k]?) : IM w' s bb vg yb zb top :=
  ⟨fun r hr => (World.cell?_of_block (w := w) (a := ⟨bb, r, none⟩) (hB _ hl.b0 h.b0)).trans (h.be r hr), fun c hc => (World.cell?_of_block (w := w) (a := ⟨vg, c, none⟩) (hB _ hl.b1 h.b1)).trans (h.co c hc),
    fun c st hc hs => (World.cell?_of_block (w := w) (a := ⟨yb c, 2 * st, none⟩) (hB _ (hl.b2 c hc) (h.b2 c hc))).trans (h.tk c st hc hs), fun c st hc hs => (World.cell?_of_block (w := w) (a := ⟨yb c, 2 * st + 1, none⟩) (hB _ (hl.b2 c hc) (h.b2 c hc))).trans (h.nx c st hc hs),
    fun c st v hc hs hv => (World.cell?_of_block (w := w) (a := ⟨zb c st, clsN s v, none⟩) (hB _ (hl.b3 c st hc hs) (h.b3 c st hc hs))).trans (h.ld c st v hc hs hv), h.b0, h.b1, h.b2, h.b3⟩

theorem IM.below {w w' : World} {s : ByteArray} {bb vg : Nat} {yb : Nat → Nat} {zb : Nat → Nat → Nat} {top B : Nat} (h : IM w s bb vg yb zb top) (hB : Below B w w') (hb : top ≤ B) : IM w' s bb vg yb zb top :=
  ⟨fun r hr => (hB.cell (p := ⟨bb, r, none⟩) (Nat.lt_of_lt_of_le h.b0 hb)).trans (h.be r hr), fun c hc => (hB.cell (p := ⟨vg, c, none⟩) (Nat.lt_of_lt_of_le h.b1 hb)).trans (h.co c hc),
    fun c st hc hs => (hB.cell (p := ⟨yb c, 2 * st, none⟩) (Nat.lt_of_lt_of_le (h.b2 c hc) hb)).trans (h.tk c st hc hs), fun c st hc hs => (hB.cell (p := ⟨yb c, 2 * st + 1, none⟩) (Nat.lt_of_lt_of_le (h.b2 c hc) hb)).trans (h.nx c st hc hs),
    fun c st v hc hs hv => (hB.cell (p := ⟨zb c st, clsN s v, none⟩) (Nat.lt_of_lt_of_le (h.b3 c st hc hs) hb)).trans (h.ld c st v hc hs hv), h.b0, h.b1, h.b2, h.b3⟩
theorem IM.drewN {w : World} {s : ByteArray} {bb vg : Nat} {yb : Nat → Nat} {zb : Nat → Nat → Nat} {top : Nat} (h : IM w s bb vg yb zb top) (q : Nat) : IM (w.drewN q) s bb vg yb zb top := ⟨h.be, h.co, h.tk, h.nx, h.ld, h.b0, h.b1, h.b2, h.b3⟩
end Go.Stn
namespace Go.Proofs.Ytgjgjgihceijnaa
open Go.RowKit Go.Stn

/-- What Read laid, to be read. -/
theorem read_mem {w : World} {s : ByteArray} (hi : imgOk s = true) {bb : Nat} {vc : Value} {ys : List CondG} {lo : Nat} (hn : NatsIn w lo bb (lBehind s)) (ho : w.ownsRow (bb + 1) 143 1 vc ys.length (condC ys))
    (hm : ys.map (fun y => y.2.map (·.1)) = lConds s) (hc : ∀ y ∈ ys, CondIn w (lClasses s) y) (hk : ∀ y ∈ ys, ∀ k, ownG y k → bb < k) : ∃ vg cap yb zb, vc = .slice (some ⟨vg, 0, none⟩) (iM s) cap ∧ IM w s bb vg yb zb w.heap.size ∧ ILo s bb vg yb zb lo := by
  have hd := img_read hi
  have hcs := (img_conds hi).1
  have hlen : ys.length = iM s := by have := congrArg List.length (hm.trans hcs); simpa using this
  have hM := (img_head hi).2.2.1
  have hlt := ho.lt
  obtain ⟨g, cap, rfl, hbg, hgl⟩ := ho.form (by omega)
  have hrow := row_range ho
  have hy : ∀ c, c < iM s → ∃ y, ys[c]? = some y ∧ y ∈ ys ∧ y.2.map (·.1) = condV s c := fun c hc' => by
    have hcl : c < ys.length := by omega
    refine ⟨ys[c], List.getElem?_eq_getElem hcl, List.getElem_mem hcl, ?_⟩
    have := congrArg (fun l => l[c]?) (hm.trans hcs)
    simp only [List.getElem?_map, List.getElem?_eq_getElem hcl, List.getElem?_range hc', Option.map_some] at this
    injection this
  have hz : ∀ c st, c < iM s → st < nSt s c → ∀ y, ys[c]? = some y → y ∈ ys → y.2.map (·.1) = condV s c → ∃ z, y.2[st]? = some z ∧ z ∈ y.2 ∧ z.1 = rowV s (iK s) (rwAt s c st) := fun c st hc' hs' y _ _ he => by
    have hl : y.2.length = nSt s c := by have := congrArg List.length he; unfold condV at this; simpa using this
    have hsl : st < y.2.length := by omega
    refine ⟨y.2[st], List.getElem?_eq_getElem hsl, List.getElem_mem hsl, ?_⟩
    have := congrArg (fun l => l[st]?) he
    unfold condV at this
    simp only [List.getElem?_map, List.getElem?_eq_getElem hsl, List.getElem?_range hs', Option.map_some] at this
    injection this
  have hlenY : ∀ c, c < iM s → ∀ y, ys[c]? = some y → y.2.map (·.1) = condV s c → y.2.length = nSt s c := fun c _ y _ he => by
    have := congrArg List.length he; unfold condV at this; simpa using this
  have cellAt : ∀ (b k : Nat) (l : List Value) (v : Value), w.rangeAt b 0 l → l[k]? = some v → w.cell? ⟨b, k, none⟩ = some v := fun b k l v hr hk => by
    have := hr k v hk; rw [Nat.zero_add] at this; exact this
  refine ⟨g, cap, fun c => ((ys[c]?).getD (0, [])).1, fun c st => ((((ys[c]?).getD (0, [])).2[st]?).getD ((0, []), 0)).2, by rw [hlen], ?_, ?_⟩
  refine ⟨fun r hr => ?_, fun c hc' => ?_, fun c st hc' hs' => ?_, fun c st hc' hs' => ?_, fun c st v hc' hs' hv => ?_, hn.2.1, (hlt g rfl).2, fun c hc' => ?_, fun c st hc' hs' => ?_⟩
  · refine cellAt _ _ _ _ hn.2.2 ?_
    rw [hd.be]
    unfold natC
    rw [List.getElem?_map, List.getElem?_map, List.getElem?_range hr]; rfl
  · obtain ⟨y, h1, h2, h3⟩ := hy c hc'
    refine cellAt _ _ _ _ hrow ?_
    rw [condC_get ys c y h1, h1, hlenY c hc' y h1 h3]; rfl
  · obtain ⟨y, h1, h2, h3⟩ := hy c hc'
    obtain ⟨z, h4, h5, h6⟩ := hz c st hc' hs' y h1 h2 h3
    simp only [h1, Option.getD_some]
    refine cellAt _ _ _ _ (hc y h2).rg ?_
    rw [(stC_get _ _ st z h4).1, h6]; rfl
  · obtain ⟨y, h1, h2, h3⟩ := hy c hc'
    obtain ⟨z, h4, h5, h6⟩ := hz c st hc' hs' y h1 h2 h3
    simp only [h1, Option.getD_some, h4]
    refine cellAt _ _ _ _ (hc y h2).rg ?_
    rw [(stC_get _ _ st z h4).2, hd.cl]
  · obtain ⟨y, h1, h2, h3⟩ := hy c hc'
    obtain ⟨z, h4, h5, h6⟩ := hz c st hc' hs' y h1 h2 h3
    simp only [h1, Option.getD_some, h4]
    refine cellAt _ _ _ _ ((hc y h2).rows z h5).2 (intC_get _ _ _ ?_)
    rw [h6]
    unfold rowV
    rw [List.getElem?_map, List.getElem?_range (cls_lt hi v hv)]
    unfold leadJ leadN
    rw [Option.map_some, show rwAt s c st + (clsN s v + 1) = rwAt s c st + 1 + clsN s v by omega]
  · obtain ⟨y, h1, h2, h3⟩ := hy c hc'
    simp only [h1, Option.getD_some]
    exact (hc y h2).lt
  · obtain ⟨y, h1, h2, h3⟩ := hy c hc'
    obtain ⟨z, h4, h5, h6⟩ := hz c st hc' hs' y h1 h2 h3
    simp only [h1, Option.getD_some, h4]
    exact ((hc y h2).rows z h5).1
  · have hbb := hn.1
    refine ⟨hbb, by omega, fun c hc' => ?_, fun c st hc' hs' => ?_⟩
    · obtain ⟨y, h1, h2, h3⟩ := hy c hc'
      simp only [h1, Option.getD_some]
      have := hk y h2 y.1 (.inl rfl)
      omega
    · obtain ⟨y, h1, h2, h3⟩ := hy c hc'
      obtain ⟨z, h4, h5, h6⟩ := hz c st hc' hs' y h1 h2 h3
      simp only [h1, Option.getD_some, h4]
      have := hk y h2 z.2 (.inr ⟨z, h5, rfl⟩)
      omega
end Go.Proofs.Ytgjgjgihceijnaa

