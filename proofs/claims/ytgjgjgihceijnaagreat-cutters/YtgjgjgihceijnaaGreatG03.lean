/- Texts put together: LyWalk, CkBelow, CkStates, CkPure4, CkParse, CkParse2, CkImg. -/
import Derived.Test.YtgjgjgihceijnaaGreatG02
import Derived.Test.YtgjgjgihceijnaaGreatG01
import Derived.Test.YtgjgjgihceijnaaGreatChecked
import Derived.WalkKit
import Derived.WalkSpells
import Derived.WalkLawsBesides
import Derived.Deep.QuietTactic
import Derived.BigQuiet
import Derived.Deep.AppendLies
namespace Go.Proofs.YtgjgjgihceijnaaGreat
open Go.RowKit Go.Stn

/-- A list of numbers that lies still. -/
def NatsIn (w : World) (lo bb : Nat) (l : List Nat) : Prop := lo ≤ bb ∧ bb < w.heap.size ∧ w.rangeAt bb 0 (natC l)
theorem NatsIn.grown {w w' : World} {lo bb g : Nat} {l : List Nat} (h : NatsIn w lo bb l) (hg : w.grownBy w' (some g)) (hl : g < lo) : NatsIn w' lo bb l :=
  ⟨h.1, Nat.lt_of_lt_of_le h.2.1 hg.size, rangeAt_block h.2.2 (hg.block bb h.2.1 (by intro e; injection e; have := h.1; omega))⟩
theorem NatsIn.block {w w' : World} {lo bb : Nat} {l : List Nat} (h : NatsIn w lo bb l) (hz : w.heap.size ≤ w'.heap.size) (hb : w'.heap[bb]? = w.heap[bb]?) : NatsIn w' lo bb l :=
  ⟨h.1, Nat.lt_of_lt_of_le h.2.1 hz, rangeAt_block h.2.2 hb⟩
theorem NatsIn.set {w : World} {lo bb g k : Nat} {l : List Nat} (h : NatsIn w lo bb l) (hl : g < lo) (v : Value) : NatsIn (w.setCell ⟨g, k, none⟩ v) lo bb l :=
  h.block (by simp [World.setCell]) (Below.heap_setCell _ _ _ _ (by simp only; have := h.1; omega))

/-- The conditions that were read: each in memory, behind bb, and apart from their list. -/
def CondsIn (w : World) (cl bb : Nat) (vc : Value) (ys : List CondG) : Prop := ∀ y ∈ ys, CondIn w cl y ∧ ∀ k, ownG y k → bb < k ∧ vc.ownBlock ≠ some k
theorem CondsIn.move {w w' : World} {cl bb : Nat} {vc vc' : Value} {ys : List CondG} {v : Option Nat} (h : CondsIn w cl bb vc ys) (hg : w.grownBy w' v) (hv : ∀ k, v = some k → k ≤ bb ∨ vc.ownBlock = some k) (hc : ∀ k, k < w.heap.size → vc'.ownBlock = some k → vc.ownBlock = some k) : CondsIn w' cl bb vc' ys := fun y hy => by
  obtain ⟨h1, h2⟩ := h y hy
  refine ⟨h1.block hg.size (fun k hk ho => hg.block k hk (fun e => ?_)), fun k ho => ⟨(h2 k ho).1, fun e => (h2 k ho).2 (hc k (h1.own ho) e)⟩⟩
  obtain ⟨h3, h4⟩ := h2 k ho
  rcases hv k e.symm with h5 | h5
  · omega
  · exact h4 h5
theorem CondsIn.snoc {w : World} {cl bb : Nat} {vc : Value} {ys : List CondG} {y : CondG} (h : CondsIn w cl bb vc ys) (h1 : CondIn w cl y ∧ ∀ k, ownG y k → bb < k ∧ vc.ownBlock ≠ some k) : CondsIn w cl bb vc (ys ++ [y]) := fun z hz => by
  rcases List.mem_append.1 hz with h2 | h2
  · exact h z h2
  · rw [List.mem_singleton] at h2; rw [h2]; exact h1
theorem CondsIn.set {w : World} {cl bb g k : Nat} {vc : Value} {ys : List CondG} (h : CondsIn w cl bb vc ys) (hg : g ≤ bb) (v : Value) : CondsIn (w.setCell ⟨g, k, none⟩ v) cl bb vc ys := fun y hy => by
  obtain ⟨h1, h2⟩ := h y hy
  exact ⟨h1.block (by simp [World.setCell]) (fun j _ ho => Below.heap_setCell _ _ _ _ (by simp only; have := (h2 j ho).1; omega)), h2⟩

theorem setCells_block : ∀ (w : World) (b o : Nat) (vs : List Value) (k : Nat), k ≠ b → (w.setCells b o vs).heap[k]? = w.heap[k]? := by
  intro w b o vs
  induction vs generalizing w o with
  | nil => intro k _; rfl
  | cons v r ih => intro k hk; exact (ih (w.setCell ⟨b, o, none⟩ v) (o + 1) k hk).trans (Below.heap_setCell _ _ _ _ hk)
theorem ownsRow_setCells_below {w : World} {base : Nat} {e : TypeId} {size : Nat} {v : Value} {n : Nat} {xs : List Value} (h : w.ownsRow base e size v n xs) {b : Nat} (hb : b < base) (vs : List Value) (o : Nat) : (w.setCells b o vs).ownsRow base e size v n xs := by
  induction vs generalizing w o with
  | nil => exact h
  | cons u r ih => exact ih (ownsRow_setCell_below (a := ⟨b, o, none⟩) h hb u) (o + 1)

/-- What image comes to. -/
def LImgOut (w : World) (rb : Nat) (s : ByteArray) (e : Ending) (w' : World) : Prop :=
  ∃ (bb : Nat) (vc : Value) (ys : List CondG), e = .returned (.agg (imgC (.slice (some ⟨bb, 0, none⟩) (lRules s) (lRules s)) (lClassOf s) vc).toArray) ∧
      NatsIn w' (w.heap.size + 2) bb (lBehind s) ∧ w'.ownsRow (bb + 1) 110 1 vc ys.length (condC ys) ∧ ys.map (fun y => y.2.map (·.1)) = lConds s ∧ (∀ y ∈ ys, CondIn w' (lClasses s) y ∧ ∀ k, ownG y k → bb < k) ∧
      w.grownBy w' (some rb) ∧ LRd w' rb s (lh9 s)

set_option maxRecDepth 100000 in
set_option maxHeartbeats 2000000 in
theorem limage_any (s : ByteArray) (rb : Nat) (w : World) (hs : s.size ≤ 120000) (h : LRd w rb s (0, false)) :
    Calls Tryz.prog 51 #[.pointer (some ⟨rb, 0, none⟩)] w fun e w' => LImgOut w rb s e w' := by
  have HI := hidZ (IW.start h)
  have HT := hidZ (there_newA (w.alloc (.cells Tryz.zeroCells72 72)) Tryz.zeroCells72 72 (w.heap.size + 1) 258 Tryz.imgZero (by simp))
  have hrb := h.hb
  clear h
  go_enter Tryz.func51, Tryz.ntmps51
  go_wp2_with (first | (refine wpList_store_mid rfl 72 (.tmp 3) (.tmp 11) rfl (w.heap.size + 1) 0 Tryz.zeroCells72 rfl rfl ?_ ?_ Tryz.imgZeroOne ?_; (rw [Tryz.imgZero]; exact HT.out); (rw [Tryz.imgZero]; exact Tryz.imgSize)))
  generalize ((w.alloc (.cells Tryz.zeroCells72 72)).alloc (.cells Tryz.zeroCells72 72)).setCells (w.heap.size + 1) 0 Tryz.zeroCells72.toList = W0 at *
  clear HT
  have a0 : ((0, false) : LSt).1 ≤ s.size := Nat.zero_le _
  refine (lnumber_any s (0, false) 83 83 rb _ hs HI.out.rd a0).mono ?_
  rintro e w1 ⟨rfl, hg1, hl1⟩
  have HI1 := hidZ (HI.out.step hg1 hl1)
  have a1 := numP_at (lo := 83) (hi := 83) a0
  clear HI hg1 hl1
  go_wp2_with fail
  refine (lnumber_any s _ 84 84 rb _ hs HI1.out.rd a1).mono ?_
  rintro e w2 ⟨rfl, hg2, hl2⟩
  have HI2 := hidZ (HI1.out.step hg2 hl2)
  have a2 := numP_at (lo := 84) (hi := 84) a1
  clear HI1 hg2 hl2
  go_wp2_with fail
  refine (lnumber_any s _ 1 1 rb _ hs HI2.out.rd a2).mono ?_
  rintro e w3 ⟨rfl, hg3, hl3⟩
  have HI3 : Hid (IW w w3 rb s (lh3 s) _ _ _) := hidZ (HI2.out.step hg3 hl3)
  have a3 : (lh3 s).1 ≤ s.size := numP_at (lo := 1) (hi := 1) a2
  clear HI2 hg3 hl3 a0 a1 a2
  go_wp2_with fail
  refine (lnumber_any s _ 1 8 rb _ hs HI3.out.rd a3).mono ?_
  rintro e w4 ⟨rfl, hg4, hl4⟩
  have HI4 : Hid (IW w w4 rb s (lh4 s) _ _ _) := hidZ (HI3.out.step hg4 hl4)
  have a4 : (lh4 s).1 ≤ s.size := numP_at (lo := 1) (hi := 8) a3
  have hru : 1 ≤ lRules s ∧ lRules s ≤ 8 := numP_le (by omega)
  have ER : Hid ((numP s 1 8 (lh3 s)).1 = lRules s) := rfl
  rw [ER.out]
  clear HI3 hg4 hl4 a3 ER
  obtain ⟨ru, ERU⟩ : ∃ ru, lRules s = ru := ⟨_, rfl⟩
  rw [ERU] at hru ⊢
  replace ERU := hidZ ERU
  go_wp2_with fail
  refine (lnumbers_any s _ ru 5 rb _ hs (by omega) HI4.out.rd a4).mono ?_
  rintro e w5 ⟨rfl, ho5, hg5, hl5⟩
  have e5 : numsP s 5 ru [] (lh4 s) = (lBehind s, lh5 s) := by rw [← ERU.out]; rfl
  rw [e5] at ho5 hl5
  simp only at ho5 hl5
  have HI5 := hidZ (HI4.out.step hg5 hl5)
  have a5 : (lh5 s).1 ≤ s.size := by have := numsP_at (hi := 5) ru [] (lh4 s) a4; rw [e5] at this; exact this
  have hbl : (lBehind s).length = ru := by have := numsP_len (s := s) (hi := 5) ru [] (lh4 s); rw [e5] at this; simpa using this
  have HN5 : Hid (NatsIn w5 (w.heap.size + 2) w4.heap.size (lBehind s)) := hidZ ⟨HI4.out.hz, by have := (ho5.lt w4.heap.size rfl).2; omega, row_range ho5⟩
  have hbb : w.heap.size + 2 ≤ w4.heap.size := HI4.out.hz
  clear ho5 hg5 hl5 HI4 a4 e5
  generalize w4.heap.size = bb at *
  have hble : ∀ x ∈ lBehind s, x ≤ 5 := numsP_le _ _ _ (fun x hx => by cases hx)
  obtain ⟨L, EL⟩ : ∃ L, lBehind s = L := ⟨_, rfl⟩
  rw [EL] at hbl hble HN5
  replace EL := hidZ EL
  replace hble := hidZ hble
  have c0 := HI5.out.cell (imgC_0 _ _ _)
  have f0 := HI5.out.fz (k := 0) (by omega)
  have HI6 := hidZ (HI5.out.set (k := 0) (u := .slice (some ⟨bb, 0, none⟩) ru ru) (by omega) (imgC_set0 _ _ _ _) HI5.out.hl)
  have HN6 := hidZ (HN5.out.set (g := w.heap.size + 1) (k := 0) (by omega) (.slice (some ⟨bb, 0, none⟩) ru ru))
  go_wp2_with fail
  generalize w5.setCell ⟨w.heap.size + 1, 0, none⟩ (.slice (some ⟨bb, 0, none⟩) ru ru) = W6 at *
  clear HI5 HN5 c0 f0
  refine (lnumber_any s _ 1 4 rb _ hs HI6.out.rd a5).mono ?_
  rintro e w7 ⟨rfl, hg7, hl7⟩
  have HI7 := hidZ (HI6.out.step hg7 hl7)
  have HN7 := hidZ (HN6.out.grown hg7 (by omega))
  have hmn : 1 ≤ lMany s ∧ lMany s ≤ 4 := numP_le (by omega)
  have a7 : (numP s 1 4 (lh5 s)).2.1 ≤ s.size := numP_at (lo := 1) (hi := 4) a5
  have ER : Hid ((numP s 1 4 (lh5 s)).1 = lMany s) := rfl
  have E6 : Hid (lh6 s = ((numP s 1 4 (lh5 s)).2.1, (numP s 1 4 (lh5 s)).2.2 || overB (lBehind s) (1 + lMany s))) := rfl
  rw [ER.out]
  rw [EL.out] at E6
  clear HI6 HN6 hg7 hl7 a5 ER
  generalize numP s 1 4 (lh5 s) = N at *
  obtain ⟨mm, r7⟩ := N
  simp only at a7 E6 HI7
  obtain ⟨mn, EMN⟩ : ∃ ru, lMany s = ru := ⟨_, rfl⟩
  rw [EMN] at hmn E6 ⊢
  replace EMN := hidZ EMN
  have c0 := HI7.out.cell (imgC_0 _ _ _)
  go_wp2_with fail
  clear c0
  go_loopw [29] (fun x wr => ∃ k : Nat, x = .int .i64 (k : Int) ∧ k ≤ ru ∧ IW w wr rb s (r7.1, r7.2 || overB (L.take k) (1 + mn)) (.slice (some ⟨bb, 0, none⟩) ru ru) (List.replicate 256 0) (.slice none 0 0) ∧ NatsIn wr (w.heap.size + 2) bb L) (fun x _ => ru - (intOf x).toNat)
  case atStart =>
    refine ⟨0, rfl, Nat.zero_le _, ?_, HN7.out⟩
    have e : (r7.1, r7.2 || overB (L.take 0) (1 + mn)) = r7 := by simp [overB]
    rw [e]; exact HI7.out
  case round =>
    obtain ⟨k, rfl, hk, hiw, hnw⟩ := hrel
    have HI8 := hidZ hiw
    have HN8 := hidZ hnw
    clear hiw hnw HI7 HN7
    by_cases hlt : k < ru
    · have hkl : k < L.length := by omega
      have HOV := hidZ (overB_succ L (1 + mn) k hkl)
      have hx : wr.cell? ⟨bb, k, none⟩ = some (.int .i64 (L[k] : Int)) := by have := HN8.out.2.2 k _ (natC_get L k hkl); rw [Nat.zero_add] at this; exact this
      have hxl : L[k] ≤ 5 := hble.out _ (List.getElem_mem hkl)
      generalize L[k] = x at *
      have hd : decide ((k : Int) < (ru : Int)) = true := by simp; omega
      have f2 := HI8.out.rd.fz 2
      have c2 := HI8.out.rd.c2
      by_cases hov : 1 + mn < x
      · have hd2 : decide ((1 : Int) + (mn : Int) < (x : Int)) = true := by simp; omega
        have HE : Hid (overB (L.take (k + 1)) (1 + mn) = true) := by unfold Hid; rw [HOV.out]; simp [hov]
        have HI9 := hidZ (HI8.out.step (grown_set (World.grownBy.refl _ _) 2 (.bool true)) HI8.out.rd.setBad)
        have HN9 := hidZ (HN8.out.set (g := rb) (k := 2) (by omega) (.bool true))
        clear HOV hov
        go_wp2
        go_roundw
        case rel =>
          refine ⟨k + 1, by go_num, by omega, ?_, HN9.out⟩
          rw [HE.out, Bool.or_true]; exact HI9.out
        case measure => simp [intOf]; omega
      · have hd2 : decide ((1 : Int) + (mn : Int) < (x : Int)) = false := by simp; omega
        have HE : Hid (overB (L.take (k + 1)) (1 + mn) = overB (L.take k) (1 + mn)) := by unfold Hid; rw [HOV.out]; simp [hov]
        clear HOV hov
        go_wp2
        go_roundw
        case rel =>
          refine ⟨k + 1, by go_num, by omega, ?_, HN8.out⟩
          rw [HE.out]; exact HI8.out
        case measure => simp [intOf]; omega
    · have e : k = ru := by omega
      subst e
      have HI9 : Hid (IW w wr rb s (lh6 s) (.slice (some ⟨bb, 0, none⟩) k k) (List.replicate 256 0) (.slice none 0 0)) := by
        unfold Hid
        have := HI8.out
        rw [List.take_of_length_le (by omega), ← E6.out] at this
        exact this
      have a6 : (lh6 s).1 ≤ s.size := by rw [E6.out]; exact a7
      have hd : decide ((k : Int) < (k : Int)) = false := by simp
      clear HI8
      go_wp2_with fail
      refine (lnumber_any s _ 0 255 rb _ hs HI9.out.rd a6).mono ?_
      rintro e w8 ⟨rfl, hg8, hl8⟩
      have HIA : Hid (IW w w8 rb s (lh7 s) _ _ _) := hidZ (HI9.out.step hg8 hl8)
      have HNA := hidZ (HN8.out.grown hg8 (by omega))
      have hx6 := numP_le (s := s) (lo := 0) (hi := 255) (r := lh6 s) (by omega)
      have a8 : (lh7 s).1 ≤ s.size := numP_at (lo := 0) (hi := 255) a6
      have EC : Hid (lClasses s = 1 + (numP s 0 255 (lh6 s)).1) := rfl
      clear HI9 HN8 hg8 hl8 a6
      generalize (numP s 0 255 (lh6 s)).1 = x6 at *
      obtain ⟨cl, ECL⟩ : ∃ cl, lClasses s = cl := ⟨_, rfl⟩
      rw [ECL] at EC
      have hcl : cl = 1 + x6 := EC.out
      have h8 : (cl : Int) - 1 = (x6 : Int) := by omega
      have hcI : (1 : Int) + (x6 : Int) = (cl : Int) := by omega
      have EX : Hid (x6 = cl - 1) := by unfold Hid; omega
      replace ECL := hidZ ECL
      replace hcl := hidZ hcl
      have hcb : cl ≤ 256 := by have := hcl.out; omega
      clear EC
      go_wp2_with fail
      go_loopg [44] 256 (fun gk x wr => ∃ (xs : List Nat) (m : Nat) (r' : LSt), x = .int .i64 (m : Int) ∧ xs.length = m ∧ m + gk = 256 ∧ r'.1 ≤ s.size ∧ numsP s x6 256 [] (lh7 s) = numsP s x6 gk xs r' ∧
        IW w wr rb s r' (.slice (some ⟨bb, 0, none⟩) k k) (xs ++ List.replicate gk 0) (.slice none 0 0) ∧ NatsIn wr (w.heap.size + 2) bb L)
      case atStart => exact ⟨[], 0, lh7 s, rfl, rfl, rfl, a8, rfl, HIA.out, HNA.out⟩
      case round =>
        obtain ⟨xs, m, r', rfl, hxl, hmg, hr', heq, hiw, hnw⟩ := hrel
        have HQ := hidZ heq
        have HIB := hidZ hiw
        have HNB := hidZ hnw
        have HX := hidZ hxl
        clear heq hiw hnw hxl HIA HNA
        by_cases hlt2 : m < 256
        · obtain ⟨g', rfl⟩ : ∃ g', gk = g' + 1 := ⟨gk - 1, by omega⟩
          have HQ2 : Hid (numsP s x6 256 [] (lh7 s) = numsP s x6 g' (xs ++ [(numP s 0 x6 r').1]) (numP s 0 x6 r').2) := HQ.out
          have hc := lnumber_any s r' 0 x6 rb wr hs HIB.out.rd hr'
          have ha := numP_at (lo := 0) (hi := x6) hr'
          generalize numP s 0 x6 r' = N at *
          obtain ⟨x, r2⟩ := N
          simp only at *
          have hd2 : decide ((m : Int) < 256) = true := by simp; omega
          go_wp2_with fail
          refine hc.mono ?_
          rintro e w9 ⟨rfl, hg9, hl9⟩
          have HIC := hidZ (HIB.out.step hg9 hl9)
          have HNC := hidZ (HNB.out.grown hg9 (by omega))
          clear hg9 hl9 HIB HNB hc HQ
          have hml : m < (xs ++ List.replicate (g' + 1) 0).length := by rw [HIC.out.hl]; exact hlt2
          have HE : Hid ((xs ++ List.replicate (g' + 1) 0).set m x = (xs ++ [x]) ++ List.replicate g' 0) := by unfold Hid; rw [← HX.out]; exact set_next xs g' x
          have HIS := hidZ (HIC.out.set (k := 1 + m) (u := .int .i64 (x : Int)) (by omega) (imgC_setk _ _ _ m x hml) (by rw [List.length_set]; exact HIC.out.hl))
          have HNS := hidZ (HNC.out.set (g := w.heap.size + 1) (k := 1 + m) (by omega) (.int .i64 (x : Int)))
          have cm := HIC.out.cell (imgC_k _ _ _ m hml)
          have fm := HIC.out.fz (k := 1 + m) (by omega)
          rw [HE.out] at HIS
          generalize (xs ++ List.replicate (g' + 1) 0)[m] = old at *
          clear HIC HNC hml HE
          have hmI : (0 : Int) ≤ (m : Int) ∧ (m : Int) < 256 := by omega
          go_wp2
          go_roundg g'
          case measure => omega
          case rel => exact ⟨xs ++ [x], m + 1, r2, by go_num, by simp [HX.out], by omega, ha, HQ2.out, HIS.out, HNS.out⟩
        · have e : gk = 0 := by omega
          subst e
          have HE : Hid (lClassOf s = xs ∧ lh8 s = r') := by
            have e1 : numsP s x6 256 [] (lh7 s) = (xs, r') := HQ.out
            have e2 : lClasses s - 1 = x6 := by rw [ECL.out, EX.out]
            unfold Hid lClassOf lh8
            rw [e2, e1]; exact ⟨rfl, rfl⟩
          have HID := HIB
          rw [List.replicate_zero, List.append_nil] at HID
          have hd2 : decide ((m : Int) < 256) = false := by simp; omega
          clear HIB HQ hmg
          go_wp2_with fail
          go_loopg [10] mn (fun gk _ wr => ∃ (ys : List CondG) (vc : Value) (j : Nat) (r2 : LSt), ys.length = j ∧ j + gk = mn ∧ r2.1 ≤ s.size ∧
            condsP s k cl mn [] r' = condsP s k cl gk (ys.map (fun y => y.2.map (·.1))) r2 ∧ IW w wr rb s r2 (.slice (some ⟨bb, 0, none⟩) k k) xs vc ∧ NatsIn wr (w.heap.size + 2) bb L ∧
            wr.ownsRow (bb + 1) 110 1 vc j (condC ys) ∧ CondsIn wr cl bb vc ys)
          case atStart => exact ⟨[], .slice none 0 0, 0, r', rfl, by omega, hr', rfl, HID.out, HNB.out, World.ownsRow_nil _ _ _ _, fun y hy => absurd hy (List.not_mem_nil)⟩
          case round =>
            obtain ⟨ys, vc, j, r2, hyl, hjg, hr2, heq, hiw, hnw, how, hcw⟩ := hrel
            have HQ := hidZ heq
            have HIW := hidZ hiw
            have HNW := hidZ hnw
            have HOW := hidZ how
            have HCW := hidZ hcw
            have HY := hidZ hyl
            clear heq hiw hnw how hcw hyl HID HNB
            obtain ⟨va, vcap, hvc⟩ := rowSlice HOW.out
            subst hvc
            by_cases hlt3 : j < mn
            · obtain ⟨g', rfl⟩ : ∃ g', gk = g' + 1 := ⟨gk - 1, by omega⟩
              have HQ2 : Hid (condsP s k cl mn [] r' = condsP s k cl g' (ys.map (fun y => y.2.map (·.1)) ++ [(condP s k cl r2).1]) (condP s k cl r2).2) := HQ.out
              have hc := lcond_any s r2 k cl rb wr hs hcb HIW.out.rd hr2
              have ha := condP_at (ru := k) (cl := cl) hr2
              generalize condP s k cl r2 = N at *
              obtain ⟨zl, r3⟩ := N
              simp only at *
              have hd3 : decide ((j : Int) < (mn : Int)) = true := by simp; omega
              have c257 := HIW.out.cell (imgC_257 _ _ _ HIW.out.hl)
              go_wp2_with fail
              refine hc.mono ?_
              rintro e w9 ⟨B, zs, hB, rfl, hzm, how9, hst9, hg9, hl9⟩
              have HI9 := hidZ (HIW.out.step hg9 hl9)
              have HN9 := hidZ (HNW.out.grown hg9 (by omega))
              have HO9 : Hid (w9.ownsRow (bb + 1) 110 1 (.slice va j vcap) j (condC ys)) := hidZ (HOW.out.kept hg9 (by
                cases hv : (Value.slice va j vcap).ownBlock with
                | none => exact .inl rfl
                | some q => right; have := (HOW.out.lt q hv).1; intro e; injection e; omega))
              have hbw : bb < wr.heap.size := HNW.out.2.1
              have HC9 : Hid (CondsIn w9 cl bb (.slice va j vcap) (ys ++ [(B, zs)])) := hidZ ((HCW.out.move hg9 (fun q hq => by injection hq; left; omega) (fun q _ hq => hq)).snoc ⟨⟨(how9.lt B rfl).2, by
                  intro i u hu
                  have := how9.cells rfl i u hu
                  by_cases hi : i = 0
                  · subst hi; simpa [Addr.add] using this
                  · simpa [Addr.add, hi] using this, fun z hz => ⟨(hst9 z hz).2.1, (hst9 z hz).2.2⟩⟩, fun q hq => by
                  have hq' : B ≤ q := by
                    rcases hq with rfl | ⟨z, hz, rfl⟩
                    · exact Nat.le_refl _
                    · have := (hst9 z hz).1; omega
                  refine ⟨by omega, fun e => ?_⟩
                  have := (HOW.out.lt q e).2
                  omega⟩)
              have HZ := hidZ hzm
              clear hg9 hl9 how9 hst9 hzm HIW HNW HOW HCW hc HQ c257
              have c257 := HI9.out.cell (imgC_257 _ _ _ HI9.out.hl)
              have hz9 : wr.heap.size ≤ w9.heap.size := by have := HC9.out (B, zs) (List.mem_append.2 (.inr (List.mem_singleton.2 rfl))); have := this.1.lt; simp only at this; omega
              go_wp2_with (first | (at_builtin; refine wpList_app1 w9 rfl (.tmp 65) (.tmp 67) 52 rfl (bb + 1) 110 (.slice none 0 0) 1 24 Tryz.underlying52 Tryz.infoConds rfl (by decide) (by decide) _ j (condC ys) [.slice (some ⟨B, 0, none⟩) zs.length zs.length] _ rfl HO9.out _ rfl rfl rfl (by simp [Value.oneCell']) (by omega) (by omega) ?_; intro ga capa wa howa hga hata hlta; have HIA := hidZ ((HI9.out.other (World.grownBy_alloc w9 _ none) (fun q hq => by cases hq)).other hga (fun q hq => by have := (HO9.out.lt q hq).1; omega)); have d257 := HIA.out.cell (imgC_257 _ _ _ HIA.out.hl); have f257 := HIA.out.fz (k := 257) (by omega); clear c257))
              have hnc : ∀ q, q < (w9.alloc (.cells #[.slice (some ⟨B, 0, none⟩) zs.length zs.length] 110)).heap.size → (Value.slice (some ⟨ga, 0, none⟩) (j + 1) capa).ownBlock = some q → (Value.slice va j vcap).ownBlock = some q := fun q hq e => by
                have e' : ga = q := by simpa [Value.ownBlock] using e
                subst e'
                rcases hata with h1 | h1
                · exact h1
                · simp at hq; omega
              go_roundg g'
              case measure => omega
              case rel =>
                refine ⟨ys ++ [(B, zs)], .slice (some ⟨ga, 0, none⟩) (j + 1) capa, j + 1, r3, by simp [HY.out], by omega, ha, ?_, ?_, ?_, ?_, ?_⟩
                · rw [List.map_append, List.map_singleton]; simp only; rw [HZ.out]; exact HQ2.out
                · exact HIA.out.set (k := 257) (by omega) (imgC_set257 _ _ _ _ HIA.out.hl) HIA.out.hl
                · refine NatsIn.set ((HN9.out.grown (g := w.heap.size) (World.grownBy_alloc w9 _ _) (by omega)).block hga.size (hga.block bb (by simp; have := HN9.out.2.1; omega) (fun e => ?_))) (by omega) _
                  have := (HO9.out.lt bb e.symm).1
                  omega
                · rw [condC_snoc]; exact ownsRow_setCell_below howa (by show w.heap.size + 1 < bb + 1; omega) _
                · exact CondsIn.set ((HC9.out.move (World.grownBy_alloc w9 _ none) (fun q hq => by cases hq) (fun q _ hq => hq)).move hga (fun q hq => .inr hq) hnc) (by omega) _
            · have e : gk = 0 := by omega
              subst e
              have HE9 : Hid (lConds s = ys.map (fun y => y.2.map (·.1)) ∧ lh9 s = r2) := by
                have e1 : condsP s k cl mn [] r' = (ys.map (fun y => y.2.map (·.1)), r2) := HQ.out
                unfold Hid lConds lh9
                rw [ERU.out, ECL.out, EMN.out, HE.out.2, e1]; exact ⟨rfl, rfl⟩
              have c257 := HIW.out.cell (imgC_257 _ _ _ HIW.out.hl)
              have hd3 : decide ((j : Int) < (mn : Int)) = false := by simp; omega
              have HONE := hidZ (imgC_one (vb := .slice (some ⟨bb, 0, none⟩) k k) (vc := .slice va j vcap) (cs := xs) rfl rfl)
              have HLEN := hidZ (imgC_len (.slice (some ⟨bb, 0, none⟩) k k) xs (.slice va j vcap) HIW.out.hl)
              obtain ⟨IL, EIL⟩ : ∃ l, imgC (.slice (some ⟨bb, 0, none⟩) k k) xs (.slice va j vcap) = l := ⟨_, rfl⟩
              have HIM : Hid (wr.rangeAt (w.heap.size + 1) 0 IL) := by rw [← EIL]; exact HIW.out.im
              rw [EIL] at HONE HLEN
              replace EIL := hidZ EIL
              have HSZ : Hid (IL.toArray.size = 258) := by unfold Hid; simpa using HLEN.out
              go_wp2_with (first | (refine wpList_load_mid rfl 72 (.tmp 3) rfl (w.heap.size + 1) 0 rfl IL _ HIM.out Tryz.underlying72 rfl ?_ ?_; (rw [HLEN.out]; exact Tryz.imgSize)) | (refine wpList_store_mid rfl 72 (.tmp 2) (.tmp 70) rfl w.heap.size 0 IL.toArray rfl rfl ?_ ?_ (all_oneCell_toArray HONE.out) ?_; (rw [HSZ.out]; exact HIW.out.t0); (rw [HSZ.out]; exact Tryz.imgSize)))
              have HT0 : Hid (wr.there w.heap.size 0 IL.length) := by unfold Hid; rw [HLEN.out]; exact HIW.out.t0
              refine ret_cell1 Tryz.results51 w.heap.size 0 IL _ rfl ?_ Tryz.underlying72 rfl (by rw [HLEN.out]; exact Tryz.imgSize) rfl ?_
              · exact World.rangeAt_setCells_same _ _ _ _ HT0.out
              · have hbs := below_setCells IL 0 wr w.heap.size (Below.refl w.heap.size _) (Nat.le_refl _)
                have hyl := HY.out
                refine ⟨bb, .slice va j vcap, ys, ?_, ?_, ?_, HE9.out.1.symm, fun y hy => ?_, ?_, ?_⟩
                · rw [ERU.out, HE.out.1, EIL.out]
                · rw [EL.out]; exact HNW.out.block hbs.size (setCells_block wr w.heap.size 0 IL bb (by omega))
                · rw [hyl]; exact ownsRow_setCells_below HOW.out (by omega) IL 0
                · rw [ECL.out]
                  obtain ⟨h1, h2⟩ := HCW.out y hy
                  exact ⟨h1.block hbs.size (fun q _ ho => setCells_block wr w.heap.size 0 IL q (by have := (h2 q ho).1; omega)), fun q ho => (h2 q ho).1⟩
                · exact grown_setCells HIW.out.g _ _ _ (Nat.le_refl _)
                · rw [HE9.out.2]; exact HIW.out.rd.below hbs hrb
end Go.Proofs.YtgjgjgihceijnaaGreat

namespace Go.Proofs.YtgjgjgihceijnaaGreat
open Go.RowKit Go.Stn

set_option maxHeartbeats 400000 in
theorem below_any (s : ByteArray) (i n : Nat) (most : Int) (w : World) (hs : s.size ≤ maxLen) (hi : i ≤ 1000000000) (hn : n ≤ 1000000000) :
    Calls Tryz.prog 117 #[.string s, .int .i64 i, .int .i64 n, .int .i64 most] w fun e w' => e = .returned (.bool (belowB s i n most)) ∧ w' = w := by
  unfold maxLen at hs
  by_cases hsh : s.size < i + n
  · have hf := belowB_short (most := most) hsh
    rw [hf]; clear hf
    go_enter Tryz.func117, Tryz.ntmps117
    go_wp2
    go_ret
    exact ⟨rfl, rfl⟩
  · go_enter Tryz.func117, Tryz.ntmps117
    go_wp2
    go_loop [9] (fun k => ∃ j : Nat, j ≤ n ∧ k = .int .i64 ((i + j : Nat) : Int) ∧ ∀ l, l < j → (bt s (i + l) : Int) ≤ most) (fun k => i + n - (intOf k).toNat)
    case atStart => exact ⟨0, Nat.zero_le _, rfl, fun l h => absurd h (Nat.not_lt_zero _)⟩
    case round =>
      obtain ⟨j, hj, rfl, hall⟩ := hrel
      have HA : Hid (∀ l, l < j → (bt s (i + l) : Int) ≤ most) := hall
      clear hall
      by_cases hlt : j < n
      · have hb := bt_eq s (i + j) (by omega)
        have hb2 := bt_lt s (i + j)
        by_cases hm : (bt s (i + j) : Int) ≤ most
        · go_wp2
          go_round
          case rel =>
            refine ⟨j + 1, hlt, by go_num, ?_⟩
            intro l hl
            by_cases e : l = j
            · rw [e]; exact hm
            · exact HA.out l (by omega)
          case measure => simp [intOf]; omega
        · have hf := belowB_no (i := i) (most := most) hlt (Int.not_le.mp hm)
          have HF : Hid (belowB s i n most = false) := hf
          clear hf
          go_wp2
          go_ret
          exact ⟨by rw [HF.out]; rfl, rfl⟩
      · have hf := belowB_yes (s := s) (i := i) (n := n) (most := most) (by omega) (fun l hl => HA.out l (by omega))
        have HF : Hid (belowB s i n most = true) := hf
        clear hf
        go_wp2
        go_ret
        exact ⟨by rw [HF.out]; rfl, rfl⟩

/-- The same, the numbers spelt however. -/
theorem below_z (s : ByteArray) (iN nN : Nat) (i n most : Int) (w : World) (hs : s.size ≤ 1000000) (hi : iN ≤ 1000000000) (hn : nN ≤ 1000000000) (ei : i = (iN : Int)) (en : n = (nN : Int)) :
    Calls Tryz.prog 117 #[.string s, .int .i64 i, .int .i64 n, .int .i64 most] w fun e w' => e = .returned (.bool (belowB s iN nN most)) ∧ w' = w := by
  subst ei en
  exact below_any s iN nN most w (by unfold maxLen; omega) hi hn
end Go.Proofs.YtgjgjgihceijnaaGreat

namespace Go.Proofs.YtgjgjgihceijnaaGreat
open Go.RowKit Go.Stn

theorem mul_small {a b : Nat} (ha : a ≤ 255) (hb : b ≤ 257) : a * b ≤ 65535 := Nat.le_trans (Nat.mul_le_mul ha hb) (by decide)

set_option maxHeartbeats 1000000 in
theorem states_any (s : ByteArray) (rules many i b : Nat) (w : World) (hs : s.size ≤ 120000) (hi : i ≤ 1000000) (hm : many ≤ 256)
    (h0 : w.cell? ⟨b, 0, none⟩ = some (.string s)) (h1 : w.cell? ⟨b, 1, none⟩ = some (.int .i64 rules)) (h4 : w.cell? ⟨b, 4, none⟩ = some (.int .i64 many)) :
    Calls Tryz.prog 118 #[.pointer (some ⟨b, 0, none⟩), .int .i64 i] w fun e w' =>
      e = .returned (.tuple #[.int .i64 (stN s rules many i), .int .i64 (stNext s rules many i), .bool (stOk s rules many i)]) ∧ ∃ q, w' = w.drewN q := by
  by_cases hb : belowB s i 1 100 = true
  case neg =>
    have hno : ¬ (stOk s rules many i = true) := by
      intro h; rw [stOk_iff] at h
      exact hb (belowB_yes h.1 (fun j hj => by have : j = 0 := by omega
                                               subst this; simp; have := h.2.1; omega))
    obtain ⟨e1, e2, e3⟩ := st_no hno
    rw [e1, e2, e3]
    clear e1 e2 e3 hno
    have hb : belowB s i 1 100 = false := by simpa using hb
    go_enter Tryz.func118, Tryz.ntmps118
    go_wp2_with (first | (go_at_call 117; refine (below_any _ _ 1 100 _ (by unfold maxLen; omega) (by omega) (by omega)).mono ?_; rintro e w ⟨rfl, rfl⟩))
    go_ret3
    exact ⟨rfl, 0, rfl⟩
  have hb1 : i + 1 ≤ s.size ∧ bt s i ≤ 100 := by
    unfold belowB at hb
    simp only [Bool.and_eq_true, decide_eq_true_eq] at hb
    have := hb.2 0 (by omega)
    simp at this
    exact ⟨hb.1, by omega⟩
  obtain ⟨hlt, h100⟩ := hb1
  have hbe := bt_eq s i (by omega)
  by_cases hz : bt s i = 0
  · have hno : ¬ (stOk s rules many i = true) := by
      intro h; rw [stOk_iff] at h; exact h.2.2.1 hz
    obtain ⟨e1, e2, e3⟩ := st_no hno
    rw [e1, e2, e3]
    clear e1 e2 e3 hno
    go_enter Tryz.func118, Tryz.ntmps118
    go_wp2_with (first | (go_at_call 117; refine (below_any _ _ 1 100 _ (by unfold maxLen; omega) (by omega) (by omega)).mono ?_; rintro e w ⟨rfl, rfl⟩))
    go_ret3
    exact ⟨rfl, 0, rfl⟩
  have hmul := mul_small (a := bt s i) (b := 1 + many) (by omega) (by omega)
  have hmI : (0 : Int) ≤ (bt s i : Int) * (1 + (many : Int)) ∧ (bt s i : Int) * (1 + (many : Int)) ≤ 65535 := by
    have e : ((bt s i * (1 + many) : Nat) : Int) = (bt s i : Int) * (1 + (many : Int)) := by simp
    omega
  by_cases hlong : s.size < i + 1 + bt s i * (1 + many)
  · have hno : ¬ (stOk s rules many i = true) := by
      intro h; rw [stOk_iff] at h; omega
    obtain ⟨e1, e2, e3⟩ := st_no hno
    rw [e1, e2, e3]
    have hl : (s.size : Int) < (i : Int) + 1 + (bt s i : Int) * (1 + (many : Int)) := by
      have e : ((bt s i * (1 + many) : Nat) : Int) = (bt s i : Int) * (1 + (many : Int)) := by simp
      omega
    clear e1 e2 e3 hno hlong hmul
    go_enter Tryz.func118, Tryz.ntmps118
    go_wp2_with (first | (go_at_call 117; refine (below_any _ _ 1 100 _ (by unfold maxLen; omega) (by omega) (by omega)).mono ?_; rintro e w ⟨rfl, rfl⟩))
    go_ret3
    exact ⟨rfl, 0, rfl⟩
  have hl : (i : Int) + 1 + (bt s i : Int) * (1 + (many : Int)) ≤ (s.size : Int) := by
    have e : ((bt s i * (1 + many) : Nat) : Int) = (bt s i : Int) * (1 + (many : Int)) := by simp
    omega
  have HL : Hid (i + 1 + bt s i * (1 + many) ≤ s.size) := by unfold Hid; omega
  clear hlong hmul
  have hz0 : ((bt s i : Int) == 0) = false := beq_eq_false_iff_ne.2 (by omega)
  have hl0 : decide ((s.size : Int) < (i : Int) + 1 + (bt s i : Int) * (1 + (many : Int))) = false := by simp; omega
  go_enter Tryz.func118, Tryz.ntmps118
  go_wp2_with (first | (go_at_call 117; refine (below_any _ _ 1 100 _ (by unfold maxLen; omega) (by omega) (by omega)).mono ?_; rintro e w ⟨rfl, rfl⟩))
  go_loopw [10] (fun k w' => ∃ st q : Nat, st ≤ bt s i ∧ k = .int .i64 (st : Int) ∧ w' = w.drewN q ∧ ∀ l, l < st → rowOk s rules many (bt s i) (i + 1 + l * (1 + many)) = true) (fun k _ => bt s i - (intOf k).toNat)
  case atStart => exact ⟨0, 0, Nat.zero_le _, rfl, rfl, fun l h => absurd h (Nat.not_lt_zero _)⟩
  case round =>
    obtain ⟨st, q, hst, rfl, rfl, hall⟩ := hrel
    have HA : Hid (∀ l, l < st → rowOk s rules many (bt s i) (i + 1 + l * (1 + many)) = true) := hall
    clear hall
    by_cases hlt2 : st < bt s i
    · have hmul : st * (1 + many) + (1 + many) ≤ bt s i * (1 + many) := by
        have := Nat.mul_le_mul_right (1 + many) (show st + 1 ≤ bt s i from hlt2)
        rw [Nat.add_mul] at this; omega
      have hmJ : (0 : Int) ≤ (st : Int) * (1 + (many : Int)) ∧ (st : Int) * (1 + (many : Int)) + (1 + (many : Int)) ≤ (bt s i : Int) * (1 + (many : Int)) := by
        have e : ((bt s i * (1 + many) : Nat) : Int) = (bt s i : Int) * (1 + (many : Int)) := by simp
        have e2 : ((st * (1 + many) : Nat) : Int) = (st : Int) * (1 + (many : Int)) := by simp
        omega
      have HM : Hid (st * (1 + many) + (1 + many) ≤ bt s i * (1 + many)) := hmul
      clear hmul
      obtain ⟨a, haN⟩ : ∃ a : Nat, a = i + 1 + st * (1 + many) := ⟨_, rfl⟩
      have ha : (i : Int) + 1 + (st : Int) * (1 + (many : Int)) = (a : Int) := by
        have e2 : ((st * (1 + many) : Nat) : Int) = (st : Int) * (1 + (many : Int)) := by simp
        omega
      have haw : a + 1 + many ≤ s.size := by omega
      have HAN : Hid (a = i + 1 + st * (1 + many)) := haN
      clear haN hmJ
      have hbe2 := bt_eq s a (by omega)
      have hbl := bt_lt s a
      by_cases hrow : bt s a ≤ rules
      · have hdec : decide (rules < bt s a) = false := by simp; omega
        go_wp2
        go_quiet (fail)
        go_wp2
        go_loopw [12] (fun k w' => ∃ kk q2 : Nat, w' = w.drewN q2 ∧ kk ≤ many ∧ k = .int .i64 ((kk + 1 : Nat) : Int) ∧ ∀ l, l < kk → bt s (a + (l + 1)) < bt s i ∨ bt s (a + (l + 1)) = 255) (fun k _ => 1 + many - (intOf k).toNat)
        case atStart => exact ⟨0, q + nq, by simp, Nat.zero_le _, rfl, fun l h => absurd h (Nat.not_lt_zero _)⟩
        case round =>
          obtain ⟨kk, q2, rfl, hkk, rfl, hall⟩ := hrel
          have HK : Hid (∀ l, l < kk → bt s (a + (l + 1)) < bt s i ∨ bt s (a + (l + 1)) = 255) := hall
          clear hall
          by_cases hlt3 : kk < many
          · have hbe3 := bt_eq s (a + (kk + 1)) (by omega)
            have hbl3 := bt_lt s (a + (kk + 1))
            by_cases hgood : bt s (a + (kk + 1)) < bt s i ∨ bt s (a + (kk + 1)) = 255
            · have HG : Hid (bt s (a + (kk + 1)) < bt s i ∨ bt s (a + (kk + 1)) = 255) := hgood
              by_cases hge : bt s i ≤ bt s (a + (kk + 1))
              · have h255 : bt s (a + (kk + 1)) = 255 := by omega
                clear hgood
                go_wp2
                go_roundw
                case rel =>
                  refine ⟨kk + 1, q2, rfl, hlt3, by go_num, ?_⟩
                  intro l hl
                  by_cases e : l = kk
                  · rw [e]; exact HG.out
                  · exact HK.out l (by omega)
                case measure => simp [intOf]; omega
              · clear hgood
                go_wp2
                go_roundw
                case rel =>
                  refine ⟨kk + 1, q2, rfl, hlt3, by go_num, ?_⟩
                  intro l hl
                  by_cases e : l = kk
                  · rw [e]; exact HG.out
                  · exact HK.out l (by omega)
                case measure => simp [intOf]; omega
            · have hno : ¬ (stOk s rules many i = true) := by
                intro h; rw [stOk_iff] at h
                have h5 := h.2.2.2.2 st hlt2
                rw [rowOk_iff, ← HAN.out] at h5
                exact hgood (h5.2 kk hlt3)
              obtain ⟨e1, e2, e3⟩ := st_no hno
              have E : Hid (stN s rules many i = 0 ∧ stNext s rules many i = i ∧ stOk s rules many i = false) := ⟨e1, e2, e3⟩
              have hge : bt s i ≤ bt s (a + (kk + 1)) := by omega
              have h255 : bt s (a + (kk + 1)) ≠ 255 := by omega
              clear e1 e2 e3 hno hgood
              go_wp2
              go_ret3
              refine ⟨?_, q2, rfl⟩
              rw [E.out.1, E.out.2.1, E.out.2.2]
              rfl
          · have e : kk = many := by omega
            subst e
            go_wp2
            go_roundw
            case rel =>
              refine ⟨st + 1, q2, hlt2, by go_num, rfl, ?_⟩
              intro l hl
              by_cases e : l = st
              · rw [e, rowOk_iff, ← HAN.out]; exact ⟨hrow, HK.out⟩
              · exact HA.out l (by omega)
            case measure => simp [intOf]; omega
      · have hno : ¬ (stOk s rules many i = true) := by
          intro h; rw [stOk_iff] at h
          have h5 := h.2.2.2.2 st hlt2
          rw [rowOk_iff, ← HAN.out] at h5
          exact hrow h5.1
        obtain ⟨e1, e2, e3⟩ := st_no hno
        have E : Hid (stN s rules many i = 0 ∧ stNext s rules many i = i ∧ stOk s rules many i = false) := ⟨e1, e2, e3⟩
        clear e1 e2 e3 hno
        go_wp2
        go_quiet (fail)
        go_wp2
        go_ret3
        refine ⟨?_, q + nq, by simp⟩
        rw [E.out.1, E.out.2.1, E.out.2.2]
        rfl
    · have e : st = bt s i := by omega
      subst e
      have hyes : stOk s rules many i = true := stOk_iff.2 ⟨hlt, h100, hz, HL.out, HA.out⟩
      obtain ⟨e1, e2⟩ := st_yes hyes
      have E : Hid (stN s rules many i = bt s i ∧ stNext s rules many i = i + 1 + bt s i * (1 + many) ∧ stOk s rules many i = true) := ⟨e1, e2, hyes⟩
      clear e1 e2 hyes
      go_wp2
      go_ret3
      refine ⟨?_, q, rfl⟩
      rw [E.out.1, E.out.2.1, E.out.2.2]
      simp
end Go.Proofs.YtgjgjgihceijnaaGreat

namespace Go.Stn
theorem pre3 (s : ByteArray) (h : 3 ≤ s.size) : ((s.extract 0 3).toList = [83, 84, 1]) ↔ (bt s 0 = 83 ∧ bt s 1 = 84 ∧ bt s 2 = 1) := by
  rw [ByteArray.toList_eq]
  have e : (s.extract 0 3).data.toList = s.data.toList.take 3 := by
    simp [ByteArray.data_extract]
  rw [e]
  unfold bt
  have hl : 3 ≤ s.data.toList.length := by simpa using h
  generalize s.data.toList = l at hl ⊢
  match l, hl with
  | a :: b :: c :: r, _ =>
    simp
    refine ⟨?_, ?_⟩
    · rintro ⟨rfl, rfl, rfl⟩; decide
    · rintro ⟨h1, h2, h3⟩
      exact ⟨UInt8.toNat_inj.1 h1, UInt8.toNat_inj.1 h2, UInt8.toNat_inj.1 h3⟩

end Go.Stn

namespace Go.Proofs.YtgjgjgihceijnaaGreat
open Go.RowKit Go.Stn

set_option maxRecDepth 100000 in
set_option maxHeartbeats 1000000 in
theorem parse_noA (s : ByteArray) (w : World) (hs : s.size ≤ 120000) (hA : headA s = false) :
    Calls Tryz.prog 111 #[.string s] w fun e w' =>
      e = .returned (.tuple #[.pointer none, .bool false]) ∧ w' = w := by
  have HA : Hid (¬ (4 ≤ s.size ∧ (bt s 0 = 83 ∧ bt s 1 = 84 ∧ bt s 2 = 1) ∧ 1 ≤ bt s 3 ∧ bt s 3 ≤ 8)) := by
    intro h; rw [headA_iff.2 h] at hA; cases hA
  clear hA
  by_cases h4 : s.size < 4
  · go_enter Tryz.func111, Tryz.ntmps111
    go_wp2
    go_ret2
    exact ⟨rfl, rfl⟩
  have hb3 := bt_eq s 3 (by omega)
  have hb3l := bt_lt s 3
  have hp3 := pre3 s (by omega)
  by_cases hp : (s.extract 0 3).toList = [83, 84, 1]
  · have h2 : ¬ (1 ≤ bt s 3 ∧ bt s 3 ≤ 8) := fun h => HA.out ⟨by omega, hp3.1 hp, h⟩
    clear hp3
    by_cases h1 : bt s 3 < 1
    · clear h2
      go_enter Tryz.func111, Tryz.ntmps111
      go_wp2
      go_ret2
      exact ⟨rfl, rfl⟩
    · have h8 : 8 < bt s 3 := by omega
      clear h2
      go_enter Tryz.func111, Tryz.ntmps111
      go_wp2
      go_ret2
      exact ⟨rfl, rfl⟩
  · clear hp3
    go_enter Tryz.func111, Tryz.ntmps111
    go_wp2
    go_ret2
    exact ⟨rfl, rfl⟩

set_option maxRecDepth 100000 in
set_option maxHeartbeats 1000000 in
theorem parse_noB (s : ByteArray) (w : World) (hs : s.size ≤ 120000) (hA : headA s = true) (hB : headB s = false) :
    Calls Tryz.prog 111 #[.string s] w fun e w' =>
      e = .returned (.tuple #[.pointer none, .bool false]) ∧ Below w.heap.size w w' := by
  obtain ⟨h4, hp, h1, h8⟩ := headA_iff.1 hA
  have hp := (pre3 s (by omega)).2 hp
  have hb3 : (s[3]).toNat = iR s := bt_eq s 3 (by omega)
  unfold headB iM at hB
  generalize iR s = n at *
  clear hA
  by_cases hb : belowB s (4 + n) 1 4 = true
  · have hz : bt s (4 + n) = 0 := by simpa [hb] using hB
    have hlt := belowB_size hb
    have hbe := bt_eq s (4 + n) (by omega)
    clear hB
    go_enter Tryz.func111, Tryz.ntmps111
    go_wp2_with (first | (go_at_call 117; refine (below_any s (4 + n) 1 4 _ (by unfold maxLen; omega) (by omega) (by omega)).mono ?_; rintro e w ⟨rfl, rfl⟩))
    go_ret2
    exact ⟨rfl, (Below.refl _ _).alloc (Nat.le_refl _) _⟩
  · have hb : belowB s (4 + n) 1 4 = false := by simpa using hb
    clear hB
    go_enter Tryz.func111, Tryz.ntmps111
    go_wp2_with (first | (go_at_call 117; refine (below_any s (4 + n) 1 4 _ (by unfold maxLen; omega) (by omega) (by omega)).mono ?_; rintro e w ⟨rfl, rfl⟩))
    go_ret2
    exact ⟨rfl, (Below.refl _ _).alloc (Nat.le_refl _) _⟩
end Go.Proofs.YtgjgjgihceijnaaGreat

namespace Go.Proofs.YtgjgjgihceijnaaGreat
open Go.RowKit Go.Stn

set_option maxRecDepth 100000 in
set_option maxHeartbeats 1000000 in
theorem parse_noC (s : ByteArray) (w : World) (hs : s.size ≤ 120000) (hA : headA s = true) (hB : headB s = true) (hC : headC s = false) :
    Calls Tryz.prog 111 #[.string s] w fun e w' =>
      e = .returned (.tuple #[.pointer none, .bool false]) ∧ Below w.heap.size w w' := by
  obtain ⟨h4, hp, h1, h8⟩ := headA_iff.1 hA
  have hp := (pre3 s (by omega)).2 hp
  have hb3 : (s[3]).toNat = iR s := bt_eq s 3 (by omega)
  unfold headB at hB
  simp only [Bool.and_eq_true, decide_eq_true_eq] at hB
  obtain ⟨hb, hz⟩ := hB
  have hlt := belowB_size hb
  have hm4 := belowB_le hb 0 (by omega)
  have hbe : (s[4 + iR s]).toNat = iM s := bt_eq s (4 + iR s) (by omega)
  have hm4 : iM s ≤ 4 := by unfold iM; simp at hm4; omega
  unfold headC at hC
  generalize iM s = m at *
  generalize iR s = n at *
  clear hA
  have hz0 : ((m : Int) == 0) = false := beq_eq_false_iff_ne.2 (by omega)
  by_cases hc1 : belowB s 4 n (1 + (m : Int)) = true
  · have hc2 : belowB s (5 + n) 1 255 = false := by simpa [hc1] using hC
    clear hC
    go_enter Tryz.func111, Tryz.ntmps111
    go_wp2_with (first | (go_at_call 117; refine (below_any s (4 + n) 1 4 _ (by unfold maxLen; omega) (by omega) (by omega)).mono ?_; rintro e w ⟨rfl, rfl⟩))
    go_quiet ((go_at_call 117; exact Calls.quiet_of_same (below_any s 4 n (1 + m) _ (by unfold maxLen; omega) (by omega) (by omega))))
    go_wp2_with fail
    refine (below_z s (5 + n) 1 _ _ 255 _ (by omega) (by omega) (by omega) (by omega) rfl).mono ?_
    rintro e w ⟨rfl, rfl⟩
    go_wp2
    go_ret2
    exact ⟨rfl, by repeat (first | exact Below.refl _ _ | apply _root_.Go.below_drewN | refine Below.alloc ?_ (Nat.le_refl _) _)⟩
  · have hc1 : belowB s 4 n (1 + (m : Int)) = false := by simpa using hc1
    clear hC
    go_enter Tryz.func111, Tryz.ntmps111
    go_wp2_with (first | (go_at_call 117; refine (below_any s (4 + n) 1 4 _ (by unfold maxLen; omega) (by omega) (by omega)).mono ?_; rintro e w ⟨rfl, rfl⟩))
    go_quiet ((go_at_call 117; exact Calls.quiet_of_same (below_any s 4 n (1 + m) _ (by unfold maxLen; omega) (by omega) (by omega))))
    go_wp2_with fail
    refine (below_z s (5 + n) 1 _ _ 255 _ (by omega) (by omega) (by omega) (by omega) rfl).mono ?_
    rintro e w ⟨rfl, rfl⟩
    go_wp2
    go_ret2
    exact ⟨rfl, by repeat (first | exact Below.refl _ _ | apply _root_.Go.below_drewN | refine Below.alloc ?_ (Nat.le_refl _) _)⟩
end Go.Proofs.YtgjgjgihceijnaaGreat

namespace Go.Proofs.YtgjgjgihceijnaaGreat
open Go.RowKit Go.Stn

/-- What At and States hold. -/
def atRow (s : ByteArray) (c : Nat) : List Value := (List.range c).map fun i => .int .i64 ((iAt s i + 1 : Nat) : Int)
def stRow (s : ByteArray) (c : Nat) : List Value := (List.range c).map fun i => .int .i64 (bt s (iAt s i))

/-- The image in memory: its seven cells; the two lists. -/
structure ImgAt (w : World) (b base : Nat) (s : ByteArray) (ca cs : Nat) (va vs : Value) : Prop where
  c0 : w.cell? ⟨b, 0, none⟩ = some (.string s)
  c1 : w.cell? ⟨b, 1, none⟩ = some (.int .i64 (iR s))
  c2 : w.cell? ⟨b, 2, none⟩ = some (.int .i64 (iM s))
  c3 : w.cell? ⟨b, 3, none⟩ = some (.int .i64 ((6 + iR s : Nat) : Int))
  c4 : w.cell? ⟨b, 4, none⟩ = some (.int .i64 (iK s))
  c5 : w.cell? ⟨b, 5, none⟩ = some va
  c6 : w.cell? ⟨b, 6, none⟩ = some vs
  f5 : w.frozen? ⟨b, 5, none⟩ = false
  f6 : w.frozen? ⟨b, 6, none⟩ = false
  ra : w.ownsRow base 3 1 va ca (atRow s ca)
  rs : w.ownsRow base 3 1 vs cs (stRow s cs)
  hb : b < base
  hz : base ≤ w.heap.size
  ap : va.ownBlock = none ∨ va.ownBlock ≠ vs.ownBlock

theorem ImgAt.drewN {w : World} {b base : Nat} {s : ByteArray} {ca cs : Nat} {va vs : Value} (h : ImgAt w b base s ca cs va vs) (q : Nat) : ImgAt (w.drewN q) b base s ca cs va vs :=
  ⟨h.c0, h.c1, h.c2, h.c3, h.c4, h.c5, h.c6, h.f5, h.f6, h.ra, h.rs, h.hb, h.hz, h.ap⟩

theorem ownsRow_ne {w : World} {base : Nat} {e : TypeId} {size : Nat} {v : Value} {n : Nat} {xs : List Value} (h : w.ownsRow base e size v n xs) {b : Nat} (hb : b < base) : some b ≠ v.ownBlock := by
  intro e
  have := h.lt b e.symm
  omega

/-- Behind an append to At, and the store. -/
theorem ImgAt.app5 {w w1 : World} {b base : Nat} {s : ByteArray} {c cs : Nat} {va vs : Value} (h : ImgAt w b base s c cs va vs) (o : Obj) {g cap : Nat}
    (hown : w1.ownsRow base 3 1 (.slice (some ⟨g, 0, none⟩) (c + 1) cap) (c + 1) (atRow s c ++ [.int .i64 ((iAt s c + 1 : Nat) : Int)]))
    (hgrow : (w.alloc o).grownBy w1 va.ownBlock) (hat : va.ownBlock = some g ∨ g = w.heap.size + 1) :
    ImgAt (w1.setCell ⟨b, 5, none⟩ (.slice (some ⟨g, 0, none⟩) (c + 1) cap)) b base s (c + 1) cs (.slice (some ⟨g, 0, none⟩) (c + 1) cap) vs := by
  have hbz := h.hb
  have hzz := h.hz
  have hne : some b ≠ va.ownBlock := ownsRow_ne h.ra h.hb
  have hcell : ∀ i v, w.cell? ⟨b, i, none⟩ = some v → w1.cell? ⟨b, i, none⟩ = some v := fun i v hv =>
    hgrow.cell (by rw [World.cell?_alloc_past (hn := by omega)]; exact hv) hne
  have hfr : ∀ i, w1.frozen? ⟨b, i, none⟩ = w.frozen? ⟨b, i, none⟩ := fun i => by
    rw [hgrow.frozen_far ⟨b, i, none⟩ (by simp; omega) hne, World.frozen?_alloc_past (hn := by omega)]
  have hoth : ∀ i v, i ≠ 5 → w.cell? ⟨b, i, none⟩ = some v → (w1.setCell ⟨b, 5, none⟩ (.slice (some ⟨g, 0, none⟩) (c + 1) cap)).cell? ⟨b, i, none⟩ = some v := fun i v hi hv => by
    rw [World.cell?_setCell_other (h := by intro e; injection e; omega)]; exact hcell i v hv
  refine ⟨hoth 0 _ (by omega) h.c0, hoth 1 _ (by omega) h.c1, hoth 2 _ (by omega) h.c2, hoth 3 _ (by omega) h.c3, hoth 4 _ (by omega) h.c4,
    World.cell?_setCell_same _ _ _ (hcell 5 _ h.c5), hoth 6 _ (by omega) h.c6, ?_, ?_, ?_, ?_, h.hb, ?_, ?_⟩
  · rw [World.frozen?_setCell, hfr]; exact h.f5
  · rw [World.frozen?_setCell, hfr]; exact h.f6
  · have e : atRow s (c + 1) = atRow s c ++ [.int .i64 ((iAt s c + 1 : Nat) : Int)] := by
      unfold atRow; rw [List.range_succ, List.map_append]; rfl
    rw [e]; exact ownsRow_setCell_below hown h.hb _
  · refine ownsRow_setCell_below ((h.rs.alloc o).kept hgrow ?_) h.hb _
    rcases h.ap with e | e
    · cases hv : vs.ownBlock with
      | none => exact .inl rfl
      | some k => right; rw [e]; simp
    · exact .inr (Ne.symm e)
  · have := hgrow.size; simp [World.setCell] at this ⊢; omega
  · right
    show some g ≠ vs.ownBlock
    intro e
    rcases hat with h1 | h1
    · rcases h.ap with e2 | e2
      · rw [e2] at h1; cases h1
      · exact e2 (h1.trans e)
    · have := h.rs.lt g e.symm; omega

/-- Behind an append to States, and the store. -/
theorem ImgAt.app6 {w w1 : World} {b base : Nat} {s : ByteArray} {c ca : Nat} {va vs : Value} (h : ImgAt w b base s ca c va vs) (o : Obj) {g cap : Nat}
    (hown : w1.ownsRow base 3 1 (.slice (some ⟨g, 0, none⟩) (c + 1) cap) (c + 1) (stRow s c ++ [.int .i64 (bt s (iAt s c))]))
    (hgrow : (w.alloc o).grownBy w1 vs.ownBlock) (hat : vs.ownBlock = some g ∨ g = w.heap.size + 1) :
    ImgAt (w1.setCell ⟨b, 6, none⟩ (.slice (some ⟨g, 0, none⟩) (c + 1) cap)) b base s ca (c + 1) va (.slice (some ⟨g, 0, none⟩) (c + 1) cap) := by
  have hbz := h.hb
  have hzz := h.hz
  have hne : some b ≠ vs.ownBlock := ownsRow_ne h.rs h.hb
  have hcell : ∀ i v, w.cell? ⟨b, i, none⟩ = some v → w1.cell? ⟨b, i, none⟩ = some v := fun i v hv =>
    hgrow.cell (by rw [World.cell?_alloc_past (hn := by omega)]; exact hv) hne
  have hfr : ∀ i, w1.frozen? ⟨b, i, none⟩ = w.frozen? ⟨b, i, none⟩ := fun i => by
    rw [hgrow.frozen_far ⟨b, i, none⟩ (by simp; omega) hne, World.frozen?_alloc_past (hn := by omega)]
  have hoth : ∀ i v, i ≠ 6 → w.cell? ⟨b, i, none⟩ = some v → (w1.setCell ⟨b, 6, none⟩ (.slice (some ⟨g, 0, none⟩) (c + 1) cap)).cell? ⟨b, i, none⟩ = some v := fun i v hi hv => by
    rw [World.cell?_setCell_other (h := by intro e; injection e; omega)]; exact hcell i v hv
  refine ⟨hoth 0 _ (by omega) h.c0, hoth 1 _ (by omega) h.c1, hoth 2 _ (by omega) h.c2, hoth 3 _ (by omega) h.c3, hoth 4 _ (by omega) h.c4,
    hoth 5 _ (by omega) h.c5, World.cell?_setCell_same _ _ _ (hcell 6 _ h.c6), ?_, ?_, ?_, ?_, h.hb, ?_, ?_⟩
  · rw [World.frozen?_setCell, hfr]; exact h.f5
  · rw [World.frozen?_setCell, hfr]; exact h.f6
  · refine ownsRow_setCell_below ((h.ra.alloc o).kept hgrow ?_) h.hb _
    exact h.ap
  · have e : stRow s (c + 1) = stRow s c ++ [.int .i64 (bt s (iAt s c))] := by
      unfold stRow; rw [List.range_succ, List.map_append]; rfl
    rw [e]; exact ownsRow_setCell_below hown h.hb _
  · have := hgrow.size; simp [World.setCell] at this ⊢; omega
  · right
    show va.ownBlock ≠ some g
    intro e
    rcases hat with h1 | h1
    · rcases h.ap with e2 | e2
      · rw [e2] at e; cases e
      · exact e2 (e.trans h1.symm)
    · have := h.ra.lt g e; omega

/-- Behind an append, ahead of the store. -/
theorem ImgAt.kept {w w1 : World} {b base : Nat} {s : ByteArray} {ca cs : Nat} {va vs v : Value} {n : Nat} {xs : List Value} (h : ImgAt w b base s ca cs va vs) {o : Obj}
    (hv : w.ownsRow base 3 1 v n xs) (hgrow : (w.alloc o).grownBy w1 v.ownBlock) :
    w1.cell? ⟨b, 5, none⟩ = some va ∧ w1.frozen? ⟨b, 5, none⟩ = false ∧ w1.cell? ⟨b, 6, none⟩ = some vs ∧ w1.frozen? ⟨b, 6, none⟩ = false := by
  have hbz := h.hb
  have hzz := h.hz
  have hne : some b ≠ v.ownBlock := ownsRow_ne hv h.hb
  have hcell : ∀ i v, w.cell? ⟨b, i, none⟩ = some v → w1.cell? ⟨b, i, none⟩ = some v := fun i v hv =>
    hgrow.cell (by rw [World.cell?_alloc_past (hn := by omega)]; exact hv) hne
  have hfr : ∀ i, w1.frozen? ⟨b, i, none⟩ = w.frozen? ⟨b, i, none⟩ := fun i => by
    rw [hgrow.frozen_far ⟨b, i, none⟩ (by simp; omega) hne, World.frozen?_alloc_past (hn := by omega)]
  exact ⟨hcell 5 _ h.c5, (hfr 5).trans h.f5, hcell 6 _ h.c6, (hfr 6).trans h.f6⟩

/-- Where the loop begins. -/
theorem ImgAt.start (w : World) (s : ByteArray) (k q1 q2 : Nat) (hk : iK s = k + 1) :
    ImgAt (((((w.alloc (.cells #[.string s, .int .i64 (iR s), .int .i64 (iM s), .int .i64 0, .int .i64 0, .slice none 0 0, .slice none 0 0] 227)).drewN q1).setCell ⟨w.heap.size, 4, none⟩ (.int .i64 ((k : Int) + 1))).setCell
      ⟨w.heap.size, 3, none⟩ (.int .i64 (4 + (iR s : Int) + 2))).drewN q2) w.heap.size (w.heap.size + 1) s 0 0 (.slice none 0 0) (.slice none 0 0) := by
  have hc : ∀ i v, #[Value.string s, .int .i64 (iR s), .int .i64 (iM s), .int .i64 0, .int .i64 0, .slice none 0 0, .slice none 0 0][i]? = some v →
      ((w.alloc (.cells #[.string s, .int .i64 (iR s), .int .i64 (iM s), .int .i64 0, .int .i64 0, .slice none 0 0, .slice none 0 0] 227)).drewN q1).cell? ⟨w.heap.size, i, none⟩ = some v := fun i v h => by
    show (w.alloc _).cell? _ = _
    rw [World.cell?_alloc_new]; exact h
  have hf : ∀ i, ((w.alloc (.cells #[.string s, .int .i64 (iR s), .int .i64 (iM s), .int .i64 0, .int .i64 0, .slice none 0 0, .slice none 0 0] 227)).drewN q1).frozen? ⟨w.heap.size, i, none⟩ = false := fun i => by
    show (w.alloc _).frozen? _ = _
    rw [World.frozen?_alloc_new]
  have hsz : ((w.alloc (.cells #[.string s, .int .i64 (iR s), .int .i64 (iM s), .int .i64 0, .int .i64 0, .slice none 0 0, .slice none 0 0] 227)).drewN q1).heap.size = w.heap.size + 1 := by
    show (w.alloc _).heap.size = _
    simp
  generalize ((w.alloc (.cells #[.string s, .int .i64 (iR s), .int .i64 (iM s), .int .i64 0, .int .i64 0, .slice none 0 0, .slice none 0 0] 227)).drewN q1) = W at *
  refine ImgAt.drewN ?_ q2
  have hoth : ∀ i v, i ≠ 3 → i ≠ 4 → W.cell? ⟨w.heap.size, i, none⟩ = some v → ((W.setCell ⟨w.heap.size, 4, none⟩ (.int .i64 ((k : Int) + 1))).setCell ⟨w.heap.size, 3, none⟩ (.int .i64 (4 + (iR s : Int) + 2))).cell? ⟨w.heap.size, i, none⟩ = some v := fun i v h3 h4 hv => by
    rw [World.cell?_setCell_other (h := by intro e; injection e; omega), World.cell?_setCell_other (h := by intro e; injection e; omega)]; exact hv
  refine ⟨hoth 0 _ (by omega) (by omega) (hc 0 _ rfl), hoth 1 _ (by omega) (by omega) (hc 1 _ rfl), hoth 2 _ (by omega) (by omega) (hc 2 _ rfl), ?_, ?_,
    hoth 5 _ (by omega) (by omega) (hc 5 _ rfl), hoth 6 _ (by omega) (by omega) (hc 6 _ rfl), ?_, ?_, World.ownsRow_nil _ _ _ _, World.ownsRow_nil _ _ _ _, by omega, ?_, .inl rfl⟩
  · rw [World.cell?_setCell_same (u := .int .i64 0)]
    · congr 2; omega
    · rw [World.cell?_setCell_other (h := by intro e; injection e; omega)]; exact hc 3 _ rfl
  · rw [World.cell?_setCell_other (h := by intro e; injection e; omega), World.cell?_setCell_same (h := hc 4 _ rfl)]
    rw [hk]; rfl
  · rw [World.frozen?_setCell, World.frozen?_setCell]; exact hf 5
  · rw [World.frozen?_setCell, World.frozen?_setCell]; exact hf 6
  · simp [World.setCell]; omega

theorem iAt_small {s : ByteArray} {c : Nat} (hs : s.size ≤ 120000) (h8 : iR s ≤ 8) (h : ∀ l, l < c → stOk s (iR s) (iK s) (iAt s l) = true) : iAt s c ≤ 120000 := by
  cases c with
  | zero => show 262 + iR s ≤ 120000; omega
  | succ n => have := (iAt_step (h n (Nat.lt_succ_self n))).2; omega

end Go.Proofs.YtgjgjgihceijnaaGreat

