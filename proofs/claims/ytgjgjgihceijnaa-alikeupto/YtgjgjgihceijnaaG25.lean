/- Texts put together: KpRead, WrFacts, ScLook. -/
import Derived.Test.YtgjgjgihceijnaaG24
import Derived.Test.YtgjgjgihceijnaaG05
import Derived.Deep.RegionLaw
import Derived.Test.YtgjgjgihceijnaaG07
import Derived.Test.YtgjgjgihceijnaaG03
import Derived.Deep.RegionHeld3
import Derived.Deep.RegionWith
/- stencilkeep.read: a walk, at an image. -/
namespace Go.Proofs.Ytgjgjgihceijnaa
open Go.RowKit Go.Stn

theorem Try.infoTable : (Try.prog.info? 35).map (fun i => (i.zero, i.size, i.bytes)) = some (some (.agg #[.slice none 0 0, .slice none 0 0]), 2, 48) := by kernel_rfl
theorem Try.infoInts : (Try.prog.info? 30).map (fun i => (i.zero, i.size, i.bytes)) = some (some (.slice none 0 0), 1, 24) := by kernel_rfl

/-- Where a class leads, as the byte stands. -/
def leadC (s : ByteArray) (c st k : Nat) : Nat := bt s (rwAt s c st + 1 + k)

/-- What read comes to. -/
def ReadOut (w : World) (s : ByteArray) (e : Ending) (w' : World) : Prop :=
  ∃ (lg lcap og ocap : Nat) (ts : List Value), e = .returned (.tuple #[.slice (some ⟨lg, 0, none⟩) (iM s) lcap, .slice (some ⟨og, 0, none⟩) 256 ocap, .int .i64 (iK s)]) ∧ Below w.heap.size w w' ∧
    lg < w'.heap.size ∧ og < w'.heap.size ∧ w'.rangeAt og 0 (natR 256 (clsN s)) ∧ ts.length = 2 * iM s ∧ w'.rangeAt lg 0 ts ∧ TabsIn w' (fun k => w.heap.size ≤ k ∧ k < w'.heap.size) ts (iM s) (iK s) (nSt s) (markN s) (leadC s)

set_option maxRecDepth 100000 in
set_option maxHeartbeats 2000000 in
theorem kread_any (s : ByteArray) (w : World) (hi : imgOk s = true) (hs : s.size ≤ 120000) :
    Calls Try.prog 19 #[.string s] w fun e w' => ReadOut w s e w' := by
  obtain ⟨h1, h2, h3, h4, h5⟩ := img_head hi
  have hK1 := iK_pos s
  have hK2 := iK_le s
  have hb3 : (s[3]'(by omega)).toNat = iR s := bt_eq s 3 (by omega)
  have hb4 : (s[4 + iR s]'(by omega)).toNat = iM s := bt_eq s (4 + iR s) (by omega)
  have hb5 : (s[5 + iR s]'(by omega)).toNat = iK s - 1 := by have := bt_eq s (5 + iR s) (by omega); unfold iK; omega
  have e1 : ((iK s - 1 : Nat) : Int) + 1 = (iK s : Int) := by omega
  have HI := hidZ hi
  have HBE := hidZ (bt_eq s)
  have HA0 : Hid (iAt s 0 = 6 + iR s + 256) := by unfold Hid; simp only [iAt]; omega
  clear hi
  go_enter Try.func19, Try.ntmps19
  go_wp2
  go_loopw [9, 10] (fun x b wr => ∃ (j : Nat) (v : Value), v = x ∧ j ≤ 256 ∧ b = .int .i64 (j : Int) ∧ wr.ownsRow w.heap.size 3 1 v j (natR j (clsN s)) ∧ Below w.heap.size w wr) (fun _ b _ => 256 - (intOf b).toNat)
  case atStart => exact ⟨0, _, rfl, by omega, rfl, World.ownsRow_nil _ _ _ _, Below.refl _ _⟩
  case round =>
    obtain ⟨j, v, rfl, hj, rfl, hown, hbel⟩ := hrel
    have HO := hidZ hown
    have HB := hidZ hbel
    have hsz := hbel.size
    clear hown hbel
    by_cases hlt : j < 256
    · have hbj := HBE.out (6 + iR s + j) (by omega)
      have hbjl := bt_lt s (6 + iR s + j)
      go_wp2_with (first | (at_builtin; refine wpList_app1 wr rfl (.tmp 38) (.tmp 45) 30 rfl w.heap.size 3 (.int .i64 0) 1 8 Try.underlying30 Try.infoInt rfl (by decide) (by decide) v j (natR j (clsN s)) [.int .i64 (bt s (6 + iR s + j) : Int)] _ rfl HO.out _ rfl rfl rfl (by simp [Value.oneCell']) (by omega) (by omega) ?_; intro g cap w1 hown1 hgrow1 hat1 hlt1))
      go_roundw
      case rel => exact ⟨j + 1, _, rfl, hlt, by go_num, by rw [natR_succ]; exact hown1, below_app HB.out hsz HO.out (Nat.le_refl _) hgrow1⟩
      case measure => simp [intOf]; omega
    · have e : j = 256 := by omega
      subst e
      obtain ⟨og, ocap, hv, hog, hogl⟩ := HO.out.form (by omega)
      subst hv
      have HOF := hidZ (row_range HO.out)
      have hd0 : iAt s 0 = 6 + iR s + 256 := HA0.out
      have HAN := hidZ (fun c hc => @img_next s HI.out c hc)
      have HIN := hidZ (fun c hc => @img_in s HI.out c hc)
      have HNS := hidZ (fun c hc => @nSt_le s HI.out c hc)
      have HRW : Hid (∀ c st, rwAt s c st = iAt s c + 1 + st * (1 + iK s)) := fun c st => rfl
      have HNB : Hid (∀ c, nSt s c = bt s (iAt s c)) := fun c => rfl
      replace hd0 := hidZ hd0
      generalize hM : iM s = M at *
      generalize hK : iK s = K at *
      replace hM := hidZ hM
      replace hK := hidZ hK
      go_wp2
      go_loopw [8, 11, 12] (fun x y z wr2 => ∃ (c : Nat) (vl : Value) (ts : List Value), vl = y ∧ c ≤ M ∧ z = .int .i64 (c : Int) ∧ x = .int .i64 (iAt s c : Int) ∧ wr2.ownsRow w.heap.size 35 2 vl c ts ∧
        wr2.rangeAt og 0 (natR 256 (clsN s)) ∧ og < wr2.heap.size ∧ vl.ownBlock ≠ some og ∧ TabsIn wr2 (fun k => w.heap.size ≤ k ∧ k < wr2.heap.size ∧ vl.ownBlock ≠ some k) ts c K (nSt s) (markN s) (leadC s) ∧ Below w.heap.size w wr2) (fun _ _ z _ => M - (intOf z).toNat)
      case atStart => exact ⟨0, _, [], rfl, by omega, rfl, by rw [hd0.out]; go_num, World.ownsRow_nil _ _ _ _, HOF.out, hogl, by simp [Value.ownBlock], fun c hc => absurd hc (Nat.not_lt_zero _), HB.out⟩
      case round =>
        obtain ⟨c, vl, ts, rfl, hc, rfl, rfl, hown, hof, hogl2, hne, htabs, hbel⟩ := hrel
        rename World => W2
        clear HO HB HOF hsz
        have HO := hidZ hown
        have HB := hidZ hbel
        have HOF := hidZ hof
        have HT := hidZ htabs
        have HNE := hidZ hne
        have hsz := hbel.size
        clear hown hbel hof htabs hne
        by_cases hlt : c < M
        · have hin := HIN.out c hlt
          have hns := HNS.out c hlt
          have HAN1 := hidZ (HAN.out c hlt)
          have hbound : iAt s c < s.size := by omega
          have hba := HBE.out (iAt s c) hbound
          rw [← HNB.out] at hba
          have HRWc : Hid (∀ st, rwAt s c st = iAt s c + 1 + st * (1 + K)) := fun st => HRW.out c st
          generalize hN : nSt s c = N at *
          replace hN := hidZ hN
          generalize hP : N * (1 + K) = P at *
          replace hP := hidZ hP
          generalize hAt : iAt s c = a at *
          replace hAt := hidZ hAt
          have HTZ := hidZ (rangeAt_new W2 #[.slice none 0 0, .slice none 0 0] 35)
          have HTF : Hid (∀ i, (W2.alloc (.cells #[.slice none 0 0, .slice none 0 0] 35)).frozen? ⟨W2.heap.size, i, none⟩ = false) := fun i => by rw [World.frozen?_alloc_new]
          have HBZ : Hid (Below W2.heap.size W2 (W2.alloc (.cells #[.slice none 0 0, .slice none 0 0] 35))) := (Below.refl _ _).alloc (Nat.le_refl _) _
          go_wp2
          have HZ3 : Hid ((W2.alloc (.cells #[.slice none 0 0, .slice none 0 0] 35)).heap.size = W2.heap.size + 1) := by unfold Hid; simp
          generalize hT0 : W2.alloc (.cells #[.slice none 0 0, .slice none 0 0] 35) = W3 at *
          clear hT0
          obtain ⟨tb, htb⟩ : ∃ t, W2.heap.size = t := ⟨_, rfl⟩
          rw [htb] at HTZ HTF HBZ HZ3 ⊢
          have hogt : og < tb := by omega
          have HTB := hidZ htb
          clear htb
          have c0 := HTZ.out 0 _ rfl
          have c1 := HTZ.out 1 _ rfl
          rw [Nat.zero_add] at c0 c1
          go_loopw [8, 15] (fun x y w' => ∃ (i : Nat) (v1 v2 : Value) (rs : List Value), i ≤ N ∧ y = .int .i64 (i : Int) ∧ x = .int .i64 (rwAt s c i : Int) ∧ TabW w' tb i i K 3 30 (markN s c) (leadC s c) v1 v2 rs ∧ Below tb W2 w') (fun _ y _ => N - (intOf y).toNat)
          case atStart =>
            refine ⟨0, _, _, [], by omega, rfl, ?_, ⟨c0, c1, HTF.out, World.ownsRow_nil _ _ _ _, World.ownsRow_nil _ _ _ _, fun i v hv => (by cases hv), .inl rfl, by have := HZ3.out; omega⟩, HBZ.out⟩
            rw [HRWc.out]; go_num
          case round =>
            obtain ⟨i, v1, v2, rs, hi, rfl, rfl, htw, hbel⟩ := hrel
            rename World => W4
            clear HTZ HTF HBZ HZ3 c0 c1
            have HW := hidZ htw
            have HB4 := hidZ hbel
            have hz := htw.hz
            have hc0 := htw.c0
            have hf0 := htw.fz 0
            clear htw hbel
            have HMK : Hid (markN s c i = bt s (rwAt s c i)) := rfl
            have HLC : Hid (∀ k, leadC s c i k = bt s (rwAt s c i + 1 + k)) := fun k => rfl
            have HNX : Hid (rwAt s c (i + 1) = rwAt s c i + 1 + K) := by
              unfold Hid; rw [HRWc.out, HRWc.out, Nat.succ_mul]; omega
            by_cases hlti : i < N
            · have hrin : rwAt s c i + 1 + K ≤ s.size := by
                rw [HRWc.out]
                have := Nat.mul_le_mul_right (1 + K) (show i + 1 ≤ N from hlti)
                rw [Nat.succ_mul, hP.out] at this
                omega
              generalize hr : rwAt s c i = r at *
              replace hr := hidZ hr
              have hrlt : r < s.size := by omega
              have hbr := HBE.out r hrlt
              have hbrl := bt_lt s r
              have hwr : IntKind.i64.wrap (bt s r : Int) = (bt s r : Int) := IntWalk.i64_in _ (by omega)
              have hne1 : some tb ≠ v1.ownBlock := fun e => by have := HW.out.o1.lt tb e.symm; omega
              have hc0' : (W4.alloc (.cells #[.int .i64 (bt s r : Int)] 3)).cell? ⟨tb, 0, none⟩ = some v1 := by rw [World.cell?_alloc_past (hn := by omega)]; exact hc0
              go_wp2_with fail
              go_region_law ((refine step_app1 W4.drew rfl (.tmp 66) (.tmp 71) 30 rfl (tb + 1) 3 (.int .i64 0) 1 8 Try.underlying30 Try.infoInt rfl (by decide) (by decide) v1 i (natR i (markN s c)) [.int .i64 (bt s r : Int)] _ (by simp [Act.eval]) HW.out.o1 _ rfl (by simp [Act.eval]) rfl (by simp [Value.oneCell']) (by omega) (by show tb + 1 ≤ W4.heap.size; omega) ?_; intro g4 cap4 w4 hown4 hgrow4 hat4 hlt4; have m3 := ((grow_cell hgrow4 (k := tb) (by show tb < W4.heap.size; omega) hne1).1 0).trans hc0; have n3 := ((grow_cell hgrow4 (k := tb) (by show tb < W4.heap.size; omega) hne1).2 0).trans hf0))
              all_goals
                have HM := hidZ (HW.out.drew.mark (g := g4) (cap := cap4) (by rw [natR_succ, HMK.out]; exact hown4) hgrow4 hat4)
                have HB5 : Hid (Below tb W2 (w4.setCell ⟨tb, 0, none⟩ (.slice (some ⟨g4, 0, none⟩) (i + 1) cap4))) := (below_app (w := W4.drew) (o := .cells #[.int .i64 (bt s r : Int)] 3) ⟨HB4.out.os, HB4.out.tape, HB4.out.output, HB4.out.size, HB4.out.block⟩ (by show tb ≤ W4.heap.size; omega) HW.out.o1 (Nat.le_succ _) hgrow4).setCell (p := ⟨tb, 0, none⟩) (Nat.le_refl _) _
                clear hown4 hgrow4 hat4 hlt4 m3 n3 hc0 hf0 hc0' hwr HW HB4 hz hbr hbrl hne1
                go_wp2
                generalize w4.setCell ⟨tb, 0, none⟩ (.slice (some ⟨g4, 0, none⟩) (i + 1) cap4) = W5 at *
                go_loopw [16, 17] (fun x y w' => ∃ (j : Nat) (vr : Value), vr = x ∧ j ≤ K ∧ y = .int .i64 ((j + 1 : Nat) : Int) ∧ w'.ownsRow W5.heap.size 3 1 vr j (natR j (leadC s c i)) ∧ Below W5.heap.size W5 w') (fun _ y _ => 1 + K - (intOf y).toNat)
                case atStart => exact ⟨0, _, rfl, by omega, rfl, World.ownsRow_nil _ _ _ _, Below.refl _ _⟩
                case round =>
                  obtain ⟨j, vr, rfl, hj, rfl, hown, hbel⟩ := hrel
                  rename World => W6
                  have HO6 := hidZ hown
                  have HB6 := hidZ hbel
                  have hsz6 := hbel.size
                  clear hown hbel
                  by_cases hltj : j < K
                  · have hjlt : r + (j + 1) < s.size := by omega
                    have hbj := HBE.out (r + (j + 1)) hjlt
                    have hbjl := bt_lt s (r + (j + 1))
                    have HLJ : Hid (leadC s c i j = bt s (r + (j + 1))) := by unfold Hid; rw [HLC.out]; congr 1; omega
                    go_wp2_with (first | (at_builtin; refine wpList_app1 W6 rfl (.tmp 79) (.tmp 86) 30 rfl W5.heap.size 3 (.int .i64 0) 1 8 Try.underlying30 Try.infoInt rfl (by decide) (by decide) vr j (natR j (leadC s c i)) [.int .i64 (bt s (r + (j + 1)) : Int)] _ rfl HO6.out _ rfl rfl rfl (by simp [Value.oneCell']) (by omega) (by omega) ?_; intro g7 cap7 w7 hown7 hgrow7 hat7 hlt7))
                    go_roundw
                    case rel => exact ⟨j + 1, _, rfl, hltj, by go_num, by rw [natR_succ, HLJ.out]; exact hown7, below_app HB6.out hsz6 HO6.out (Nat.le_refl _) hgrow7⟩
                    case measure => simp [intOf]; omega
                  · have e : j = K := by omega
                    subst e
                    obtain ⟨rg, rcap, hv, hrg, hrgl⟩ := HO6.out.form (by omega)
                    subst hv
                    have HM6 := hidZ (HM.out.below HB6.out (Nat.le_refl _))
                    have HB7 := hidZ (HB5.out.trans (HB6.out.mono (by have := HM.out.hz; omega)))
                    have hz5 := HM.out.hz
                    have HRI : Hid (RowIn W6 (fun k => tb + 1 ≤ k ∧ k < W6.heap.size ∧ (Value.slice (some ⟨g4, 0, none⟩) (i + 1) cap4).ownBlock ≠ some k ∧ v2.ownBlock ≠ some k) (.slice (some ⟨rg, 0, none⟩) j rcap) (natR j (leadC s c i))) := by
                      refine ⟨rg, rcap, by rw [natR_len], ⟨by omega, hrgl, fun e => ?_, fun e => ?_⟩, range_of_row HO6.out⟩
                      · have := (HM.out.o1.lt rg e).2; omega
                      · have := (HM.out.o2.lt rg e).2; omega
                    have d1 := HM6.out.c1
                    have f1 := HM6.out.fz 1
                    have hne2 : some tb ≠ v2.ownBlock := fun e => by have := HM6.out.o2.lt tb e.symm; omega
                    clear HO6 HM HB5
                    go_wp2_with (first | (at_builtin; refine wpList_app1 W6 rfl (.tmp 89) (.tmp 91) 33 rfl (tb + 1) 30 (.slice none 0 0) 1 24 Try.underlying33 Try.infoInts rfl (by decide) (by decide) v2 i rs [.slice (some ⟨rg, 0, none⟩) j rcap] _ rfl HM6.out.o2 _ rfl rfl rfl (by simp [Value.oneCell']) (by omega) (by omega) ?_; intro g7 cap7 w7 hown7 hgrow7 hat7 hlt7; have m7 := ((grow_cell hgrow7 (k := tb) (by omega) hne2).1 1).trans d1; have n7 := ((grow_cell hgrow7 (k := tb) (by omega) hne2).2 1).trans f1))
                    go_roundw
                    case rel =>
                      refine ⟨i + 1, _, _, _, hlti, by go_num, ?_, HM6.out.row HRI.out hown7 hgrow7 hat7, (below_app HB7.out (by omega) HM6.out.o2 (Nat.le_succ _) hgrow7).setCell (p := ⟨tb, 1, none⟩) (Nat.le_refl _) _⟩
                      rw [HNX.out]; go_num
                    case measure => simp [intOf]; omega
            · have e : i = N := by omega
              subst e
              have htn : Hid (TabIn W4 (fun k => tb + 1 ≤ k ∧ k < W4.heap.size) v1 v2 i K (markN s c) (leadC s c)) := HW.out.done (by omega)
              have hc1 := HW.out.c1
              have hrwe : rwAt s c i = iAt s (c + 1) := by rw [HRWc.out, HAN1.out, hP.out]
              have HRE := hidZ hrwe
              have HBW := hidZ (HB.out.trans (HB4.out.mono (by rw [← HTB.out]; exact hsz)))
              have HOL : Hid (W4.ownsRow w.heap.size 35 2 vl c ts) := row_top HO.out (fun k hk => HB4.out.block k (by have := (HO.out.lt k hk).2; have := HTB.out; omega))
              clear hrwe
              obtain ⟨⟨a1, k1, hv1, _⟩, rs', hl', ⟨a2, k2, hv2, _⟩, _⟩ := htn.out
              rw [natR_len] at hv1
              rw [hl'] at hv2
              clear hl'
              subst hv1
              subst hv2
              go_wp2_with (first | (at_builtin; refine wpList_app1 W4 rfl (.tmp 98) (.tmp 100) 29 rfl w.heap.size 35 (.agg #[.slice none 0 0, .slice none 0 0]) 2 48 Try.underlying29 Try.infoTable rfl (by decide) (by decide) vl c ts [_, _] _ rfl HOL.out _ rfl rfl rfl (by simp [Value.oneCell']) (by omega) (by omega) ?_; intro g7 cap7 w7 hown7 hgrow7 hat7 hlt7))
              obtain ⟨hs7, hk7⟩ := app_keep hgrow7 hat7
              have hlt2 := HTB.out
              have hvl : ∀ k, vl.ownBlock = some k → k < tb := fun k hk => by have := (HO.out.lt k hk).2; omega
              refine ⟨⟨.int .i64 (rwAt s c i : Int), .slice (some ⟨g7, 0, none⟩) (c + 1) cap7, .int .i64 ((c : Int) + 1), ⟨c + 1, hlt, by go_num, by rw [HRE.out], ts ++ [_, _], hown7, ?_, by omega, ?_, ?_, below_app HBW.out (by omega) HOL.out (Nat.le_refl _) hgrow7⟩, rfl, rfl, rfl⟩, ?_⟩
              · exact rangeAt_block HOF.out ((hk7 og (by omega) HNE.out).1.trans (HB4.out.block og hogt))
              · simp only [Value.ownBlock]
                intro e
                injection e with e
                exact (hk7 og (by omega) HNE.out).2 e
              · refine TabsIn.snoc (HT.out.keep (fun k hk => ?_)) ?_ ?_
                · obtain ⟨k1, k2⟩ := hk7 k (by omega) hk.2.2
                  exact ⟨k1.trans (HB4.out.block k (by omega)), hk.1, by omega, by simp only [Value.ownBlock]; intro e; injection e with e; exact k2 e⟩
                · have := HO.out.1; omega
                · rw [hN.out]
                  refine htn.out.keep (fun k hk => ?_)
                  obtain ⟨k1, k2⟩ := hk7 k hk.2 (fun e => by have := hvl k e; omega)
                  exact ⟨k1, by omega, by omega, by simp only [Value.ownBlock]; intro e; injection e with e; exact k2 e⟩
              · simp [intOf]; omega
        · have e : c = M := by omega
          subst e
          obtain ⟨lg, lcap, hv, hlg, hlgl⟩ := HO.out.form (by omega)
          subst hv
          go_wp2
          go_ret3
          refine ⟨lg, lcap, og, ocap, ts, by rw [hM.out, hK.out]; rfl, HB.out, hlgl, hogl2, HOF.out, ?_, range_of_row HO.out, ?_⟩
          · rw [hM.out, HO.out.1, Nat.mul_comm]
          · rw [hM.out, hK.out]
            exact HT.out.keep (fun k hk => ⟨rfl, hk.1, hk.2.1⟩)
end Go.Proofs.Ytgjgjgihceijnaa

/- Plain facts of the groups. -/
namespace Go.Stn
theorem findP_most : ∀ (l : List Int) (x : Int), findP l x ≤ l.length
  | [], _ => Nat.le_refl _
  | a :: r, x => by
    unfold findP
    split
    · exact Nat.zero_le _
    · have := findP_most r x
      simp; omega
theorem grpL_facts (al : Nat → Int) : ∀ (d b : Nat) (ofs : List Nat) (P : List Int), P.length ≤ b → (0 < b → 0 < P.length) → (∀ x ∈ ofs, x < P.length) →
    (grpL al d b ofs P).2.length ≤ b + d ∧ (0 < b + d → 0 < (grpL al d b ofs P).2.length) ∧ ∀ x ∈ (grpL al d b ofs P).1, x < (grpL al d b ofs P).2.length
  | 0, b, ofs, P, h1, h2, h3 => ⟨h1, h2, h3⟩
  | d + 1, b, ofs, P, h1, h2, h3 => by
    rw [grpL, show b + (d + 1) = (b + 1) + d by omega]
    have hm := findP_most P (al b)
    by_cases hf : findP P (al b) = P.length
    · rw [if_pos hf]
      refine grpL_facts al d (b + 1) _ _ (by simp; omega) (fun _ => by simp) (fun x hx => ?_)
      rw [List.length_append]
      rcases List.mem_append.1 hx with h | h
      · have := h3 x h; simp; omega
      · rw [List.mem_singleton] at h; simp; omega
    · rw [if_neg hf]
      refine grpL_facts al d (b + 1) _ _ (by omega) (fun _ => by omega) (fun x hx => ?_)
      rcases List.mem_append.1 hx with h | h
      · exact h3 x h
      · rw [List.mem_singleton] at h; omega
theorem grpP_facts (places : List (Nat → Bool)) : 0 < (grpP places).2.length ∧ (grpP places).2.length ≤ 256 ∧ ∀ x ∈ (grpP places).1, x < (grpP places).2.length := by
  obtain ⟨h1, h2, h3⟩ := grpL_facts (alwP places) 256 0 [] [] (Nat.le_refl _) (fun h => absurd h (Nat.lt_irrefl _)) (fun x hx => absurd hx List.not_mem_nil)
  exact ⟨h2 (by omega), by rw [Nat.zero_add] at h1; exact h1, h3⟩
end Go.Stn

/- (*stencilref.Cut).look: a walk. -/
namespace Go.Proofs.Ytgjgjgihceijnaa
open Go.RowKit Go.Stn

theorem Try.infoStand : (Try.prog.info? 207).map (fun i => (i.zero, i.size, i.bytes)) = some (some (.agg #[.int .i64 0, .int .i64 0, .int .i64 0]), 3, 24) := by kernel_rfl

set_option maxRecDepth 100000 in
set_option maxHeartbeats 1000000 in
theorem look_any (s inp : ByteArray) (B b g cap c p cb base n : Nat) (H T : List (Int × Int × Int)) (vh vt : Value) (w : World) (hi : imgOk s = true) (hs : s.size ≤ 120000) (hin : inp.size ≤ 300) (hp : p ≤ inp.size) (hc : c < iM s)
    (hH : H.length ≤ 100000) (hn : n ≤ 100000)
    (hw : ImgRd w B b g cap s) (hB : B ≤ cb) (hcut : CutAt w cb base w.heap.size b inp c H n T vh vt) :
    Calls Try.prog 73 #[.pointer (some ⟨cb, 0, none⟩), .int .i64 p] w fun e w' =>
      e = .returned (.tuple #[]) ∧ Below cb w w' ∧ ∃ vh', CutAt w' cb base w'.heap.size b inp c (H ++ (lookFrom s inp c H p).1) (n + (lookFrom s inp c H p).2) T vh' vt := by
  have HL : Hid (lookFrom s inp c H p = lookP s inp c H (inp.size - p) 0 p [] 0) := rfl
  have hcb := hcut.hb
  have hbt := hcut.hbt
  go_enter Try.func73, Try.ntmps73
  go_wp2_with fail
  go_loopw [4, 5, 6] (fun x y z wr => ∃ (st i k : Nat) (S : List (Int × Int × Int)) (sv : Value), sv = y ∧ x = .int .i64 st ∧ z = .int .i64 i ∧ st < nSt s c ∧ p ≤ i ∧ i ≤ inp.size ∧ k ≤ i - p ∧ S.length ≤ i - p ∧
      lookFrom s inp c H p = lookP s inp c H (inp.size - i) st i S k ∧ (S = [] → sv = .slice none 0 0) ∧ wr.ownsRow w.heap.size 207 3 sv S.length (cells3 S) ∧
      CutAt wr cb base w.heap.size b inp c H (n + k) T vh vt ∧ Below cb w wr)
    (fun _ _ z _ => inp.size - (intOf z).toNat)
  case atStart => exact ⟨0, p, 0, [], _, rfl, rfl, rfl, (nSt_le hi hc).2, Nat.le_refl _, hp, by omega, by simp, HL.out, fun _ => rfl, World.ownsRow_nil _ _ _ _, hcut, Below.refl _ _⟩
  case round =>
    obtain ⟨st, i, k, S, sv, rfl, rfl, rfl, hst, hpi, hil, hk, hS, hlook, hnil, hown, hcutr, hbel⟩ := hrel
    have HK : Hid (lookFrom s inp c H p = lookP s inp c H (inp.size - i) st i S k) := hlook
    have HN : Hid (S = [] → sv = .slice none 0 0) := hnil
    clear hlook hnil
    have k1 := hcutr.c1
    have k2 := hcutr.c2
    have k3 := hcutr.c3
    have hzr := hcutr.hz
    by_cases hlt : i < inp.size
    · have HCW : Hid (CutAt (wr.alloc (.cells #[.int .i64 (c : Int), .int .i64 (st : Int), .int .i64 (i : Int)] 207)) cb base w.heap.size b inp c H (n + k) T vh vt) := hcutr.below ((Below.refl _ _).alloc hzr _)
      have HOW : Hid ((wr.alloc (.cells #[.int .i64 (c : Int), .int .i64 (st : Int), .int .i64 (i : Int)] 207)).ownsRow w.heap.size 207 3 sv S.length (cells3 S)) := hown.alloc _
      have HBW : Hid (Below cb w (wr.alloc (.cells #[.int .i64 (c : Int), .int .i64 (st : Int), .int .i64 (i : Int)] 207))) := hbel.alloc (by omega) _
      have g0 : (wr.alloc (.cells #[.int .i64 (c : Int), .int .i64 (st : Int), .int .i64 (i : Int)] 207)).cell? ⟨wr.heap.size, 0, none⟩ = some (.int .i64 (c : Int)) := by rw [World.cell?_alloc_new]; rfl
      have g1 : (wr.alloc (.cells #[.int .i64 (c : Int), .int .i64 (st : Int), .int .i64 (i : Int)] 207)).cell? ⟨wr.heap.size, 1, none⟩ = some (.int .i64 (st : Int)) := by rw [World.cell?_alloc_new]; rfl
      have g2 : (wr.alloc (.cells #[.int .i64 (c : Int), .int .i64 (st : Int), .int .i64 (i : Int)] 207)).cell? ⟨wr.heap.size, 2, none⟩ = some (.int .i64 (i : Int)) := by rw [World.cell?_alloc_new]; rfl
      have gz : (wr.alloc (.cells #[.int .i64 (c : Int), .int .i64 (st : Int), .int .i64 (i : Int)] 207)).heap.size = wr.heap.size + 1 := by simp
      go_wp2_with fail
      generalize wr.alloc (.cells #[.int .i64 (c : Int), .int .i64 (st : Int), .int .i64 (i : Int)] 207) = W at *
      clear k1 k2 k3 hcutr hown hbel
      have k3 := HCW.out.c3
      have HR : Hid (Row3 W W.heap.size vh H) := ownsRow_row3 HCW.out.rh
      have hcbz : cb < W.heap.size := by omega
      have hwz : wr.heap.size < W.heap.size := by omega
      cases hkn : memB H ((c : Int), (st : Int), (i : Int)) with
      | true =>
        go_region_held3 (fun w' => w'.cell? ⟨cb, 3, none⟩ = some vh ∧ w'.cell? ⟨wr.heap.size, 0, none⟩ = some (.int .i64 (c : Int)) ∧ w'.cell? ⟨wr.heap.size, 1, none⟩ = some (.int .i64 (st : Int)) ∧ w'.cell? ⟨wr.heap.size, 2, none⟩ = some (.int .i64 (i : Int))) (go_keep)
          (first | (go_at_call 98; refine (has_any H vh _ _ _ _ (by omega) ?_).mono ?_; exact ⟨HR.out.sh⟩; rintro e w2 ⟨rfl, hb2⟩; replace hb2 := below_of_drew hb2; have j3 := (hb2.cell (p := ⟨cb, 3, none⟩) hcbz).trans k3; have j0 := (hb2.cell (p := ⟨wr.heap.size, 0, none⟩) hwz).trans g0; have j1 := (hb2.cell (p := ⟨wr.heap.size, 1, none⟩) hwz).trans g1; have j2 := (hb2.cell (p := ⟨wr.heap.size, 2, none⟩) hwz).trans g2))
        have HX : Hid (lookFrom s inp c H p = (S, k)) := by
          have e : inp.size - i = (inp.size - i - 1) + 1 := by omega
          unfold Hid; rw [HK.out, e]; exact lookP_known hkn
        have HCT : Hid (CutAt w2 cb base w.heap.size b inp c H (n + k) T vh vt) := HCW.out.below (hb2.mono (by show w.heap.size ≤ W.heap.size; omega))
        have HOT : Hid (w2.ownsRow w.heap.size 207 3 sv S.length (cells3 S)) := ownsRow_below HOW.out hb2 (Nat.le_refl _)
        have HBT : Hid (Below cb w w2) := HBW.out.trans (hb2.mono (by show cb ≤ W.heap.size; omega))
        have HN2 : Hid (S = [] → sv = .slice none 0 0) := HN
        clear HCW HOW HBW g0 g1 g2 k3 j0 j1 j2 j3 HR hb2 HK
        have HZ2 := hcb
        rcases (show S = [] ∨ 0 < S.length from by cases S with
          | nil => exact .inl rfl
          | cons a r => exact .inr (by simp)) with hs0 | hs0
        · have hsv := HN2.out hs0
          subst hsv
          rcases ownsRow_shape HCT.out.rh with rfl | ⟨gv, cv, rfl⟩
          all_goals
            have t3 := HCT.out.c3
            have t3f := HCT.out.fz 3
            go_wp2_with (first | (at_builtin; refine wpList_app0 w2 rfl (.tmp 80) (.tmp 81) 102 rfl base 207 (.agg #[.int .i64 0, .int .i64 0, .int .i64 0]) 3 24 Try.underlying102 Try.infoStand _ H.length (cells3 H) rfl HCT.out.rh rfl ?_))
            go_end0
            have hfin := HCT.out.again3.raise
            refine ⟨rfl, HBT.out.setCell (p := ⟨cb, 3, none⟩) (Nat.le_refl _) _, ?_⟩
            rw [HX.out, hs0, List.append_nil]
            exact ⟨_, hfin⟩
        · have t3 := HCT.out.c3
          have hzt := HCT.out.hz
          go_wp2_with (first | (at_builtin; refine wpList_appRow w2 rfl (.tmp 80) (.tmp 81) 102 rfl base w.heap.size 207 (.agg #[.int .i64 0, .int .i64 0, .int .i64 0]) 3 24 Try.underlying102 Try.infoStand rfl (by decide) (by decide) vh H.length (cells3 H) sv S.length (cells3 S) rfl HCT.out.rh rfl HOT.out (cells3_one _) hs0 (by omega) (by omega) ?_; intro g3 cap3 w3 hown3 hgrow3 hat3 hlt3; obtain ⟨kc3, kf3⟩ := HCT.out.kept (fun k hk => (HCT.out.rh.lt k hk).1) hgrow3; have m3 := kc3 3 _ t3; have mf3 := kf3 3; clear kc3 kf3))
          go_end0
          refine ⟨rfl, (HBT.out.grown hgrow3 (by omega) (fun k hk => by have := (HCT.out.rh.lt k hk).1; omega)).setCell (p := ⟨cb, 3, none⟩) (Nat.le_refl _) _, ?_⟩
          rw [HX.out]
          have hfin := HCT.out.hope rfl hown3 hgrow3 hat3 hlt3
          exact ⟨_, hfin.raise⟩
      | false =>
        go_region_held3 (fun w' => w'.cell? ⟨cb, 3, none⟩ = some vh ∧ w'.cell? ⟨wr.heap.size, 0, none⟩ = some (.int .i64 (c : Int)) ∧ w'.cell? ⟨wr.heap.size, 1, none⟩ = some (.int .i64 (st : Int)) ∧ w'.cell? ⟨wr.heap.size, 2, none⟩ = some (.int .i64 (i : Int))) (go_keep)
          (first | (go_at_call 98; refine (has_any H vh _ _ _ _ (by omega) ?_).mono ?_; exact ⟨HR.out.sh⟩; rintro e w2 ⟨rfl, hb2⟩; replace hb2 := below_of_drew hb2; have j3 := (hb2.cell (p := ⟨cb, 3, none⟩) hcbz).trans k3; have j0 := (hb2.cell (p := ⟨wr.heap.size, 0, none⟩) hwz).trans g0; have j1 := (hb2.cell (p := ⟨wr.heap.size, 1, none⟩) hwz).trans g1; have j2 := (hb2.cell (p := ⟨wr.heap.size, 2, none⟩) hwz).trans g2))
        have HC2 : Hid (CutAt w2 cb base w.heap.size b inp c H (n + k) T vh vt) := HCW.out.below (hb2.mono (by show w.heap.size ≤ W.heap.size; omega))
        have HO2 : Hid (w2.ownsRow w.heap.size 207 3 sv S.length (cells3 S)) := ownsRow_below HOW.out hb2 (Nat.le_refl _)
        have HB2 : Hid (Below cb w w2) := HBW.out.trans (hb2.mono (by show cb ≤ W.heap.size; omega))
        have hz2 := HC2.out.hz
        clear HCW HOW HBW g0 g1 g2 k3 j3 HR hb2
        obtain ⟨N, hN⟩ : ∃ N, n + k = N := ⟨_, rfl⟩
        rw [hN] at HC2
        have HNN : Hid (n + k = N) := hN
        have hNb : N ≤ 101000 := by omega
        clear hN
        have q4 := HC2.out.c4
        go_wp2_with (first | (at_builtin; refine wpList_app1 w2 rfl (.tmp 34) (.tmp 36) 102 rfl w.heap.size 207 (.agg #[.int .i64 0, .int .i64 0, .int .i64 0]) 3 24 Try.underlying102 Try.infoStand rfl (by decide) (by decide) sv S.length (cells3 S) [.int .i64 (c : Int), .int .i64 (st : Int), .int .i64 (i : Int)] _ rfl HO2.out _ rfl rfl rfl (by simp [Value.oneCell']) (by omega) (by omega) ?_; intro g4 cap4 w4 hown4 hgrow4 hat4 hlt4; have hb4 := below_app (Below.refl w.heap.size w2) hz2 HO2.out (Nat.le_refl _) hgrow4; have HC4 : Hid (CutAt w4 cb base w.heap.size b inp c H N T vh vt) := HC2.out.below hb4; have r4 := HC4.out.c4; have f4 := HC4.out.fz 4; clear j0 j1 j2 q4))
        have HC5 : Hid (CutAt (w4.setCell ⟨cb, 4, none⟩ (.int .i64 ((N : Int) + 1))) cb base w.heap.size b inp c H (N + 1) T vh vt) := HC4.out.step1
        have HO5 : Hid ((w4.setCell ⟨cb, 4, none⟩ (.int .i64 ((N : Int) + 1))).ownsRow w.heap.size 207 3 (.slice (some ⟨g4, 0, none⟩) (S.length + 1) cap4) (S.length + 1) (cells3 (S ++ [std c st i]))) := by
          rw [cells3_snoc]; exact ownsRow_setCell_below hown4 (by show cb < w.heap.size; omega) _
        have HB5 : Hid (Below cb w (w4.setCell ⟨cb, 4, none⟩ (.int .i64 ((N : Int) + 1)))) := (HB2.out.trans (hb4.mono (by omega))).setCell (p := ⟨cb, 4, none⟩) (Nat.le_refl _) _
        generalize w4.setCell ⟨cb, 4, none⟩ (.int .i64 ((N : Int) + 1)) = w5 at *
        clear HC4 HC2 HO2 HB2 hown4 hgrow4 hat4 hlt4 hb4 r4 f4 hz2
        have hw5 := hw.below HB5.out hB
        have q0 := HC5.out.c0
        have q1 := HC5.out.c1
        have q2 := HC5.out.c2
        have hbe := bt_eq inp i hlt
        have hbl := bt_lt inp i
        have hiI : (0 : Int) ≤ (i : Int) ∧ (i : Int) < (inp.size : Int) := by omega
        have HSE : Hid (inp.size - i = (inp.size - i - 1) + 1) := by unfold Hid; omega
        by_cases h255 : leadN s c st (bt inp i) = 255
        · have hlz : leadZ s c st (bt inp i) = -1 := by unfold leadZ; rw [if_pos h255]
          have HX : Hid (lookFrom s inp c H p = (S ++ [std c st i], k + 1)) := by
            unfold Hid; rw [HK.out, HSE.out]; exact lookP_nowhere hkn h255
          have HLD : Hid (∀ q, Calls Try.prog 99 #[.pointer (some ⟨b, 0, none⟩), .int .i64 c, .int .i64 st, .int .u8 (bt inp i)] (w5.drewN q) fun e w' => e = .returned (.int .i64 (leadZ s c st (bt inp i))) ∧ ∃ m, w' = (w5.drewN q).drewN m) := fun q => lead_any s B b g cap c st (bt inp i) (w5.drewN q) hi hs hc hst hbl (hw5.drewN q)
          go_quiet ((go_at_call 99; exact Calls.quiet_of (HLD.out _)))
          have HCT : Hid (CutAt (w5.drewN nq) cb base w.heap.size b inp c H (n + (k + 1)) T vh vt) := by
            have e : n + (k + 1) = N + 1 := by have := HNN.out; omega
            rw [e]; exact HC5.out.drewN nq
          have HOT : Hid ((w5.drewN nq).ownsRow w.heap.size 207 3 (.slice (some ⟨g4, 0, none⟩) (S.length + 1) cap4) (S ++ [std c st i]).length (cells3 (S ++ [std c st i]))) := by
            rw [List.length_append]; exact HO5.out
          have HBT : Hid (Below cb w (w5.drewN nq)) := _root_.Go.below_drewN HB5.out nq
          have hs0 : 0 < (S ++ [std c st i]).length := by simp
          have hS5 : (S ++ [std c st i]).length ≤ 301 := by simp; omega
          generalize S ++ [std c st i] = S5 at *
          generalize w5.drewN nq = w6 at *
          clear HC5 HO5 HB5 hw5 q0 q1 q2 HLD HK
          have t3 := HCT.out.c3
          have hzt := HCT.out.hz
          go_wp2_with (first | (at_builtin; refine wpList_appRow w6 rfl (.tmp 80) (.tmp 81) 102 rfl base w.heap.size 207 (.agg #[.int .i64 0, .int .i64 0, .int .i64 0]) 3 24 Try.underlying102 Try.infoStand rfl (by decide) (by decide) vh H.length (cells3 H) _ S5.length (cells3 S5) rfl HCT.out.rh rfl HOT.out (cells3_one _) hs0 (by omega) (by omega) ?_; intro g3 cap3 w3 hown3 hgrow3 hat3 hlt3; obtain ⟨kc3, kf3⟩ := HCT.out.kept (fun k hk => (HCT.out.rh.lt k hk).1) hgrow3; have m3 := kc3 3 _ t3; have mf3 := kf3 3; clear kc3 kf3))
          go_end0
          refine ⟨rfl, (HBT.out.grown hgrow3 (by omega) (fun k hk => by have := (HCT.out.rh.lt k hk).1; omega)).setCell (p := ⟨cb, 3, none⟩) (Nat.le_refl _) _, ?_⟩
          rw [HX.out]
          have hfin := HCT.out.hope rfl hown3 hgrow3 hat3 hlt3
          exact ⟨_, hfin.raise⟩
        · have hlz : leadZ s c st (bt inp i) = (leadN s c st (bt inp i) : Int) := by unfold leadZ; rw [if_neg h255]
          have HLD : Hid (∀ q, Calls Try.prog 99 #[.pointer (some ⟨b, 0, none⟩), .int .i64 c, .int .i64 st, .int .u8 (bt inp i)] (w5.drewN q) fun e w' => e = .returned (.int .i64 (leadN s c st (bt inp i) : Int)) ∧ ∃ m, w' = (w5.drewN q).drewN m) := fun q => by
            rw [← hlz]; exact lead_any s B b g cap c st (bt inp i) (w5.drewN q) hi hs hc hst hbl (hw5.drewN q)
          clear hlz
          have ht := lead_lt hi hc hst hbl
          have HT1 : Hid (0 < markN s c (leadN s c st (bt inp i)) → lookFrom s inp c H p = lookP s inp c H (inp.size - (i + 1)) (leadN s c st (bt inp i)) (i + 1) [] (k + 1)) := by
            intro hm; rw [HK.out, HSE.out]; exact lookP_token hkn h255 hm
          have HT2 : Hid (markN s c (leadN s c st (bt inp i)) = 0 → lookFrom s inp c H p = lookP s inp c H (inp.size - (i + 1)) (leadN s c st (bt inp i)) (i + 1) (S ++ [std c st i]) (k + 1)) := by
            intro hm; rw [HK.out, HSE.out]; exact lookP_step hkn h255 hm
          generalize leadN s c st (bt inp i) = t at *
          have ht : t < nSt s c := by omega
          by_cases hm : 0 < markN s c t
          · go_quiet ((go_at_call 99; exact Calls.quiet_of (HLD.out _)))
            have HC6 : Hid (CutAt (w5.drewN nq) cb base w.heap.size b inp c H (N + 1) T vh vt) := HC5.out.drewN nq
            have HO6 : Hid ((w5.drewN nq).ownsRow w.heap.size 207 3 (.slice (some ⟨g4, 0, none⟩) (S.length + 1) cap4) (S.length + 1) (cells3 (S ++ [std c st i]))) := HO5.out
            have HB6 : Hid (Below cb w (w5.drewN nq)) := _root_.Go.below_drewN HB5.out nq
            have HW6 : Hid (ImgRd (w5.drewN nq) B b g cap s) := hw5.drewN nq
            generalize w5.drewN nq = w6 at *
            clear HC5 HO5 HB5 hw5 q0 q1 q2 HLD HK
            have q0 := HC6.out.c0
            have q2 := HC6.out.c2
            have HMD : Hid (∀ q, Calls Try.prog 100 #[.pointer (some ⟨b, 0, none⟩), .int .i64 c, .int .i64 t] (w6.drewN q) fun e w' => e = .returned (.int .i64 (markN s c t : Int)) ∧ ∃ m, w' = (w6.drewN q).drewN m) := fun q =>
              mark_any s B b g cap c t (w6.drewN q) hi hs hc ht (HW6.out.drewN q)
            go_wp2_with fail
            go_quiet ((go_at_call 100; exact Calls.quiet_of (HMD.out _)))
            go_wp2
            go_roundw
            case rel =>
              refine ⟨t, i + 1, k + 1, [], .slice none 0 0, rfl, rfl, by go_num, ht, by omega, hlt, by omega, by simp, HT1.out hm, fun _ => rfl, World.ownsRow_nil _ _ _ _, ?_, ?_⟩
              · have e : n + (k + 1) = N + 1 := by have := HNN.out; omega
                rw [e]; exact HC6.out.drewN _
              · exact _root_.Go.below_drewN HB6.out _
            case measure => simp [intOf]; omega
          · have hm0 : markN s c t = 0 := by omega
            go_quiet ((go_at_call 99; exact Calls.quiet_of (HLD.out _)))
            have HC6 : Hid (CutAt (w5.drewN nq) cb base w.heap.size b inp c H (N + 1) T vh vt) := HC5.out.drewN nq
            have HO6 : Hid ((w5.drewN nq).ownsRow w.heap.size 207 3 (.slice (some ⟨g4, 0, none⟩) (S.length + 1) cap4) (S.length + 1) (cells3 (S ++ [std c st i]))) := HO5.out
            have HB6 : Hid (Below cb w (w5.drewN nq)) := _root_.Go.below_drewN HB5.out nq
            have HW6 : Hid (ImgRd (w5.drewN nq) B b g cap s) := hw5.drewN nq
            generalize w5.drewN nq = w6 at *
            clear HC5 HO5 HB5 hw5 q0 q1 q2 HLD HK
            have q0 := HC6.out.c0
            have q2 := HC6.out.c2
            have HMD : Hid (∀ q, Calls Try.prog 100 #[.pointer (some ⟨b, 0, none⟩), .int .i64 c, .int .i64 t] (w6.drewN q) fun e w' => e = .returned (.int .i64 (markN s c t : Int)) ∧ ∃ m, w' = (w6.drewN q).drewN m) := fun q =>
              mark_any s B b g cap c t (w6.drewN q) hi hs hc ht (HW6.out.drewN q)
            go_wp2_with fail
            go_quiet ((go_at_call 100; exact Calls.quiet_of (HMD.out _)))
            go_wp2
            go_roundw
            case rel =>
              refine ⟨t, i + 1, k + 1, S ++ [std c st i], _, rfl, rfl, by go_num, ht, by omega, hlt, by omega, by simp; omega, HT2.out hm0, fun h => by simp at h, ?_, ?_, ?_⟩
              · rw [List.length_append]; exact HO6.out
              · have e : n + (k + 1) = N + 1 := by have := HNN.out; omega
                rw [e]; exact HC6.out.drewN _
              · exact _root_.Go.below_drewN HB6.out _
            case measure => simp [intOf]; omega
    · have HX : Hid (lookFrom s inp c H p = (S, k)) := by
        have e : inp.size - i = 0 := by omega
        unfold Hid; rw [HK.out, e]; rfl
      have HCT : Hid (CutAt wr cb base w.heap.size b inp c H (n + k) T vh vt) := hcutr
      have HOT : Hid (wr.ownsRow w.heap.size 207 3 sv S.length (cells3 S)) := hown
      have HBT : Hid (Below cb w wr) := hbel
      have HN2 : Hid (S = [] → sv = .slice none 0 0) := HN
      clear hcutr hown hbel HK k2 k3
      have HZ2 := hcb
      rcases (show S = [] ∨ 0 < S.length from by cases S with
        | nil => exact .inl rfl
        | cons a r => exact .inr (by simp)) with hs0 | hs0
      · have hsv := HN2.out hs0
        subst hsv
        rcases ownsRow_shape HCT.out.rh with rfl | ⟨gv, cv, rfl⟩
        all_goals
          have t3 := HCT.out.c3
          have t3f := HCT.out.fz 3
          go_wp2_with (first | (at_builtin; refine wpList_app0 wr rfl (.tmp 80) (.tmp 81) 102 rfl base 207 (.agg #[.int .i64 0, .int .i64 0, .int .i64 0]) 3 24 Try.underlying102 Try.infoStand _ H.length (cells3 H) rfl HCT.out.rh rfl ?_))
          go_end0
          have hfin := HCT.out.again3.raise
          refine ⟨rfl, HBT.out.setCell (p := ⟨cb, 3, none⟩) (Nat.le_refl _) _, ?_⟩
          rw [HX.out, hs0, List.append_nil]
          exact ⟨_, hfin⟩
      · have t3 := HCT.out.c3
        have hzt := HCT.out.hz
        go_wp2_with (first | (at_builtin; refine wpList_appRow wr rfl (.tmp 80) (.tmp 81) 102 rfl base w.heap.size 207 (.agg #[.int .i64 0, .int .i64 0, .int .i64 0]) 3 24 Try.underlying102 Try.infoStand rfl (by decide) (by decide) vh H.length (cells3 H) sv S.length (cells3 S) rfl HCT.out.rh rfl HOT.out (cells3_one _) hs0 (by omega) (by omega) ?_; intro g3 cap3 w3 hown3 hgrow3 hat3 hlt3; obtain ⟨kc3, kf3⟩ := HCT.out.kept (fun k hk => (HCT.out.rh.lt k hk).1) hgrow3; have m3 := kc3 3 _ t3; have mf3 := kf3 3; clear kc3 kf3))
        go_end0
        refine ⟨rfl, (HBT.out.grown hgrow3 (by omega) (fun k hk => by have := (HCT.out.rh.lt k hk).1; omega)).setCell (p := ⟨cb, 3, none⟩) (Nat.le_refl _) _, ?_⟩
        rw [HX.out]
        have hfin := HCT.out.hope rfl hown3 hgrow3 hat3 hlt3
        exact ⟨_, hfin.raise⟩
end Go.Proofs.Ytgjgjgihceijnaa

