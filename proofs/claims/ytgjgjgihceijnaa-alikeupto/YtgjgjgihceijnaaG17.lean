/- Texts put together: CuCut, StSpr. -/
import Derived.Test.YtgjgjgihceijnaaG16
import Derived.Deep.OwnRows
import Derived.Deep.DrawnRows
/- cut.Cut: a walk. -/
namespace Go.Stn
open Go.RowKit
theorem IM.mono {w : World} {s : ByteArray} {bb vg : Nat} {yb : Nat → Nat} {zb : Nat → Nat → Nat} {top top' : Nat} (h : IM w s bb vg yb zb top) (ht : top ≤ top') : IM w s bb vg yb zb top' :=
  ⟨h.be, h.co, h.tk, h.nx, h.ld, Nat.lt_of_lt_of_le h.b0 ht, Nat.lt_of_lt_of_le h.b1 ht, fun c hc => Nat.lt_of_lt_of_le (h.b2 c hc) ht, fun c st hc hs => Nat.lt_of_lt_of_le (h.b3 c st hc hs) ht⟩
end Go.Stn
namespace Go.Proofs.Ytgjgjgihceijnaa
open Go.RowKit Go.Stn

theorem Try.infoBool : (Try.prog.info? 4).map (fun i => (i.zero, i.size, i.bytes)) = some (some (.bool false), 1, 1) := by kernel_rfl
theorem Try.infoBools : (Try.prog.info? 94).map (fun i => (i.zero, i.size, i.bytes)) = some (some (.slice none 0 0), 1, 24) := by kernel_rfl

def lenV : Value → Nat
  | .int _ z => z.toNat
  | _ => 0
def okLen (v : Value) : Prop := ∃ z : Nat, v = .int .i64 (z : Int) ∧ z ≤ 30000
theorem Try.wpMakeBools {d : Option Tmp} {x : Operand} {ty : TypeId} {p : String} {af : Array Edge} {gd : Option (Nat × Bool)} {a : Act} {X : World} {K : Act → World → Prop} {Q : Exit → Act → World → Prop}
    (h : okLen (a.eval x)) :
    Oper.wp Try.prog { dst := d, op := .makeSlice 94 x x, type := ty, pos := p, after := af, guard := gd } a X K Q = K (a.put d (.slice (some ⟨X.heap.size, 0, none⟩) (lenV (a.eval x)) (lenV (a.eval x)))) (X.alloc (.cells (madeCells #[.bool false] (lenV (a.eval x))) 4)) := by
  obtain ⟨z, hz, hl⟩ := h
  have hr := run_make_row' (P := Try.prog) 94 4 (.bool false) 1 Try.underlying94 Try.infoBool rfl .i64 .i64 z (by omega) (by omega) X
  unfold Oper.wp execOp
  simp only [hz, Sem.run_bind, hr, Result.andThen_ok, lenV, Int.toNat_natCast]
  rfl

theorem frozen_setCells : ∀ (vs : List Value) (o : Nat) (w : World) (b : Nat) (a : Addr), (w.setCells b o vs).frozen? a = w.frozen? a := by
  intro vs
  induction vs with
  | nil => intro o w b a; rfl
  | cons v r ih => intro o w b a; exact (ih (o + 1) _ b a).trans (World.frozen?_setCell _ _ _ _)

theorem below_to_drew {B : Nat} {a w : World} (h : Below B a w) : Below B a w.drew := ⟨h.os, h.tape, h.output, h.size, h.block⟩

/-- What Cut comes to. -/
def CutOut (w : World) (s inp : ByteArray) (c0 : Nat) (e : Ending) (w' : World) : Prop :=
  ∃ vt, e = .returned (.tuple #[vt, .int .i64 ((cutP s inp c0).2.1 : Nat), .int .i64 ((cutP s inp c0).2.2 : Nat)]) ∧ w'.ownsRow (w.heap.size + 1 + 1) 61 3 vt (cutP s inp c0).1.length (cells3 (cutP s inp c0).1) ∧ Below w.heap.size w w'

attribute [local go_sem ↓] Go.wp_at_zero Go.wp_at_succ Try.wpMakeBools

set_option maxRecDepth 100000 in
set_option maxHeartbeats 2000000 in
theorem ccut_any (s inp : ByteArray) (c0 bb vg vcap : Nat) (yb : Nat → Nat) (zb : Nat → Nat → Nat) (A : Array Value) (w : World) (hi : imgOk s = true) (hin : inp.size ≤ 300) (hc0 : c0 < iM s)
    (hA : A.toList = imgC (.slice (some ⟨bb, 0, none⟩) (iR s) (iR s)) (lClassOf s) (.slice (some ⟨vg, 0, none⟩) (iM s) vcap)) (hm : IM w s bb vg yb zb w.heap.size) :
    Calls Try.prog 46 #[.agg A, .int .i64 (c0 : Int), .string inp] w fun e w' => CutOut w s inp c0 e w' := by
  have hlen := imgC_len (.slice (some ⟨bb, 0, none⟩) (iR s) (iR s)) (lClassOf s) (.slice (some ⟨vg, 0, none⟩) (iM s) vcap) (by unfold lClassOf; rw [numsP_len]; rfl)
  have hone := imgC_one (vb := .slice (some ⟨bb, 0, none⟩) (iR s) (iR s)) (vc := .slice (some ⟨vg, 0, none⟩) (iM s) vcap) (cs := lClassOf s) rfl rfl
  have hAs : A.size = 258 := by rw [← Array.length_toList, hA]; exact hlen
  have hAo : A.all (·.oneCell') = true := by
    rw [← hA] at hone
    have := all_oneCell_toArray hone
    simpa using this
  obtain ⟨C, hbu, hCs, hCo, hC0, hC1, hC2, hC3, hC4, hC5, hC6⟩ := cut_built A hAs hAo inp (c0 : Int)
  have HRA : Hid ((w.alloc (.cells A 75)).rangeAt w.heap.size 0 A.toList) := rangeAt_new w A _
  have HT := hidZ (there_newA (w.alloc (.cells A 75)) Try.zeroCells156 156 (w.heap.size + 1) 264 Try.cutZeroSize (by simp))
  have HBS : Hid (Below (w.heap.size + 1) (w.alloc (.cells A 75)) (((w.alloc (.cells A 75)).alloc (.cells Try.zeroCells156 156)).setCells (w.heap.size + 1) 0 C.toList)) :=
    below_setCells _ 0 _ (w.heap.size + 1) ((Below.refl _ _).alloc (by simp) _) (Nat.le_refl _)
  have HB0 : Hid (Below w.heap.size w (((w.alloc (.cells A 75)).alloc (.cells Try.zeroCells156 156)).setCells (w.heap.size + 1) 0 C.toList)) :=
    ((Below.refl w.heap.size w).alloc (Nat.le_refl _) _).trans (HBS.out.mono (by omega))
  have HRC : Hid ((((w.alloc (.cells A 75)).alloc (.cells Try.zeroCells156 156)).setCells (w.heap.size + 1) 0 C.toList).rangeAt (w.heap.size + 1) 0 C.toList) :=
    World.rangeAt_setCells_same _ _ _ _ (by rw [Array.length_toList, hCs]; exact HT.out)
  have HTC : Hid ((((w.alloc (.cells A 75)).alloc (.cells Try.zeroCells156 156)).setCells (w.heap.size + 1) 0 C.toList).there (w.heap.size + 1) 0 264) := World.there_setCells HT.out _ _ _
  have HCA : Hid ((((w.alloc (.cells A 75)).alloc (.cells Try.zeroCells156 156)).setCells (w.heap.size + 1) 0 C.toList).cell? ⟨w.heap.size, 257, none⟩ = some (.slice (some ⟨vg, 0, none⟩) (iM s) vcap)) := by
    unfold Hid
    rw [HBS.out.cell (p := ⟨w.heap.size, 257, none⟩) (Nat.lt_succ_self _)]
    have := HRA.out 257 (.slice (some ⟨vg, 0, none⟩) (iM s) vcap) (by rw [hA]; exact imgC_257 _ _ _ (by unfold lClassOf; rw [numsP_len]; rfl))
    rw [Nat.zero_add] at this; exact this
  have HZ3 : Hid (w.heap.size + 1 < (((w.alloc (.cells A 75)).alloc (.cells Try.zeroCells156 156)).setCells (w.heap.size + 1) 0 C.toList).heap.size) := by
    unfold Hid
    have := (below_setCells C.toList 0 ((w.alloc (.cells A 75)).alloc (.cells Try.zeroCells156 156)) (w.heap.size + 1) (Below.refl 0 _) (Nat.zero_le _)).size
    simp at this; omega
  have HBU := hidZ hbu
  have HSA := hidZ hAs
  have HSC := hidZ hCs
  have HOC := hidZ hCo
  have HCS : Hid ((∀ k, k < 258 → C[k]? = A[k]?) ∧ C[258]? = some (.string inp) ∧ C[259]? = some (.int .i64 (c0 : Int)) ∧ C[260]? = some (.int .i64 0) ∧ C[261]? = some (.int .i64 0) ∧ C[262]? = some (.slice none 0 0) ∧ C[263]? = some (.slice none 0 0)) := ⟨hC0, hC1, hC2, hC3, hC4, hC5, hC6⟩
  have HAL : Hid (A.toList.toArray = A) := by unfold Hid; simp
  have HM := hidZ hm
  have HI := hidZ hi
  have HA := hidZ hA
  clear hbu hAs hCs hCo hC0 hC1 hC2 hC3 hC4 hC5 hC6 hlen hone hAo hm hi hA
  go_enter Try.func46, Try.ntmps46
  go_upto_region 2 with (first
    | (refine wpList_boxTo rfl 75 (.tmp 0) rfl _ rfl w.heap.size rfl A rfl ?_)
    | (refine wpList_load_mid rfl 75 (.tmp 3) rfl w.heap.size 0 rfl A.toList _ HRA.out Try.underlying75 rfl ?_ ?_; (rw [Array.length_toList, HSA.out]; exact Try.imgSize); rw [HAL.out])
    | (refine wpList_buildTo rfl 156 _ rfl _ rfl C ?_ ?_; (simp only [List.map_toArray, List.map_cons, List.map_nil]; exact HBU.out))
    | (refine wpList_store_mid rfl 156 (.tmp 9) (.tmp 17) rfl (w.heap.size + 1) 0 C rfl rfl ?_ ?_ HOC.out ?_; (rw [HSC.out]; exact HT.out); (rw [HSC.out]; exact Try.cutSize)))
  have HFZ : Hid (∀ i, (((w.alloc (.cells A 75)).alloc (.cells Try.zeroCells156 156)).setCells (w.heap.size + 1) 0 C.toList).frozen? ⟨w.heap.size + 1, i, none⟩ = false) := fun i => by
    rw [frozen_setCells]
    have e : w.heap.size + 1 = (w.alloc (.cells A 75)).heap.size := by simp
    rw [e, World.frozen?_alloc_new]
  generalize ((w.alloc (.cells A 75)).alloc (.cells Try.zeroCells156 156)).setCells (w.heap.size + 1) 0 C.toList = W0 at *
  have hcC : ∀ k v, C[k]? = some v → W0.cell? ⟨w.heap.size + 1, k, none⟩ = some v := fun k v hk => by
    have := HRC.out k v (by simpa using hk)
    rw [Nat.zero_add] at this; exact this
  have HC0 : Hid (CW0 W0 (w.heap.size + 1) s inp bb vg vcap yb zb (.slice none 0 0) (fun _ => 0) c0 0) := by
    obtain ⟨h0, h1, h2, h3, h4, h5, h6⟩ := HCS.out
    refine ⟨(HM.out.below HB0.out (Nat.le_refl _)).mono (Nat.le_succ _), fun j u hu => ?_, hcC _ _ h1, hcC _ _ h2, hcC _ _ h3, hcC _ _ h4, hcC _ _ h5, hcC _ _ h6, HFZ.out, World.ownsRow_nil _ _ _ _, fun j k hj => by omega, HZ3.out, fun j hj => by omega, fun i j hi => by omega⟩
    have hj : j < 258 := by
      have := (List.getElem?_eq_some_iff.1 hu).1
      rw [imgC_len _ _ _ (by unfold lClassOf; rw [numsP_len]; rfl)] at this; exact this
    rw [Nat.zero_add]
    refine hcC j u ((h0 j hj).trans ?_)
    rw [← HA.out] at hu
    simpa using hu
  have hM := (img_head HI.out).2.2
  obtain ⟨M, EM⟩ : ∃ M, iM s = M := ⟨_, rfl⟩
  have c257 := HCA.out
  rw [EM] at c257 hM hc0
  have hMb : 1 ≤ M ∧ M ≤ 4 := ⟨hM.1, hM.2.1⟩
  replace EM := hidZ EM
  clear hM hcC HRC HTC HFZ HCS HBU HOC HSC HSA HAL HA HT HBS HRA HCA HZ3
  go_wp2_with fail
  clear c257
  go_loopw [21] (fun x wr => ∃ (m : Nat) (vh : Value) (hbk : Nat → Nat), x = .int .i64 (m : Int) ∧ m ≤ M ∧ CW0 wr (w.heap.size + 1) s inp bb vg vcap yb zb vh hbk c0 m ∧ Below w.heap.size w wr) (fun x _ => M - (intOf x).toNat)
  case atStart => exact ⟨0, _, _, rfl, Nat.zero_le _, HC0.out, HB0.out⟩
  case round =>
    obtain ⟨m, vh, hbk, rfl, hmM, hcw, hb⟩ := hrel
    have HC1 := hidZ hcw
    have HB1 := hidZ hb
    clear hcw hb HC0 HB0
    by_cases hlt : m < M
    · have hmi : m < iM s := by rw [EM.out]; exact hlt
      have m1 := HC1.out.mem.co m hmi
      have hns := nSt_le HI.out hmi
      obtain ⟨N, EN⟩ : ∃ N, nSt s m = N := ⟨_, rfl⟩
      rw [EN] at m1 hns
      obtain ⟨NL, ENL⟩ : ∃ NL, N * inp.size = NL := ⟨_, rfl⟩
      have hNL : NL ≤ 30000 := by rw [← ENL]; have := Nat.mul_le_mul hns.1 hin; omega
      have hNI : (N : Int) * (inp.size : Int) = (NL : Int) := by rw [← ENL]; simp
      have hwr : IntKind.i64.wrap ((N : Int) * (inp.size : Int)) = (NL : Int) := by rw [hNI]; exact IntWalk.i64_in _ (by omega)
      have hwr2 : IntKind.i64.wrap (NL : Int) = (NL : Int) := IntWalk.i64_in _ (by omega)
      have HNL2 : Hid (nSt s m * inp.size = NL) := by unfold Hid; rw [EN, ENL]
      replace EN := hidZ EN
      replace ENL := hidZ ENL
      obtain ⟨va, vcap', hv⟩ := rowSlice HC1.out.rh
      subst hv
      have k6 := HC1.out.k6
      have f6 := HC1.out.fz 263
      have hcb := HC1.out.hb
      have hol : okLen (.int .i64 (NL : Int)) := ⟨NL, rfl, hNL⟩
      have hll : lenV (.int .i64 (NL : Int)) = NL := by simp [lenV]
      have hmI : (0 : Int) ≤ (m : Int) ∧ (m : Int) < (M : Int) := by omega
      clear hmi
      have hd : decide ((m : Int) < (M : Int)) = true := by simp; omega
      go_wp2_with fail
      have x1 : (wr.alloc (.cells (madeCells #[.bool false] NL) 4)).cell? ⟨w.heap.size + 1, 263, none⟩ = some (.slice va m vcap') := (World.cell?_of_block (w := wr) (a := ⟨w.heap.size + 1, 263, none⟩) (Below.heap_alloc _ _ _ hcb)).trans k6
      have x2 : ((wr.alloc (.cells (madeCells #[.bool false] NL) 4)).alloc (.cells #[.slice (some ⟨wr.heap.size, 0, none⟩) NL NL] 94)).cell? ⟨w.heap.size + 1, 263, none⟩ = some (.slice va m vcap') := (World.cell?_of_block (w := wr) (a := ⟨w.heap.size + 1, 263, none⟩) ((Below.heap_alloc _ _ _ (by simp; omega)).trans (Below.heap_alloc _ _ _ hcb))).trans k6
      have hvl : ∀ q, (Value.slice va m vcap').ownBlock = some q → w.heap.size + 2 ≤ q ∧ q < wr.heap.size := fun q hq => HC1.out.rh.lt q hq
      go_region_law ((refine step_app1 (wr.drew.alloc (.cells (madeCells #[.bool false] NL) 4)) rfl (.tmp 26) (.tmp 33) 95 rfl (w.heap.size + 1 + 1) 94 (.slice none 0 0) 1 24 Try.underlying95 Try.infoBools rfl (by decide) (by decide) _ m (hopL s inp hbk m) [.slice (some ⟨wr.heap.size, 0, none⟩) NL NL] _ (by simp [Act.eval]) (HC1.out.rh.drew.alloc _) (wr.heap.size + 1) (by simp) (by simp [Act.eval]) rfl (by simp [Value.oneCell']) (by omega) (by simp; omega) ?_; intro g4 cap4 w4 hown4 hgrow4 hat4 hlt4; have e4 : w4.heap[w.heap.size + 1]? = wr.heap[w.heap.size + 1]? := ((hgrow4.block (w.heap.size + 1) (by simp; omega) (fun e => by have := hvl _ e.symm; omega)).trans (Below.heap_alloc _ _ _ (by simp; omega))).trans (Below.heap_alloc _ _ _ hcb); have m3 := (World.cell?_of_block (w := wr) (a := ⟨w.heap.size + 1, 263, none⟩) e4).trans k6; have n3 := (World.frozen?_of_block (w := wr) (a := ⟨w.heap.size + 1, 263, none⟩) e4).trans f6; have HMO := hidZ (HC1.out.drew.more HNL2.out hown4 hgrow4 (hat4.imp id (fun h => h.trans (by simp)))); have HBG : Hid (Below w.heap.size w w4) := (((below_to_drew HB1.out).alloc (by have := HB1.out.size; show w.heap.size ≤ wr.heap.size; omega) _).alloc (by have := HB1.out.size; simp; omega) _).grown hgrow4 (by have := HB1.out.size; simp; omega) (fun q hq => by have := hvl q hq; omega)))
      all_goals
        go_wp2
        go_roundw
        case rel => exact ⟨m + 1, _, _, by go_num, hlt, HMO.out, HBG.out.setCell (p := ⟨w.heap.size + 1, 263, none⟩) (Nat.le_succ _) _⟩
        case measure => simp [intOf]; omega
    · have e : m = M := by omega
      subst e
      have hd : decide ((m : Int) < (m : Int)) = false := by simp
      obtain ⟨hg, hcap, hcw⟩ := CW0.done (by rw [EM.out]; exact HC1.out) (by rw [EM.out]; exact hMb.1)
      have HCW := hidZ hcw
      clear hcw HC1
      go_wp2_with fail
      go_loopg [12] (inp.size + 1) (fun gk _ wr => ∃ (p c n : Nat) (H T : List (Int × Int × Int)) (HT : Nat → Nat → Bool) (vt : Value), p ≤ inp.size ∧ inp.size - p < gk ∧ c < m ∧ n ≤ p * 300 ∧ T.length ≤ p ∧ cutP s inp c0 = runP s inp gk p c H n T ∧
        CW wr (w.heap.size + 1) wr.heap.size s inp bb vg vcap yb zb vt hg hcap hbk HT c p n T ∧ hopeOk s inp H HT ∧ allDead s inp H ∧ Below w.heap.size w wr)
      case atStart => exact ⟨0, c0, 0, [], [], fun _ _ => false, .slice none 0 0, Nat.zero_le _, by omega, by omega, by omega, by simp, rfl, HCW.out, hope_nil _ _, fun _ _ _ h => absurd h (List.not_mem_nil), HB1.out⟩
      case round =>
        obtain ⟨p, c, n, H, T, HT, vt, hp, hgk, hc, hn, hT, hrun, hcw, hho, hdead, hb⟩ := hrel
        have HRN := hidZ hrun
        have HC2 := hidZ hcw
        have HH2 := hidZ hho
        have HD2 := hidZ hdead
        have HB2 := hidZ hb
        clear hrun hcw hho hdead hb HCW HB1
        have k3 := HC2.out.k3
        by_cases hlt : p < inp.size
        · have hci : c < iM s := by rw [EM.out]; exact hc
          have hlk := clook_any s inp (w.heap.size + 1) bb vg vcap yb zb vt hg hcap hbk HT c p n H T wr HI.out hin hp hci (by omega) HH2.out HC2.out
          have hlf := look_finds (c := c) HD2.out hp
          have hla := look_dead (c := c) HD2.out hp
          have hll := @lookFrom_len s inp c p H
          have hcs := lng_cases HI.out hci hp (inp := inp)
          obtain ⟨f, rfl⟩ : ∃ f, gk = f + 1 := ⟨gk - 1, by omega⟩
          have hrn0 := @runP_none s inp f p c n H T hlt
          have hrn1 := fun r q => @runP_some s inp f p c n r q H T hlt
          unfold LookOut at hlk
          generalize lookFrom s inp c H p = SF at *
          obtain ⟨SL, kk⟩ := SF
          generalize lookT s inp c H (inp.size - p) 0 p none = best at *
          simp only at *
          have hd2 : decide ((p : Int) < (inp.size : Int)) = true := by simp; omega
          have HLA := hidZ hla
          cases best with
          | none =>
            simp only at hlf
            have HE : Hid (cutP s inp c0 = (T ++ [(-1, (p : Int), (p : Int))], n + kk, c)) := HRN.out.trans (hrn0 hlf)
            clear hlf hla hcs hrn0 hrn1
            go_wp2_with fail
            refine hlk.mono ?_
            rintro e w1 ⟨rfl, hb1, HT1, hcw1, hho1⟩
            have HC3 := hidZ hcw1
            have HB3 := hidZ (HB2.out.trans (hb1.mono (Nat.le_succ _)))
            clear hcw1 hho1 hb1 hlk k3 HC2 HB2
            have k3 := HC3.out.k3
            go_wp2_with fail
            refine (ctell_any s inp (w.heap.size + 1) bb vg vcap yb zb vt hg hcap hbk HT1 c p (n + kk) T (-1) (p : Int) _ (by omega) HC3.out).mono ?_
            rintro e w2 ⟨rfl, hb2, vt2, hcw2⟩
            have HC4 := hidZ hcw2
            have HB4 := hidZ (HB3.out.trans (hb2.mono (Nat.le_succ _)))
            clear hcw2 hb2 HC3 HB3 k3
            have k2 := HC4.out.k2
            have k4 := HC4.out.k4
            have k5 := HC4.out.k5
            go_wp2
            go_quiet (fail)
            go_wp2
            go_ret3
            refine ⟨vt2, by rw [HE.out]; rfl, by rw [HE.out]; exact HC4.out.rt, ⟨HB4.out.os, HB4.out.tape, HB4.out.output, HB4.out.size, HB4.out.block⟩⟩
          | some x =>
            obtain ⟨r, q⟩ := x
            simp only at hlf
            have hx : r < iR s ∧ p < q ∧ q ≤ inp.size := by
              rcases hcs with h1 | ⟨r', q', h1, h2, h3, h4⟩
              · rw [hlf] at h1; injection h1 with h1 _; omega
              · rw [hlf] at h1
                injection h1 with h5 h6
                have h7 : r = r' := by omega
                rw [h7, h6]; exact ⟨h2, h3, h4⟩
            have HE := hidZ (HRN.out.trans (hrn1 r q hlf))
            have hth := then_le HI.out hx.1
            rw [EM.out] at hth
            clear hlf hla hcs hrn0 hrn1
            obtain ⟨tk, htk⟩ : ∃ tk : Nat, tk = tokN (some (r, q)) := ⟨_, rfl⟩
            obtain ⟨tq, htq⟩ : ∃ tq : Nat, tq = toN p (some (r, q)) := ⟨_, rfl⟩
            rw [← htk, ← htq] at hlk
            have htk1 : (tk : Int) - 1 = (r : Int) := by rw [htk]; simp [tokN]
            have htk0 : ((tk : Int) == 0) = false := by rw [beq_eq_false_iff_ne, htk]; simp only [tokN]; omega
            have HTQ : Hid (tq = q) := htq
            have hrb : r ≤ 8 := by have := (img_head HI.out).1; omega
            clear htk htq
            have htkb : tk ≤ 9 := by omega
            go_wp2_with fail
            refine hlk.mono ?_
            rintro e w1 ⟨rfl, hb1, HT1, hcw1, hho1⟩
            have HC3 := hidZ hcw1
            have HH3 := hidZ hho1
            have HB3 := hidZ (HB2.out.trans (hb1.mono (Nat.le_succ _)))
            clear hcw1 hho1 hb1 hlk k3 HC2 HB2
            go_wp2_with fail
            refine (cpass_any s inp (w.heap.size + 1) bb vg vcap yb zb vt hg hcap hbk HT1 c p (n + kk) T r tq _ HI.out hx.1 (by omega) HC3.out).mono ?_
            rintro e w2 ⟨rfl, hb2, vt2, hcw2⟩
            have HC4 := hidZ hcw2
            have HB4 := hidZ (HB3.out.trans (hb2.mono (Nat.le_succ _)))
            clear hcw2 hb2 HC3 HB3
            rw [HTQ.out] at HC4
            go_wp2
            go_roundg f
            case measure => omega
            case rel =>
              refine ⟨q, _, _, _, _, HT1, vt2, hx.2.2, by omega, ?_, ?_, ?_, HE.out, HC4.out, HH3.out, HLA.out, HB4.out⟩
              · split <;> omega
              · omega
              · split
                · omega
                · simp; omega
        · have HE : Hid (cutP s inp c0 = (T, n, c)) := by
            obtain ⟨f, rfl⟩ : ∃ f, gk = f + 1 := ⟨gk - 1, by omega⟩
            exact HRN.out.trans (runP_end hlt)
          have hd2 : decide ((p : Int) < (inp.size : Int)) = false := by simp; omega
          have k2 := HC2.out.k2
          have k4 := HC2.out.k4
          have k5 := HC2.out.k5
          go_wp2
          go_quiet (fail)
          go_wp2
          go_ret3
          refine ⟨vt, by rw [HE.out]; rfl, by rw [HE.out]; exact HC2.out.rt, ⟨HB2.out.os, HB2.out.tape, HB2.out.output, HB2.out.size, HB2.out.block⟩⟩
end Go.Proofs.Ytgjgjgihceijnaa

/- Plain functions and memory for states' spread. -/
namespace Go.Stn
open Go.RowKit
/-- Where each of these groups leads; the sets that are known then. -/
def rowP (ahead : Int) : List Int → List Int → List Int → List Int × List Int
  | [], acc, S => (acc, S)
  | a :: r, acc, S => rowP ahead r (acc ++ [(toP S (andI ahead a)).1]) (toP S (andI ahead a)).2
def aheadP (next : Nat → Int) (begin : Int) (S : List Int) (s : Nat) : Int := if s = 0 then begin else behP next (S.getD s 0)
/-- The sets from number s on are gone through. -/
def spreadL (next : Nat → Int) (begin : Int) (G : List Int) : Nat → Nat → List Int → List (List Int) → List Int × List (List Int)
  | 0, _, S, R => (S, R)
  | f + 1, s, S, R => if s < S.length then spreadL next begin G f (s + 1) (rowP (aheadP next begin S s) G [] S).2 (R ++ [(rowP (aheadP next begin S s) G [] S).1]) else (S, R)
def spreadP (next : Nat → Int) (begin : Int) (G : List Int) : List Int × List (List Int) := spreadL next begin G 1025 0 [0] []

theorem toP_ok {S : List Int} (h : setsOk S) (x : Int) : setsOk (toP S x).2 ∧ S.length ≤ (toP S x).2.length ∧ (∀ i, i < S.length → (toP S x).2.getD i 0 = S.getD i 0) ∧ ((toP S x).1 = -1 ∨ (0 ≤ (toP S x).1 ∧ (toP S x).1 < (toP S x).2.length)) := by
  unfold toP
  split
  · exact ⟨h, Nat.le_refl _, fun _ _ => rfl, .inl rfl⟩
  · rename_i hx
    split
    · rename_i hm
      have := findP_lt hm
      exact ⟨h, Nat.le_refl _, fun _ _ => rfl, .inr ⟨by simp only; omega, by simp only; omega⟩⟩
    · rename_i hm
      refine ⟨setsOk_more h hm (by omega) (by omega), by simp, fun i hi => ?_, .inr ⟨by simp only; omega, by simp; omega⟩⟩
      simp only
      rw [List.getD_eq_getElem?_getD, List.getD_eq_getElem?_getD, List.getElem?_append_left hi]
theorem rowP_ok {ahead : Int} : ∀ (G acc S : List Int), setsOk S → (∀ y ∈ acc, y = -1 ∨ (0 ≤ y ∧ y < S.length)) →
    setsOk (rowP ahead G acc S).2 ∧ S.length ≤ (rowP ahead G acc S).2.length ∧ (∀ i, i < S.length → (rowP ahead G acc S).2.getD i 0 = S.getD i 0) ∧ (rowP ahead G acc S).1.length = acc.length + G.length ∧
      ∀ y ∈ (rowP ahead G acc S).1, y = -1 ∨ (0 ≤ y ∧ y < (rowP ahead G acc S).2.length) := by
  intro G
  induction G with
  | nil => intro acc S h ha; exact ⟨h, Nat.le_refl _, fun _ _ => rfl, rfl, ha⟩
  | cons a r ih =>
    intro acc S h ha
    obtain ⟨h1, h2, h3, h4⟩ := toP_ok h (andI ahead a)
    rw [rowP]
    obtain ⟨k1, k2, k3, k4, k5⟩ := ih (acc ++ [(toP S (andI ahead a)).1]) (toP S (andI ahead a)).2 h1 (fun y hy => by
      rcases List.mem_append.1 hy with q | q
      · rcases ha y q with q1 | q1
        · exact .inl q1
        · exact .inr ⟨q1.1, by omega⟩
      · rw [List.mem_singleton] at q; rw [q]; exact h4)
    exact ⟨k1, Nat.le_trans h2 k2, fun i hi => (k3 i (by omega)).trans (h3 i hi), by rw [k4]; simp; omega, k5⟩
theorem rowP_drop {ahead : Int} {G acc S : List Int} {j : Nat} {a : Int} (h : G[j]? = some a) : rowP ahead (G.drop j) acc S = rowP ahead (G.drop (j + 1)) (acc ++ [(toP S (andI ahead a)).1]) (toP S (andI ahead a)).2 := by
  have e : G.drop j = a :: G.drop (j + 1) := by
    obtain ⟨hk, he⟩ := List.getElem?_eq_some_iff.1 h
    rw [List.drop_eq_getElem_cons hk, he]
  rw [e, rowP]

/-- The states so far: those below s have their lists. -/
def enE (lasts : List Int) (S : List Int) (s : Nat) (zb : Nat → Nat) (K : Nat) : List (Nat × Value) :=
  (List.range S.length).map fun i => (tokP lasts (S.getD i 0), if i < s then Value.slice (some ⟨zb i, 0, none⟩) K K else Value.slice none 0 0)
theorem enE_len (lasts S : List Int) (s : Nat) (zb : Nat → Nat) (K : Nat) : (enE lasts S s zb K).length = S.length := by simp [enE]
theorem enE_set {lasts S : List Int} {s K C : Nat} {zb : Nat → Nat} (hs : s < S.length) : enE lasts S (s + 1) (fun i => if i = s then C else zb i) K = (enE lasts S s zb K).set s (tokP lasts (S.getD s 0), .slice (some ⟨C, 0, none⟩) K K) := by
  refine List.ext_getElem? (fun i => ?_)
  by_cases e : i = s
  · subst e
    rw [List.getElem?_set_self (by rw [enE_len]; exact hs)]
    unfold enE
    rw [List.getElem?_map, List.getElem?_range hs]
    simp
  · rw [List.getElem?_set_ne (fun h => e h.symm)]
    unfold enE
    rw [List.getElem?_map, List.getElem?_map]
    cases hr : (List.range S.length)[i]? with
    | none => rfl
    | some j =>
      have hj : j = i := by
        obtain ⟨h1, h2⟩ := List.getElem?_eq_some_iff.1 hr
        simp at h2; exact h2.symm
      subst hj
      simp only [Option.map_some]
      by_cases h3 : j < s
      · rw [if_pos h3, if_pos (by omega), if_neg e]
      · rw [if_neg h3, if_neg (by omega)]
theorem enC_set : ∀ (E : List (Nat × Value)) (s : Nat) (t : Nat) (u v : Value), E[s]? = some (t, u) → (enC E).set (s * 2 + 1) v = enC (E.set s (t, v)) := by
  intro E
  induction E with
  | nil => intro s t u v h; simp at h
  | cons e r ih =>
    intro s t u v h
    have hc : enC (e :: r) = Value.int .i64 (e.1 : Int) :: e.2 :: enC r := by simp [enC]
    cases s with
    | zero =>
      have he : e = (t, u) := by simpa using h
      subst he
      rw [hc]; simp [enC]
    | succ j =>
      rw [hc, show (j + 1) * 2 + 1 = (j * 2 + 1) + 1 + 1 by omega, List.set_cons_succ, List.set_cons_succ, ih j t u v (by simpa using h)]
      simp [enC]
theorem enC_get : ∀ (E : List (Nat × Value)) (s : Nat) (t : Nat) (u : Value), E[s]? = some (t, u) → (enC E)[s * 2 + 1]? = some u ∧ (enC E)[s * 2]? = some (.int .i64 (t : Int)) := by
  intro E
  induction E with
  | nil => intro s t u h; simp at h
  | cons e r ih =>
    intro s t u h
    have hc : enC (e :: r) = Value.int .i64 (e.1 : Int) :: e.2 :: enC r := by simp [enC]
    cases s with
    | zero =>
      have he : e = (t, u) := by simpa using h
      subst he
      rw [hc]; simp
    | succ j =>
      rw [hc, show (j + 1) * 2 + 1 = (j * 2 + 1) + 1 + 1 by omega, show (j + 1) * 2 = j * 2 + 1 + 1 by omega]
      simpa using ih j t u (by simpa using h)
theorem row_setOwn {w : World} {base e size g n cap : Nat} {xs : List Value} (h : w.ownsRow base e size (.slice (some ⟨g, 0, none⟩) n cap) n xs) (i : Nat) (u : Value) : (w.setCell ⟨g, i, none⟩ u).ownsRow base e size (.slice (some ⟨g, 0, none⟩) n cap) n (xs.set i u) := by
  refine ⟨by rw [List.length_set]; exact h.1, ?_⟩
  rcases h.2 with ⟨hn, _⟩ | ⟨g', cap', cur, he, hbg, hg, hnc, hcm, hcs, htk⟩
  · cases hn
  · cases he
    refine .inr ⟨g, cap, cur.setIfInBounds i u, rfl, hbg, ?_, hnc, hcm, by rw [Array.size_setIfInBounds]; exact hcs, ?_⟩
    · unfold World.setCell
      simp only [Array.getElem?_modify, hg]
      simp
    · rw [Array.toList_setIfInBounds, List.take_set, htk]
end Go.Stn
namespace Go.Proofs.Ytgjgjgihceijnaa
open Go.RowKit Go.Stn

theorem toE_enE {lasts S : List Int} {s K : Nat} {zb : Nat → Nat} (hs : s ≤ S.length) (x : Int) : toE lasts S (enE lasts S s zb K) x = enE lasts (toP S x).2 s zb K := by
  unfold toE toP
  split
  · rfl
  · split
    · rfl
    · unfold enE
      simp only [List.length_append, List.length_singleton]
      rw [List.range_succ, List.map_append, List.map_singleton]
      congr 1
      · refine List.map_congr_left (fun i hi => ?_)
        have := List.mem_range.1 hi
        rw [List.getD_eq_getElem?_getD, List.getD_eq_getElem?_getD, List.getElem?_append_left this]
      · rw [if_neg (by omega), List.getD_eq_getElem?_getD, List.getElem?_append_right (Nat.le_refl _)]; simp

variable {w w' : World} {wb : Nat} {num : Nat → Int} {S : List Int} {E : List (Nat × Value)} {vs : Value}

/-- A state's list is set. -/
theorem WK.setNext {tg cap : Nat} (h : WK w wb num S E vs (.slice (some ⟨tg, 0, none⟩) E.length cap)) {s t : Nat} {u : Value} (hs : E[s]? = some (t, u)) (v : Value) :
    WK (w.setCell ⟨tg, s * 2 + 1, none⟩ v) wb num S (E.set s (t, v)) vs (.slice (some ⟨tg, 0, none⟩) E.length cap) := by
  have hlt := (h.rt.lt tg rfl).1
  have o : ∀ j a, w.cell? ⟨wb, j, none⟩ = some a → (w.setCell ⟨tg, s * 2 + 1, none⟩ v).cell? ⟨wb, j, none⟩ = some a := fun j a ha => by
    rw [World.cell?_setCell_other (h := by intro e; injection e; omega)]; exact ha
  refine ⟨o _ _ h.c0, fun x hx => o _ _ (h.nm x hx), o _ _ h.c2, fun i => by rw [World.frozen?_setCell]; exact h.fz i, ?_, ?_, h.ap, by have := h.hb; simp [World.setCell]; omega⟩
  · refine row_top h.rs (fun k hk => Below.heap_setCell _ _ _ _ (fun e => h.ap k hk ?_))
    simp only at e; rw [e]; rfl
  · rw [List.length_set, ← enC_set E s t u v hs]; exact row_setOwn h.rt _ _

theorem Try.walkZeroA : Try.zeroCells198 = (Value.slice none 0 0 :: (List.replicate 1024 (Value.int .i64 0) ++ [Value.slice none 0 0])).toArray := by kernel_rfl
theorem Try.walkSize : (Try.prog.info? 198).map (·.size) = some 1026 := by kernel_rfl
theorem Try.walkZeroSize : Try.zeroCells198.size = 1026 := by rw [Try.walkZeroA, List.size_toArray, List.length_cons, List.length_append, List.length_replicate]; rfl
theorem Try.walkZeroOne : Try.zeroCells198.all (·.oneCell') = true := by
  rw [Try.walkZeroA]
  refine all_oneCell_toArray (fun v hv => ?_)
  rcases List.mem_cons.1 hv with rfl | h1
  · rfl
  · rcases List.mem_append.1 h1 with h2 | h2
    · rw [(List.mem_replicate.1 h2).2]; rfl
    · rw [List.mem_singleton] at h2; rw [h2]; rfl

/-- A walk that begins. -/
theorem WK.start (w : World) (wb : Nat) (hB : wb = w.heap.size) : WK ((w.alloc (.cells Try.zeroCells198 198)).setCells wb 0 Try.zeroCells198.toList) wb (fun _ => 0) [] [] (.slice none 0 0) (.slice none 0 0) := by
  subst hB
  have ht := there_newA w Try.zeroCells198 198 w.heap.size 1026 Try.walkZeroSize rfl
  have hr := World.rangeAt_setCells_same (w.alloc (.cells Try.zeroCells198 198)) w.heap.size 0 Try.zeroCells198.toList (by rw [Array.length_toList, Try.walkZeroSize]; exact ht)
  have hz := (below_setCells Try.zeroCells198.toList 0 (w.alloc (.cells Try.zeroCells198 198)) w.heap.size (Below.refl 0 _) (Nat.zero_le _)).size
  simp at hz
  have hl : Try.zeroCells198.toList = Value.slice none 0 0 :: (List.replicate 1024 (Value.int .i64 0) ++ [Value.slice none 0 0]) := by rw [Try.walkZeroA]
  rw [hl] at hr ⊢
  have hc : ∀ k v, (Value.slice none 0 0 :: (List.replicate 1024 (Value.int .i64 0) ++ [Value.slice none 0 0]))[k]? = some v → ((w.alloc (.cells Try.zeroCells198 198)).setCells w.heap.size 0 (Value.slice none 0 0 :: (List.replicate 1024 (Value.int .i64 0) ++ [Value.slice none 0 0]))).cell? ⟨w.heap.size, k, none⟩ = some v := fun k v hk => by
    have := hr k v hk; rw [Nat.zero_add] at this; exact this
  refine ⟨hc 0 _ rfl, fun x hx => hc _ _ ?_, hc 1025 _ ?_, fun i => ?_, World.ownsRow_nil _ _ _ _, World.ownsRow_nil _ _ _ _, (fun k hk _ => by cases hk), ?_⟩
  · rw [Nat.add_comm, List.getElem?_cons_succ, List.getElem?_append_left (by rw [List.length_replicate]; exact hx), List.getElem?_replicate, if_pos hx]
  · rw [List.getElem?_cons_succ, List.getElem?_append_right (by rw [List.length_replicate]; omega), List.length_replicate]; rfl
  · rw [frozen_setCells, World.frozen?_alloc_new]
  · rw [hl] at hz; omega
end Go.Proofs.Ytgjgjgihceijnaa

