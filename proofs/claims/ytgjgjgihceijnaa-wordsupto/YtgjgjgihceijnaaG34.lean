/- Texts put together: KtBuilt. -/
import Derived.Test.YtgjgjgihceijnaaG33
import Derived.BigQuiet
namespace Go.Stn
open Go.RowKit
/-- The steps in memory. -/
structure OpsIn (w : World) (ob oo : Nat) (ops : List OpK) : Prop where
  c : ∀ (k : Nat) (o : OpK), ops[k]? = some o → w.rangeAt ob (oo + k * 3) o.cells
  ok : ∀ o ∈ ops, o.ok
  lt : ob < w.heap.size
end Go.Stn
namespace Go.Proofs.Ytgjgjgihceijnaa
open Go.RowKit Go.Stn
theorem Try.infoInt1 : (Try.prog.info? 3).map (fun i => (i.zero, i.size, i.bytes)) = some (some (.int .i64 0), 1, 8) := by kernel_rfl
theorem row_cap {w : World} {base : Nat} {e : TypeId} {size : Nat} {a : Option Addr} {n cap : Nat} {xs : List Value} (h : w.ownsRow base e size (.slice a n cap) n xs) : n ≤ cap := by
  rcases h.2 with ⟨e1, e2⟩ | ⟨g, c, cur, e1, _, _, h3, _⟩
  · omega
  · injection e1 with _ _ e2; omega
theorem addr_zero (a : Option Addr) : Option.map (fun x => x.add 0) a = a := by
  cases a with
  | none => rfl
  | some x => obtain ⟨b, o, i⟩ := x; simp [Addr.add]
theorem Try.rulesSize : (Try.prog.info? 49).map (fun i => i.size) = some 2 := by kernel_rfl
theorem BI.start (w : World) (c1 c2 : Array Value) (h1 : c1.size = 2) (h2 : c2 = #[.slice none 0 0, .slice none 0 0]) (t : TypeId) : BI w ((w.alloc (.cells c1 t)).alloc (.cells c2 t)) (.slice none 0 0) (.slice none 0 0) ([], []) := by
  subst h2
  have e : (w.alloc (.cells c1 t)).heap.size = w.heap.size + 1 := by simp
  have hc : ∀ i v, (#[.slice none 0 0, .slice none 0 0] : Array Value)[i]? = some v → ((w.alloc (.cells c1 t)).alloc (.cells #[.slice none 0 0, .slice none 0 0] t)).cell? ⟨w.heap.size + 1, i, none⟩ = some v := fun i v hv => by
    rw [← e, World.cell?_alloc_new]; exact hv
  refine ⟨hc 0 _ rfl, hc 1 _ rfl, fun i => by rw [← e, World.frozen?_alloc_new], there_below (there_newA w c1 t _ _ h1 rfl) ((Below.refl (w.heap.size + 1) _).alloc (by simp) _) (by omega), World.ownsRow_nil _ _ _ _, World.ownsRow_nil _ _ _ _, (fun k e1 => by cases e1), ((Below.refl _ _).alloc (Nat.le_refl _) _).alloc (by simp) _, by simp⟩

set_option maxRecDepth 100000 in
set_option maxHeartbeats 20000000 in
theorem kbuilt_any (ops : List OpK) (ob oo cap : Nat) (w : World) (h : OpsIn w ob oo ops) (hn : ops.length ≤ 1100000) :
    Calls Try.prog 28 #[.slice (some ⟨ob, oo, none⟩) ops.length cap] w fun e w' => ∃ ga ca gt ct, e = .returned (.agg #[.slice (some ⟨ga, 0, none⟩) (builtP ops).1.length ca, .slice (some ⟨gt, 0, none⟩) (builtP ops).2.length ct]) ∧ RuIn w' ga gt (builtP ops).1 (builtP ops).2 ∧ Below w.heap.size w w' := by
  have HO := hidK h
  have HS0 : Hid (BI w ((w.alloc (.cells #[.slice none 0 0, .slice none 0 0] 49)).alloc (.cells #[.slice none 0 0, .slice none 0 0] 49)) (.slice none 0 0) (.slice none 0 0) ([], [])) := BI.start _ _ _ rfl rfl _
  have hlt0 := h.lt
  clear h
  go_enter Try.func28, Try.ntmps28
  go_upto_region 2 with fail
  generalize (w.alloc (.cells #[.slice none 0 0, .slice none 0 0] 49)).alloc (.cells #[.slice none 0 0, .slice none 0 0] 49) = W at *
  go_upto_block 0 with fail
  go_cut [4] from 11 to 88 (fun _ wc => ∃ vA vT, BI w wc vA vT (buildK ops ops.length))
  case first =>
    go_wp2_with fail
    go_loopw [4] (fun ii wr => ∃ (k : Nat) (vA vT : Value), k ≤ ops.length ∧ ii = .int .i64 (k : Int) ∧ BI w wr vA vT (buildK ops k)) (fun ii _ => ops.length - (intOf ii).toNat)
    case atStart => exact ⟨0, _, _, by omega, rfl, by rw [buildK_zero]; exact HS0.out⟩
    case round =>
      obtain ⟨k, vA, vT, hk, rfl, hbi⟩ := hrel
      by_cases hlt : k < ops.length
      · obtain ⟨o, ho⟩ : ∃ o, ops[k]? = some o := ⟨_, List.getElem?_eq_getElem hlt⟩
        have hok := HO.out.ok o (List.mem_of_getElem? ho)
        have hop := rangeAt_below (HO.out.c k o ho) hbi.bl HO.out.lt
        have HPB := hidK (buildK_ok ops k (by omega))
        have HNX := hidK (buildK_succ ho)
        have hal : (buildK ops k).1.length ≤ 1100000 := by have := HPB.out.al; omega
        have htl := HPB.out.tl
        generalize buildK ops k = s at *
        have k0 := hop 0 _ rfl
        have k1 := hop 1 _ rfl
        have k2 := hop 2 _ rfl
        rw [Nat.add_zero] at k0
        obtain ⟨aA, cA, rfl⟩ := rowSlice hbi.ra
        obtain ⟨aT, cT, rfl⟩ := rowSlice hbi.rt
        have c0 := hbi.c0
        have c1 := hbi.c1
        have f1 := hbi.fz 1
        have f0 := hbi.fz 0
        have hkI : (0 : Int) ≤ (k : Int) ∧ (k : Int) < (ops.length : Int) := by omega
        replace hbi := hidK hbi
        obtain ⟨kd, oa, ob'⟩ := o
        have hok1 : isI kd := hok.1
        have HOK := hidK hok
        clear hok hop
        have hp8 := pickN_lt kd (n := 8) (by omega)
        go_wp2_with fail
        refine (kpick_any kd 8 hok1 (by omega) (by omega) _).mono ?_
        rintro e w1 ⟨rfl, q1, rfl⟩
        have HLP : Hid (∀ s : PB, needP s ⟨kd, oa, ob'⟩ = if s.2.length < need0 (pickN kd 8) ∨ longB s ⟨kd, oa, ob'⟩ = true then 0 else need0 (pickN kd 8)) := fun s => rfl
        have HLB : Hid (∀ s : PB, longB s ⟨kd, oa, ob'⟩ = decide (0 < need0 (pickN kd 8) ∧ need0 (pickN kd 8) ≤ s.2.length ∧ 200 < (ndA s (s.2.length - 1)).tr.oth.length)) := fun s => rfl
        have HNW : Hid (∀ s : PB, newP s ⟨kd, oa, ob'⟩ = if 0 < needP s ⟨kd, oa, ob'⟩ then madeP (pickN kd 8) (s.2.getD (s.2.length - 2) 0) (s.2.getD (s.2.length - 1) 0) (ndA s (s.2.length - 2)).tr (ndA s (s.2.length - 1)).tr else leafP ⟨kd, oa, ob'⟩) := fun s => rfl
        generalize pickN kd 8 = p at *
        have dn0 : decide ((s.2.length : Int) < 0) = false := by simp
        by_cases hp3 : p < 3
        · have d3 : decide ((3 : Int) ≤ (p : Int)) = false := by simp; omega
          have d5 : decide ((5 : Int) ≤ (p : Int)) = false := by simp; omega
          have HN0 : Hid (needP s ⟨kd, oa, ob'⟩ = 0) := by
            unfold Hid; rw [HLP.out]; split
            · rfl
            · unfold need0; rw [if_neg (by omega), if_neg (by omega)]
          go_upto_region 12 with fail
          go_quiet (fail)
          as_aux_lemma =>
          go_upto_region 15 with fail
          go_wp2_with fail
          refine (kleaf_any ⟨kd, oa, ob'⟩ HOK.out _).mono ?_
          rintro e w2 ⟨rfl, hb2⟩
          have HB2 := hidK (hbi.out.below ((bdN (Below.refl wr.heap.size wr) _).trans hb2))
          obtain ⟨X, hX⟩ : ∃ X, leafP ⟨kd, oa, ob'⟩ = X := ⟨_, rfl⟩
          rw [hX]
          have eX : X.cells.toArray = #[.int .i64 (X.k : Int), .int .u8 (X.a : Int), .int .u8 (X.b : Int), .int .i64 (X.l : Int), .int .i64 (X.r : Int), .string (bA X.tr.txt), .string (bA X.tr.oth), .int .i64 (X.tr.pls : Int), .int .i64 (X.tr.mor : Int)] := rfl
          rw [eX]
          have HXN : Hid (newP s ⟨kd, oa, ob'⟩ = X) := by unfold Hid; rw [HNW.out, HN0.out, if_neg (by omega)]; exact hX
          have HB3 : Hid (BI w (w2.alloc (.cells #[.int .i64 (X.k : Int), .int .u8 (X.a : Int), .int .u8 (X.b : Int), .int .i64 (X.l : Int), .int .i64 (X.r : Int), .string (bA X.tr.txt), .string (bA X.tr.oth), .int .i64 (X.tr.pls : Int), .int .i64 (X.tr.mor : Int)] 109)) (.slice aA s.1.length cA) (.slice aT s.2.length cT) s) := HB2.out.below ((Below.refl _ _).alloc (Nat.le_refl _) _)
          have HR9 : Hid ((w2.alloc (.cells #[.int .i64 (X.k : Int), .int .u8 (X.a : Int), .int .u8 (X.b : Int), .int .i64 (X.l : Int), .int .i64 (X.r : Int), .string (bA X.tr.txt), .string (bA X.tr.oth), .int .i64 (X.tr.pls : Int), .int .i64 (X.tr.mor : Int)] 109)).rangeAt w2.heap.size 0 X.cells) := rangeAt_newL w2 X.cells 109
          have HT9 : Hid (∀ k, (Value.slice aT s.2.length cT).ownBlock = some k → k < w2.heap.size) := fun k hk => (HB2.out.rt.lt k hk).2
          have HA9 : Hid (∀ k, (Value.slice aA s.1.length cA).ownBlock = some k → k < w2.heap.size) := fun k hk => (HB2.out.ra.lt k hk).2
          have hz2 := HB2.out.hz
          have hz3 : w2.heap.size + 1 = (w2.alloc (.cells #[.int .i64 (X.k : Int), .int .u8 (X.a : Int), .int .u8 (X.b : Int), .int .i64 (X.l : Int), .int .i64 (X.r : Int), .string (bA X.tr.txt), .string (bA X.tr.oth), .int .i64 (X.tr.pls : Int), .int .i64 (X.tr.mor : Int)] 109)).heap.size := by simp
          clear hX hb2 k0 k1 k2 c0 c1 f0 f1
          go_upto_region 18 with fail
          generalize w2.alloc (.cells #[.int .i64 (X.k : Int), .int .u8 (X.a : Int), .int .u8 (X.b : Int), .int .i64 (X.l : Int), .int .i64 (X.r : Int), .string (bA X.tr.txt), .string (bA X.tr.oth), .int .i64 (X.tr.pls : Int), .int .i64 (X.tr.mor : Int)] 109) = W3 at *
          generalize w2.heap.size = B9 at *
          have c0 := HB3.out.c0
          have c1 := HB3.out.c1
          have f1 := HB3.out.fz 1
          have hcT := row_cap HB3.out.rt
          have haz := addr_zero aT
          have wsub : IntKind.i64.wrap (s.2.length : Int) = (s.2.length : Int) := IntWalk.i64_in _ (by omega)
          as_aux_lemma =>
          go_upto_region 19 with fail
          have HST : Hid (stepP s ⟨kd, oa, ob'⟩ = (s.1 ++ [X], s.2 ++ [s.1.length])) := by
            unfold Hid stepP; rw [HXN.out, HN0.out, Nat.sub_zero, List.take_length]
          have HB4 := hidK (HB3.out.shrink (Nat.le_refl s.2.length))
          rw [List.take_length] at HB4
          have HR4 := hidK (rangeAt_block HR9.out (Below.heap_setCell W3 ⟨w.heap.size + 1, 1, none⟩ (.slice aT s.2.length cT) B9 (by show B9 ≠ w.heap.size + 1; omega)))
          have hz4' : B9 + 1 ≤ (W3.setCell ⟨w.heap.size + 1, 1, none⟩ (.slice aT s.2.length cT)).heap.size := by simp [World.setCell]; omega
          clear c0 c1 f1 HB3
          generalize W3.setCell ⟨w.heap.size + 1, 1, none⟩ (.slice aT s.2.length cT) = W4 at *
          have hl4 : s.2.length ≤ 1100000 := by omega
          have c0 := HB4.out.c0
          have c1 := HB4.out.c1
          have f1 := HB4.out.fz 1
          have hz4 := HB4.out.hz
          as_aux_lemma =>
          go_upto_region 20 with (first | (at_builtin; refine wpList_app1 W4 rfl (.tmp 76) (.tmp 80) 30 rfl (w.heap.size + 2) 3 (.int .i64 0) 1 8 Try.underlying30 Try.infoInt1 rfl (by decide) (by decide) (.slice aT s.2.length cT) s.2.length (topsC s.2) [.int .i64 (s.1.length : Int)] _ rfl HB4.out.rt _ rfl rfl rfl (by simp [Value.oneCell']) (by omega) (by omega) ?_; intro g4 cap4 w5 hown4 hgrow4 hat4 hlt4; have HB5 := hidK (HB4.out.moreT s.1.length hown4 hgrow4 hat4); have HR5 := hidK (rangeAt_block HR4.out ((hgrow4.block B9 (by simp; omega) (fun e => by have := HT9.out B9 e.symm; omega)).trans (Below.heap_alloc W4 _ B9 (by omega)))); have m1 := (grow_cell hgrow4 (k := w.heap.size + 1) (by omega) (fun e => by have := (HB4.out.rt.lt _ e.symm).1; omega)).1 1; have n1 := (grow_cell hgrow4 (k := w.heap.size + 1) (by omega) (fun e => by have := (HB4.out.rt.lt _ e.symm).1; omega)).2 1; rw [c1] at m1; rw [f1] at n1; have hz5 := hgrow4.size; clear hown4 hgrow4 hat4 hlt4 c0 c1 f1))
          have HR6 := hidK (rangeAt_block HR5.out (Below.heap_setCell w5 ⟨w.heap.size + 1, 1, none⟩ (.slice (some ⟨g4, 0, none⟩) (s.2.length + 1) cap4) B9 (by show B9 ≠ w.heap.size + 1; omega)))
          clear m1 n1
          generalize w5.setCell ⟨w.heap.size + 1, 1, none⟩ (.slice (some ⟨g4, 0, none⟩) (s.2.length + 1) cap4) = W6 at *
          have c0 := HB5.out.c0
          have f0 := HB5.out.fz 0
          have hz6 := HB5.out.hz
          as_aux_lemma =>
          go_wp2_with (first | (refine wpList_load_mid rfl 109 (.tmp 9) rfl B9 0 rfl X.cells _ HR6.out Try.underlying109 rfl Try.knodeSize ?_) | (refine Try.wpBuildNode rfl (.tmp 85) rfl X rfl ?_) | (at_builtin; refine wpList_app1 W6 rfl (.tmp 84) (.tmp 86) 47 rfl (w.heap.size + 2) 109 (.agg #[.int .i64 0, .int .u8 0, .int .u8 0, .int .i64 0, .int .i64 0, .string ⟨#[]⟩, .string ⟨#[]⟩, .int .i64 0, .int .i64 0]) 9 80 Try.underlying47 Try.infoKNode Try.zKNode (by decide) (by decide) (.slice aA s.1.length cA) s.1.length (nodesC s.1) X.cells _ rfl HB5.out.ra _ rfl rfl rfl (Try.oneX X) (by omega) (by omega) ?_; intro g7 cap7 w7 hown7 hgrow7 hat7 hlt7; have HB7 := hidK (HB5.out.moreA X hown7 hgrow7 hat7); have m0 := (grow_cell hgrow7 (k := w.heap.size + 1) (by omega) (fun e => by have := (HB5.out.ra.lt _ e.symm).1; omega)).1 0; have n0 := (grow_cell hgrow7 (k := w.heap.size + 1) (by omega) (fun e => by have := (HB5.out.ra.lt _ e.symm).1; omega)).2 0; rw [c0] at m0; rw [f0] at n0; clear hown7 hgrow7 hat7 hlt7 c0 f0))
          go_roundw
          case rel => exact ⟨k + 1, _, _, hlt, by go_num, by rw [HNX.out, HST.out]; exact HB7.out⟩
          case measure => simp [intOf]; omega
        · have d3 : decide ((3 : Int) ≤ (p : Int)) = true := by simp; omega
          by_cases hp5 : 5 ≤ p
          · have d5 : decide ((5 : Int) ≤ (p : Int)) = true := by simp; omega
            have HND : Hid (need0 p = 1) := by unfold Hid need0; rw [if_pos hp5]
            by_cases hn1 : s.2.length < 1
            · have e1 : decide ((1 : Int) ≤ (s.2.length : Int)) = false := by simp; omega
              have e2 : decide ((s.2.length : Int) < 1) = true := by simp; omega
              have HN0 : Hid (needP s ⟨kd, oa, ob'⟩ = 0) := by
                unfold Hid; rw [HLP.out, if_pos (.inl (by rw [HND.out]; exact hn1))]
              clear hn1
              go_upto_region 12 with fail
              go_quiet (fail)
              as_aux_lemma =>
              go_upto_region 15 with fail
              go_wp2_with fail
              refine (kleaf_any ⟨kd, oa, ob'⟩ HOK.out _).mono ?_
              rintro e w2 ⟨rfl, hb2⟩
              have HB2 := hidK (hbi.out.below ((bdN (Below.refl wr.heap.size wr) _).trans hb2))
              obtain ⟨X, hX⟩ : ∃ X, leafP ⟨kd, oa, ob'⟩ = X := ⟨_, rfl⟩
              rw [hX]
              have eX : X.cells.toArray = #[.int .i64 (X.k : Int), .int .u8 (X.a : Int), .int .u8 (X.b : Int), .int .i64 (X.l : Int), .int .i64 (X.r : Int), .string (bA X.tr.txt), .string (bA X.tr.oth), .int .i64 (X.tr.pls : Int), .int .i64 (X.tr.mor : Int)] := rfl
              rw [eX]
              have HXN : Hid (newP s ⟨kd, oa, ob'⟩ = X) := by unfold Hid; rw [HNW.out, HN0.out, if_neg (by omega)]; exact hX
              have HB3 : Hid (BI w (w2.alloc (.cells #[.int .i64 (X.k : Int), .int .u8 (X.a : Int), .int .u8 (X.b : Int), .int .i64 (X.l : Int), .int .i64 (X.r : Int), .string (bA X.tr.txt), .string (bA X.tr.oth), .int .i64 (X.tr.pls : Int), .int .i64 (X.tr.mor : Int)] 109)) (.slice aA s.1.length cA) (.slice aT s.2.length cT) s) := HB2.out.below ((Below.refl _ _).alloc (Nat.le_refl _) _)
              have HR9 : Hid ((w2.alloc (.cells #[.int .i64 (X.k : Int), .int .u8 (X.a : Int), .int .u8 (X.b : Int), .int .i64 (X.l : Int), .int .i64 (X.r : Int), .string (bA X.tr.txt), .string (bA X.tr.oth), .int .i64 (X.tr.pls : Int), .int .i64 (X.tr.mor : Int)] 109)).rangeAt w2.heap.size 0 X.cells) := rangeAt_newL w2 X.cells 109
              have HT9 : Hid (∀ k, (Value.slice aT s.2.length cT).ownBlock = some k → k < w2.heap.size) := fun k hk => (HB2.out.rt.lt k hk).2
              have HA9 : Hid (∀ k, (Value.slice aA s.1.length cA).ownBlock = some k → k < w2.heap.size) := fun k hk => (HB2.out.ra.lt k hk).2
              have hz2 := HB2.out.hz
              have hz3 : w2.heap.size + 1 = (w2.alloc (.cells #[.int .i64 (X.k : Int), .int .u8 (X.a : Int), .int .u8 (X.b : Int), .int .i64 (X.l : Int), .int .i64 (X.r : Int), .string (bA X.tr.txt), .string (bA X.tr.oth), .int .i64 (X.tr.pls : Int), .int .i64 (X.tr.mor : Int)] 109)).heap.size := by simp
              clear hX hb2 k0 k1 k2 c0 c1 f0 f1
              go_upto_region 18 with fail
              generalize w2.alloc (.cells #[.int .i64 (X.k : Int), .int .u8 (X.a : Int), .int .u8 (X.b : Int), .int .i64 (X.l : Int), .int .i64 (X.r : Int), .string (bA X.tr.txt), .string (bA X.tr.oth), .int .i64 (X.tr.pls : Int), .int .i64 (X.tr.mor : Int)] 109) = W3 at *
              generalize w2.heap.size = B9 at *
              have c0 := HB3.out.c0
              have c1 := HB3.out.c1
              have f1 := HB3.out.fz 1
              have hcT := row_cap HB3.out.rt
              have haz := addr_zero aT
              have wsub : IntKind.i64.wrap (s.2.length : Int) = (s.2.length : Int) := IntWalk.i64_in _ (by omega)
              as_aux_lemma =>
              go_upto_region 19 with fail
              have HST : Hid (stepP s ⟨kd, oa, ob'⟩ = (s.1 ++ [X], s.2 ++ [s.1.length])) := by
                unfold Hid stepP; rw [HXN.out, HN0.out, Nat.sub_zero, List.take_length]
              have HB4 := hidK (HB3.out.shrink (Nat.le_refl s.2.length))
              rw [List.take_length] at HB4
              have HR4 := hidK (rangeAt_block HR9.out (Below.heap_setCell W3 ⟨w.heap.size + 1, 1, none⟩ (.slice aT s.2.length cT) B9 (by show B9 ≠ w.heap.size + 1; omega)))
              have hz4' : B9 + 1 ≤ (W3.setCell ⟨w.heap.size + 1, 1, none⟩ (.slice aT s.2.length cT)).heap.size := by simp [World.setCell]; omega
              clear c0 c1 f1 HB3
              generalize W3.setCell ⟨w.heap.size + 1, 1, none⟩ (.slice aT s.2.length cT) = W4 at *
              have hl4 : s.2.length ≤ 1100000 := by omega
              have c0 := HB4.out.c0
              have c1 := HB4.out.c1
              have f1 := HB4.out.fz 1
              have hz4 := HB4.out.hz
              as_aux_lemma =>
              go_upto_region 20 with (first | (at_builtin; refine wpList_app1 W4 rfl (.tmp 76) (.tmp 80) 30 rfl (w.heap.size + 2) 3 (.int .i64 0) 1 8 Try.underlying30 Try.infoInt1 rfl (by decide) (by decide) (.slice aT s.2.length cT) s.2.length (topsC s.2) [.int .i64 (s.1.length : Int)] _ rfl HB4.out.rt _ rfl rfl rfl (by simp [Value.oneCell']) (by omega) (by omega) ?_; intro g4 cap4 w5 hown4 hgrow4 hat4 hlt4; have HB5 := hidK (HB4.out.moreT s.1.length hown4 hgrow4 hat4); have HR5 := hidK (rangeAt_block HR4.out ((hgrow4.block B9 (by simp; omega) (fun e => by have := HT9.out B9 e.symm; omega)).trans (Below.heap_alloc W4 _ B9 (by omega)))); have m1 := (grow_cell hgrow4 (k := w.heap.size + 1) (by omega) (fun e => by have := (HB4.out.rt.lt _ e.symm).1; omega)).1 1; have n1 := (grow_cell hgrow4 (k := w.heap.size + 1) (by omega) (fun e => by have := (HB4.out.rt.lt _ e.symm).1; omega)).2 1; rw [c1] at m1; rw [f1] at n1; have hz5 := hgrow4.size; clear hown4 hgrow4 hat4 hlt4 c0 c1 f1))
              have HR6 := hidK (rangeAt_block HR5.out (Below.heap_setCell w5 ⟨w.heap.size + 1, 1, none⟩ (.slice (some ⟨g4, 0, none⟩) (s.2.length + 1) cap4) B9 (by show B9 ≠ w.heap.size + 1; omega)))
              clear m1 n1
              generalize w5.setCell ⟨w.heap.size + 1, 1, none⟩ (.slice (some ⟨g4, 0, none⟩) (s.2.length + 1) cap4) = W6 at *
              have c0 := HB5.out.c0
              have f0 := HB5.out.fz 0
              have hz6 := HB5.out.hz
              as_aux_lemma =>
              go_wp2_with (first | (refine wpList_load_mid rfl 109 (.tmp 9) rfl B9 0 rfl X.cells _ HR6.out Try.underlying109 rfl Try.knodeSize ?_) | (refine Try.wpBuildNode rfl (.tmp 85) rfl X rfl ?_) | (at_builtin; refine wpList_app1 W6 rfl (.tmp 84) (.tmp 86) 47 rfl (w.heap.size + 2) 109 (.agg #[.int .i64 0, .int .u8 0, .int .u8 0, .int .i64 0, .int .i64 0, .string ⟨#[]⟩, .string ⟨#[]⟩, .int .i64 0, .int .i64 0]) 9 80 Try.underlying47 Try.infoKNode Try.zKNode (by decide) (by decide) (.slice aA s.1.length cA) s.1.length (nodesC s.1) X.cells _ rfl HB5.out.ra _ rfl rfl rfl (Try.oneX X) (by omega) (by omega) ?_; intro g7 cap7 w7 hown7 hgrow7 hat7 hlt7; have HB7 := hidK (HB5.out.moreA X hown7 hgrow7 hat7); have m0 := (grow_cell hgrow7 (k := w.heap.size + 1) (by omega) (fun e => by have := (HB5.out.ra.lt _ e.symm).1; omega)).1 0; have n0 := (grow_cell hgrow7 (k := w.heap.size + 1) (by omega) (fun e => by have := (HB5.out.ra.lt _ e.symm).1; omega)).2 0; rw [c0] at m0; rw [f0] at n0; clear hown7 hgrow7 hat7 hlt7 c0 f0))
              go_roundw
              case rel => exact ⟨k + 1, _, _, hlt, by go_num, by rw [HNX.out, HST.out]; exact HB7.out⟩
              case measure => simp [intOf]; omega
            · obtain ⟨j1, hj1⟩ : ∃ j1, s.2.length = j1 + 1 := ⟨s.2.length - 1, by omega⟩
              have e1 : decide ((1 : Int) ≤ (s.2.length : Int)) = true := by simp; omega
              have e2 : decide ((s.2.length : Int) < 1) = false := by simp; omega
              have hL1 : (s.2.length : Int) - 1 = (j1 : Int) := by omega
              have hI1 : (0 : Int) ≤ (j1 : Int) ∧ (j1 : Int) < (s.2.length : Int) := by omega
              have wj : IntKind.i64.wrap (j1 : Int) = (j1 : Int) := IntWalk.i64_in _ (by omega)
              obtain ⟨gt, cT', hfT, _, _⟩ := hbi.out.rt.form (by omega)
              injection hfT with hfT1 hfT2 hfT3
              subst hfT1 hfT3
              obtain ⟨x, x1, x2, x3, x4⟩ := HPB.out.top (j := j1) (by omega)
              obtain ⟨ga, cA', hfA, _, _⟩ := hbi.out.ra.form (by have := HPB.out.ok j1 _ x1; omega)
              injection hfA with hfA1 hfA2 hfA3
              subst hfA1 hfA3
              clear hfT2 hfA2
              have htb := HPB.out.ok j1 _ x1
              generalize htbe : s.2.getD j1 0 = tb at *
              have HTE := hidK htbe
              clear htbe
              have HRI := hidK (hbi.out.ruin HPB.out.ok)
              have it := HRI.out.tp j1 tb x1
              have ox := HRI.out.nd tb x x2 6 _ rfl
              have htbI : (0 : Int) ≤ (tb : Int) ∧ (tb : Int) < (s.1.length : Int) := by omega
              have HX3 : Hid (ndA s (s.2.length - 1) = x) := by unfold Hid; rw [show s.2.length - 1 = j1 by omega]; exact x3
              replace hj1 := hidK hj1
              have hjl : j1 < s.2.length := by have := hj1.out; omega
              have hjl2 : s.2.length ≤ j1 + 1 := by have := hj1.out; omega
              clear hn1
              by_cases hl : 200 < x.tr.oth.length
              · have dl : decide ((200 : Int) < ((bA x.tr.oth).size : Int)) = true := by rw [bA_size]; simp; omega
                have HN0 : Hid (needP s ⟨kd, oa, ob'⟩ = 0) := by
                  unfold Hid; rw [HLP.out, if_pos (.inr (by rw [HLB.out, decide_eq_true_eq, HND.out, HX3.out]; exact ⟨by omega, by omega, hl⟩))]
                clear hl x3
                go_upto_region 12 with fail
                go_quiet (fail)
                as_aux_lemma =>
                go_upto_region 15 with fail
                go_wp2_with fail
                refine (kleaf_any ⟨kd, oa, ob'⟩ HOK.out _).mono ?_
                rintro e w2 ⟨rfl, hb2⟩
                have HB2 := hidK (hbi.out.below ((bdN (Below.refl wr.heap.size wr) _).trans hb2))
                obtain ⟨X, hX⟩ : ∃ X, leafP ⟨kd, oa, ob'⟩ = X := ⟨_, rfl⟩
                rw [hX]
                have eX : X.cells.toArray = #[.int .i64 (X.k : Int), .int .u8 (X.a : Int), .int .u8 (X.b : Int), .int .i64 (X.l : Int), .int .i64 (X.r : Int), .string (bA X.tr.txt), .string (bA X.tr.oth), .int .i64 (X.tr.pls : Int), .int .i64 (X.tr.mor : Int)] := rfl
                rw [eX]
                have HXN : Hid (newP s ⟨kd, oa, ob'⟩ = X) := by unfold Hid; rw [HNW.out, HN0.out, if_neg (by omega)]; exact hX
                have HB3 : Hid (BI w (w2.alloc (.cells #[.int .i64 (X.k : Int), .int .u8 (X.a : Int), .int .u8 (X.b : Int), .int .i64 (X.l : Int), .int .i64 (X.r : Int), .string (bA X.tr.txt), .string (bA X.tr.oth), .int .i64 (X.tr.pls : Int), .int .i64 (X.tr.mor : Int)] 109)) (.slice (some ⟨ga, 0, none⟩) s.1.length cA) (.slice (some ⟨gt, 0, none⟩) s.2.length cT) s) := HB2.out.below ((Below.refl _ _).alloc (Nat.le_refl _) _)
                have HR9 : Hid ((w2.alloc (.cells #[.int .i64 (X.k : Int), .int .u8 (X.a : Int), .int .u8 (X.b : Int), .int .i64 (X.l : Int), .int .i64 (X.r : Int), .string (bA X.tr.txt), .string (bA X.tr.oth), .int .i64 (X.tr.pls : Int), .int .i64 (X.tr.mor : Int)] 109)).rangeAt w2.heap.size 0 X.cells) := rangeAt_newL w2 X.cells 109
                have HT9 : Hid (∀ k, (Value.slice (some ⟨gt, 0, none⟩) s.2.length cT).ownBlock = some k → k < w2.heap.size) := fun k hk => (HB2.out.rt.lt k hk).2
                have HA9 : Hid (∀ k, (Value.slice (some ⟨ga, 0, none⟩) s.1.length cA).ownBlock = some k → k < w2.heap.size) := fun k hk => (HB2.out.ra.lt k hk).2
                have hz2 := HB2.out.hz
                have hz3 : w2.heap.size + 1 = (w2.alloc (.cells #[.int .i64 (X.k : Int), .int .u8 (X.a : Int), .int .u8 (X.b : Int), .int .i64 (X.l : Int), .int .i64 (X.r : Int), .string (bA X.tr.txt), .string (bA X.tr.oth), .int .i64 (X.tr.pls : Int), .int .i64 (X.tr.mor : Int)] 109)).heap.size := by simp
                clear hX hb2 k0 k1 k2 c0 c1 f0 f1
                go_upto_region 18 with fail
                generalize w2.alloc (.cells #[.int .i64 (X.k : Int), .int .u8 (X.a : Int), .int .u8 (X.b : Int), .int .i64 (X.l : Int), .int .i64 (X.r : Int), .string (bA X.tr.txt), .string (bA X.tr.oth), .int .i64 (X.tr.pls : Int), .int .i64 (X.tr.mor : Int)] 109) = W3 at *
                generalize w2.heap.size = B9 at *
                have c0 := HB3.out.c0
                have c1 := HB3.out.c1
                have f1 := HB3.out.fz 1
                have hcT := row_cap HB3.out.rt
                have haz := addr_zero (some ⟨gt, 0, none⟩)
                have wsub : IntKind.i64.wrap (s.2.length : Int) = (s.2.length : Int) := IntWalk.i64_in _ (by omega)
                as_aux_lemma =>
                go_upto_region 19 with fail
                have HST : Hid (stepP s ⟨kd, oa, ob'⟩ = (s.1 ++ [X], s.2 ++ [s.1.length])) := by
                  unfold Hid stepP; rw [HXN.out, HN0.out, Nat.sub_zero, List.take_length]
                have HB4 := hidK (HB3.out.shrink (Nat.le_refl s.2.length))
                rw [List.take_length] at HB4
                have HR4 := hidK (rangeAt_block HR9.out (Below.heap_setCell W3 ⟨w.heap.size + 1, 1, none⟩ (.slice (some ⟨gt, 0, none⟩) s.2.length cT) B9 (by show B9 ≠ w.heap.size + 1; omega)))
                have hz4' : B9 + 1 ≤ (W3.setCell ⟨w.heap.size + 1, 1, none⟩ (.slice (some ⟨gt, 0, none⟩) s.2.length cT)).heap.size := by simp [World.setCell]; omega
                clear c0 c1 f1 HB3
                generalize W3.setCell ⟨w.heap.size + 1, 1, none⟩ (.slice (some ⟨gt, 0, none⟩) s.2.length cT) = W4 at *
                have hl4 : s.2.length ≤ 1100000 := by omega
                have c0 := HB4.out.c0
                have c1 := HB4.out.c1
                have f1 := HB4.out.fz 1
                have hz4 := HB4.out.hz
                as_aux_lemma =>
                go_upto_region 20 with (first | (at_builtin; refine wpList_app1 W4 rfl (.tmp 76) (.tmp 80) 30 rfl (w.heap.size + 2) 3 (.int .i64 0) 1 8 Try.underlying30 Try.infoInt1 rfl (by decide) (by decide) (.slice (some ⟨gt, 0, none⟩) s.2.length cT) s.2.length (topsC s.2) [.int .i64 (s.1.length : Int)] _ rfl HB4.out.rt _ rfl rfl rfl (by simp [Value.oneCell']) (by omega) (by omega) ?_; intro g4 cap4 w5 hown4 hgrow4 hat4 hlt4; have HB5 := hidK (HB4.out.moreT s.1.length hown4 hgrow4 hat4); have HR5 := hidK (rangeAt_block HR4.out ((hgrow4.block B9 (by simp; omega) (fun e => by have := HT9.out B9 e.symm; omega)).trans (Below.heap_alloc W4 _ B9 (by omega)))); have m1 := (grow_cell hgrow4 (k := w.heap.size + 1) (by omega) (fun e => by have := (HB4.out.rt.lt _ e.symm).1; omega)).1 1; have n1 := (grow_cell hgrow4 (k := w.heap.size + 1) (by omega) (fun e => by have := (HB4.out.rt.lt _ e.symm).1; omega)).2 1; rw [c1] at m1; rw [f1] at n1; have hz5 := hgrow4.size; clear hown4 hgrow4 hat4 hlt4 c0 c1 f1))
                have HR6 := hidK (rangeAt_block HR5.out (Below.heap_setCell w5 ⟨w.heap.size + 1, 1, none⟩ (.slice (some ⟨g4, 0, none⟩) (s.2.length + 1) cap4) B9 (by show B9 ≠ w.heap.size + 1; omega)))
                clear m1 n1
                generalize w5.setCell ⟨w.heap.size + 1, 1, none⟩ (.slice (some ⟨g4, 0, none⟩) (s.2.length + 1) cap4) = W6 at *
                have c0 := HB5.out.c0
                have f0 := HB5.out.fz 0
                have hz6 := HB5.out.hz
                as_aux_lemma =>
                go_wp2_with (first | (refine wpList_load_mid rfl 109 (.tmp 9) rfl B9 0 rfl X.cells _ HR6.out Try.underlying109 rfl Try.knodeSize ?_) | (refine Try.wpBuildNode rfl (.tmp 85) rfl X rfl ?_) | (at_builtin; refine wpList_app1 W6 rfl (.tmp 84) (.tmp 86) 47 rfl (w.heap.size + 2) 109 (.agg #[.int .i64 0, .int .u8 0, .int .u8 0, .int .i64 0, .int .i64 0, .string ⟨#[]⟩, .string ⟨#[]⟩, .int .i64 0, .int .i64 0]) 9 80 Try.underlying47 Try.infoKNode Try.zKNode (by decide) (by decide) (.slice (some ⟨ga, 0, none⟩) s.1.length cA) s.1.length (nodesC s.1) X.cells _ rfl HB5.out.ra _ rfl rfl rfl (Try.oneX X) (by omega) (by omega) ?_; intro g7 cap7 w7 hown7 hgrow7 hat7 hlt7; have HB7 := hidK (HB5.out.moreA X hown7 hgrow7 hat7); have m0 := (grow_cell hgrow7 (k := w.heap.size + 1) (by omega) (fun e => by have := (HB5.out.ra.lt _ e.symm).1; omega)).1 0; have n0 := (grow_cell hgrow7 (k := w.heap.size + 1) (by omega) (fun e => by have := (HB5.out.ra.lt _ e.symm).1; omega)).2 0; rw [c0] at m0; rw [f0] at n0; clear hown7 hgrow7 hat7 hlt7 c0 f0))
                go_roundw
                case rel => exact ⟨k + 1, _, _, hlt, by go_num, by rw [HNX.out, HST.out]; exact HB7.out⟩
                case measure => simp [intOf]; omega
              · have dl : decide ((200 : Int) < ((bA x.tr.oth).size : Int)) = false := by rw [bA_size]; simp; omega
                have HN1 : Hid (needP s ⟨kd, oa, ob'⟩ = 1) := by
                  unfold Hid
                  rw [HLP.out, if_neg, HND.out]
                  rintro (h1 | h1)
                  · rw [HND.out] at h1; omega
                  · rw [HLB.out, decide_eq_true_eq, HX3.out] at h1; exact hl h1.2.2
                have hl2 : x.tr.oth.length ≤ 200 := by omega
                clear hl x3
                obtain ⟨TA, hTA⟩ : ∃ TA, s.2.getD (s.2.length - 2) 0 = TA := ⟨_, rfl⟩
                obtain ⟨TY, hTY⟩ : ∃ TY, (ndA s (s.2.length - 2)).tr = TY := ⟨_, rfl⟩
                have HNW' : Hid (newP s ⟨kd, oa, ob'⟩ = if 0 < needP s ⟨kd, oa, ob'⟩ then madeP p TA tb TY x.tr else leafP ⟨kd, oa, ob'⟩) := by
                  unfold Hid; rw [HNW.out, hTA, hTY, HX3.out, show s.2.length - 1 = j1 by omega, HTE.out]
                clear hTA hTY
                go_upto_region 12 with fail
                go_quiet (fail)
                as_aux_lemma =>
                go_upto_region 15 with fail
                go_wp2_with fail
                refine (kleaf_any ⟨kd, oa, ob'⟩ HOK.out _).mono ?_
                rintro e w2 ⟨rfl, hb2⟩
                have HB2 := hidK (hbi.out.below ((bdN (Below.refl wr.heap.size wr) _).trans hb2))
                obtain ⟨X0, hX0⟩ : ∃ X, leafP ⟨kd, oa, ob'⟩ = X := ⟨_, rfl⟩
                rw [hX0]
                have eX0 : X0.cells.toArray = #[.int .i64 (X0.k : Int), .int .u8 (X0.a : Int), .int .u8 (X0.b : Int), .int .i64 (X0.l : Int), .int .i64 (X0.r : Int), .string (bA X0.tr.txt), .string (bA X0.tr.oth), .int .i64 (X0.tr.pls : Int), .int .i64 (X0.tr.mor : Int)] := rfl
                rw [eX0]
                have HB3 : Hid (BI w (w2.alloc (.cells #[.int .i64 (X0.k : Int), .int .u8 (X0.a : Int), .int .u8 (X0.b : Int), .int .i64 (X0.l : Int), .int .i64 (X0.r : Int), .string (bA X0.tr.txt), .string (bA X0.tr.oth), .int .i64 (X0.tr.pls : Int), .int .i64 (X0.tr.mor : Int)] 109)) (.slice (some ⟨ga, 0, none⟩) s.1.length cA) (.slice (some ⟨gt, 0, none⟩) s.2.length cT) s) := HB2.out.below ((Below.refl _ _).alloc (Nat.le_refl _) _)
                have HTH : Hid ((w2.alloc (.cells #[.int .i64 (X0.k : Int), .int .u8 (X0.a : Int), .int .u8 (X0.b : Int), .int .i64 (X0.l : Int), .int .i64 (X0.r : Int), .string (bA X0.tr.txt), .string (bA X0.tr.oth), .int .i64 (X0.tr.pls : Int), .int .i64 (X0.tr.mor : Int)] 109)).there w2.heap.size 0 9) := there_newA _ _ _ _ _ rfl rfl
                have HT9 : Hid (∀ k, (Value.slice (some ⟨gt, 0, none⟩) s.2.length cT).ownBlock = some k → k < w2.heap.size) := fun k hk => (HB2.out.rt.lt k hk).2
                have HA9 : Hid (∀ k, (Value.slice (some ⟨ga, 0, none⟩) s.1.length cA).ownBlock = some k → k < w2.heap.size) := fun k hk => (HB2.out.ra.lt k hk).2
                have hz2 := HB2.out.hz
                have hz3 : w2.heap.size + 1 = (w2.alloc (.cells #[.int .i64 (X0.k : Int), .int .u8 (X0.a : Int), .int .u8 (X0.b : Int), .int .i64 (X0.l : Int), .int .i64 (X0.r : Int), .string (bA X0.tr.txt), .string (bA X0.tr.oth), .int .i64 (X0.tr.pls : Int), .int .i64 (X0.tr.mor : Int)] 109)).heap.size := by simp
                clear hX0 hb2 k0 k1 k2 c0 c1 f0 f1 it ox
                go_upto_region 17 with fail
                generalize w2.alloc (.cells #[.int .i64 (X0.k : Int), .int .u8 (X0.a : Int), .int .u8 (X0.b : Int), .int .i64 (X0.l : Int), .int .i64 (X0.r : Int), .string (bA X0.tr.txt), .string (bA X0.tr.oth), .int .i64 (X0.tr.pls : Int), .int .i64 (X0.tr.mor : Int)] 109) = W3 at *
                generalize w2.heap.size = B9 at *
                have c0 := HB3.out.c0
                have c1 := HB3.out.c1
                have HR3 := hidK (HB3.out.ruin HPB.out.ok)
                as_aux_lemma =>
                go_wp2_with fail
                have hk5 := kmade5 p hp5 (by omega) ga gt cA cT tb j1 s.1.length x TY TA W3 (by omega) (by omega) htb (HR3.out.nd tb x x2) (HR3.out.tp j1 tb x1) HR3.out.ba HR3.out.bt (by have := txt_le x.tr; omega) (by have := txt_le x.tr; omega) (by rw [bA_size]; have := txt_le x.tr; omega) (by rw [bA_size]; omega)
                rw [← hj1.out] at hk5
                refine hk5.mono ?_
                rintro e w3 ⟨rfl, hb3⟩
                have HB3b := hidK (HB3.out.below hb3)
                have HTH2 := hidK (there_below HTH.out hb3 (by omega))
                have hz3b := hb3.size
                obtain ⟨X, hX⟩ : ∃ X, madeP p TA tb TY x.tr = X := ⟨_, rfl⟩
                rw [hX]
                have HXN : Hid (newP s ⟨kd, oa, ob'⟩ = X) := by unfold Hid; rw [HNW'.out, HN1.out, if_pos (by omega)]; exact hX
                clear hX hb3 c0 c1
                go_upto_region 18 with (first | (refine wpList_store_mid rfl 109 (.tmp 9) (.tmp 67) rfl B9 0 X.cells.toArray rfl rfl HTH2.out Try.knodeSize (all_oneCell_toArray (Try.oneX X)) ?_))
                have HB3c := hidK (HB3b.out.put (by omega) HA9.out HT9.out X.cells.toArray.toList)
                have HR9 : Hid ((w3.setCells B9 0 X.cells.toArray.toList).rangeAt B9 0 X.cells) := World.rangeAt_setCells_same w3 B9 0 X.cells HTH2.out
                have hz3c : w3.heap.size ≤ (w3.setCells B9 0 X.cells.toArray.toList).heap.size := (below_setCells X.cells.toArray.toList 0 w3 B9 (Below.refl 0 w3) (Nat.zero_le _)).size
                generalize w3.setCells B9 0 X.cells.toArray.toList = W3c at *
                have c0 := HB3c.out.c0
                have c1 := HB3c.out.c1
                have f1 := HB3c.out.fz 1
                have hcT := row_cap HB3c.out.rt
                have hcJ : j1 ≤ cT := by omega
                have haz := addr_zero (some ⟨gt, 0, none⟩)
                as_aux_lemma =>
                go_upto_region 19 with fail
                have HST : Hid (stepP s ⟨kd, oa, ob'⟩ = (s.1 ++ [X], s.2.take j1 ++ [s.1.length])) := by
                  unfold Hid stepP; rw [HXN.out, HN1.out, show s.2.length - 1 = j1 by omega]
                have HJ4 : Hid ((s.2.take j1).length = j1) := by unfold Hid; rw [List.length_take]; omega
                have HB4 := hidK (HB3c.out.shrink (show j1 ≤ s.2.length by omega))
                have HR4 := hidK (rangeAt_block HR9.out (Below.heap_setCell W3c ⟨w.heap.size + 1, 1, none⟩ (.slice (some ⟨gt, 0, none⟩) j1 cT) B9 (by show B9 ≠ w.heap.size + 1; omega)))
                have hz4' : B9 + 1 ≤ (W3c.setCell ⟨w.heap.size + 1, 1, none⟩ (.slice (some ⟨gt, 0, none⟩) j1 cT)).heap.size := by simp [World.setCell]; omega
                clear c0 c1 f1 HB3c
                generalize W3c.setCell ⟨w.heap.size + 1, 1, none⟩ (.slice (some ⟨gt, 0, none⟩) j1 cT) = W4 at *
                have HRT : Hid (W4.ownsRow (w.heap.size + 2) 3 1 (.slice (some ⟨gt, 0, none⟩) j1 cT) j1 (topsC (s.2.take j1))) := by
                  have := HB4.out.rt
                  rw [show (s.1, s.2.take j1).2 = s.2.take j1 from rfl, HJ4.out] at this
                  exact this
                have hl4 : j1 ≤ 1100000 := by omega
                have c0 := HB4.out.c0
                have c1 := HB4.out.c1
                have f1 := HB4.out.fz 1
                have hz4 := HB4.out.hz
                as_aux_lemma =>
                go_upto_region 20 with (first | (at_builtin; refine wpList_app1 W4 rfl (.tmp 76) (.tmp 80) 30 rfl (w.heap.size + 2) 3 (.int .i64 0) 1 8 Try.underlying30 Try.infoInt1 rfl (by decide) (by decide) (.slice (some ⟨gt, 0, none⟩) j1 cT) j1 (topsC (s.2.take j1)) [.int .i64 (s.1.length : Int)] _ rfl HRT.out _ rfl rfl rfl (by simp [Value.oneCell']) (by omega) (by omega) ?_; intro g4 cap4 w5 hown4 hgrow4 hat4 hlt4; have HB5 := hidK (HB4.out.moreT' s.1.length HJ4.out hown4 hgrow4 hat4); have HR5 := hidK (rangeAt_block HR4.out ((hgrow4.block B9 (by simp; omega) (fun e => by have := HT9.out B9 e.symm; omega)).trans (Below.heap_alloc W4 _ B9 (by omega)))); have m1 := (grow_cell hgrow4 (k := w.heap.size + 1) (by omega) (fun e => by have := (HB4.out.rt.lt _ e.symm).1; omega)).1 1; have n1 := (grow_cell hgrow4 (k := w.heap.size + 1) (by omega) (fun e => by have := (HB4.out.rt.lt _ e.symm).1; omega)).2 1; rw [c1] at m1; rw [f1] at n1; have hz5 := hgrow4.size; clear hown4 hgrow4 hat4 hlt4 c0 c1 f1))
                have HR6 := hidK (rangeAt_block HR5.out (Below.heap_setCell w5 ⟨w.heap.size + 1, 1, none⟩ (.slice (some ⟨g4, 0, none⟩) (j1 + 1) cap4) B9 (by show B9 ≠ w.heap.size + 1; omega)))
                clear m1 n1
                generalize w5.setCell ⟨w.heap.size + 1, 1, none⟩ (.slice (some ⟨g4, 0, none⟩) (j1 + 1) cap4) = W6 at *
                have c0 := HB5.out.c0
                have f0 := HB5.out.fz 0
                have hz6 := HB5.out.hz
                as_aux_lemma =>
                go_wp2_with (first | (refine wpList_load_mid rfl 109 (.tmp 9) rfl B9 0 rfl X.cells _ HR6.out Try.underlying109 rfl Try.knodeSize ?_) | (refine Try.wpBuildNode rfl (.tmp 85) rfl X rfl ?_) | (at_builtin; refine wpList_app1 W6 rfl (.tmp 84) (.tmp 86) 47 rfl (w.heap.size + 2) 109 (.agg #[.int .i64 0, .int .u8 0, .int .u8 0, .int .i64 0, .int .i64 0, .string ⟨#[]⟩, .string ⟨#[]⟩, .int .i64 0, .int .i64 0]) 9 80 Try.underlying47 Try.infoKNode Try.zKNode (by decide) (by decide) (.slice (some ⟨ga, 0, none⟩) s.1.length cA) s.1.length (nodesC s.1) X.cells _ rfl HB5.out.ra _ rfl rfl rfl (Try.oneX X) (by omega) (by omega) ?_; intro g7 cap7 w7 hown7 hgrow7 hat7 hlt7; have HB7 := hidK (HB5.out.moreA X hown7 hgrow7 hat7); have m0 := (grow_cell hgrow7 (k := w.heap.size + 1) (by omega) (fun e => by have := (HB5.out.ra.lt _ e.symm).1; omega)).1 0; have n0 := (grow_cell hgrow7 (k := w.heap.size + 1) (by omega) (fun e => by have := (HB5.out.ra.lt _ e.symm).1; omega)).2 0; rw [c0] at m0; rw [f0] at n0; clear hown7 hgrow7 hat7 hlt7 c0 f0))
                go_roundw
                case rel => exact ⟨k + 1, _, _, hlt, by go_num, by rw [HNX.out, HST.out]; exact HB7.out⟩
                case measure => simp [intOf]; omega
          · have d5 : decide ((5 : Int) ≤ (p : Int)) = false := by simp; omega
            have HND : Hid (need0 p = 2) := by unfold Hid need0; rw [if_neg hp5, if_pos (by omega)]
            by_cases hn1 : s.2.length < 2
            · have e1 : decide ((2 : Int) ≤ (s.2.length : Int)) = false := by simp; omega
              have e2 : decide ((s.2.length : Int) < 2) = true := by simp; omega
              have HN0 : Hid (needP s ⟨kd, oa, ob'⟩ = 0) := by
                unfold Hid; rw [HLP.out, if_pos (.inl (by rw [HND.out]; exact hn1))]
              clear hn1
              go_upto_region 12 with fail
              go_quiet (fail)
              as_aux_lemma =>
              go_upto_region 15 with fail
              go_wp2_with fail
              refine (kleaf_any ⟨kd, oa, ob'⟩ HOK.out _).mono ?_
              rintro e w2 ⟨rfl, hb2⟩
              have HB2 := hidK (hbi.out.below ((bdN (Below.refl wr.heap.size wr) _).trans hb2))
              obtain ⟨X, hX⟩ : ∃ X, leafP ⟨kd, oa, ob'⟩ = X := ⟨_, rfl⟩
              rw [hX]
              have eX : X.cells.toArray = #[.int .i64 (X.k : Int), .int .u8 (X.a : Int), .int .u8 (X.b : Int), .int .i64 (X.l : Int), .int .i64 (X.r : Int), .string (bA X.tr.txt), .string (bA X.tr.oth), .int .i64 (X.tr.pls : Int), .int .i64 (X.tr.mor : Int)] := rfl
              rw [eX]
              have HXN : Hid (newP s ⟨kd, oa, ob'⟩ = X) := by unfold Hid; rw [HNW.out, HN0.out, if_neg (by omega)]; exact hX
              have HB3 : Hid (BI w (w2.alloc (.cells #[.int .i64 (X.k : Int), .int .u8 (X.a : Int), .int .u8 (X.b : Int), .int .i64 (X.l : Int), .int .i64 (X.r : Int), .string (bA X.tr.txt), .string (bA X.tr.oth), .int .i64 (X.tr.pls : Int), .int .i64 (X.tr.mor : Int)] 109)) (.slice aA s.1.length cA) (.slice aT s.2.length cT) s) := HB2.out.below ((Below.refl _ _).alloc (Nat.le_refl _) _)
              have HR9 : Hid ((w2.alloc (.cells #[.int .i64 (X.k : Int), .int .u8 (X.a : Int), .int .u8 (X.b : Int), .int .i64 (X.l : Int), .int .i64 (X.r : Int), .string (bA X.tr.txt), .string (bA X.tr.oth), .int .i64 (X.tr.pls : Int), .int .i64 (X.tr.mor : Int)] 109)).rangeAt w2.heap.size 0 X.cells) := rangeAt_newL w2 X.cells 109
              have HT9 : Hid (∀ k, (Value.slice aT s.2.length cT).ownBlock = some k → k < w2.heap.size) := fun k hk => (HB2.out.rt.lt k hk).2
              have HA9 : Hid (∀ k, (Value.slice aA s.1.length cA).ownBlock = some k → k < w2.heap.size) := fun k hk => (HB2.out.ra.lt k hk).2
              have hz2 := HB2.out.hz
              have hz3 : w2.heap.size + 1 = (w2.alloc (.cells #[.int .i64 (X.k : Int), .int .u8 (X.a : Int), .int .u8 (X.b : Int), .int .i64 (X.l : Int), .int .i64 (X.r : Int), .string (bA X.tr.txt), .string (bA X.tr.oth), .int .i64 (X.tr.pls : Int), .int .i64 (X.tr.mor : Int)] 109)).heap.size := by simp
              clear hX hb2 k0 k1 k2 c0 c1 f0 f1
              go_upto_region 18 with fail
              generalize w2.alloc (.cells #[.int .i64 (X.k : Int), .int .u8 (X.a : Int), .int .u8 (X.b : Int), .int .i64 (X.l : Int), .int .i64 (X.r : Int), .string (bA X.tr.txt), .string (bA X.tr.oth), .int .i64 (X.tr.pls : Int), .int .i64 (X.tr.mor : Int)] 109) = W3 at *
              generalize w2.heap.size = B9 at *
              have c0 := HB3.out.c0
              have c1 := HB3.out.c1
              have f1 := HB3.out.fz 1
              have hcT := row_cap HB3.out.rt
              have haz := addr_zero aT
              have wsub : IntKind.i64.wrap (s.2.length : Int) = (s.2.length : Int) := IntWalk.i64_in _ (by omega)
              as_aux_lemma =>
              go_upto_region 19 with fail
              have HST : Hid (stepP s ⟨kd, oa, ob'⟩ = (s.1 ++ [X], s.2 ++ [s.1.length])) := by
                unfold Hid stepP; rw [HXN.out, HN0.out, Nat.sub_zero, List.take_length]
              have HB4 := hidK (HB3.out.shrink (Nat.le_refl s.2.length))
              rw [List.take_length] at HB4
              have HR4 := hidK (rangeAt_block HR9.out (Below.heap_setCell W3 ⟨w.heap.size + 1, 1, none⟩ (.slice aT s.2.length cT) B9 (by show B9 ≠ w.heap.size + 1; omega)))
              have hz4' : B9 + 1 ≤ (W3.setCell ⟨w.heap.size + 1, 1, none⟩ (.slice aT s.2.length cT)).heap.size := by simp [World.setCell]; omega
              clear c0 c1 f1 HB3
              generalize W3.setCell ⟨w.heap.size + 1, 1, none⟩ (.slice aT s.2.length cT) = W4 at *
              have hl4 : s.2.length ≤ 1100000 := by omega
              have c0 := HB4.out.c0
              have c1 := HB4.out.c1
              have f1 := HB4.out.fz 1
              have hz4 := HB4.out.hz
              as_aux_lemma =>
              go_upto_region 20 with (first | (at_builtin; refine wpList_app1 W4 rfl (.tmp 76) (.tmp 80) 30 rfl (w.heap.size + 2) 3 (.int .i64 0) 1 8 Try.underlying30 Try.infoInt1 rfl (by decide) (by decide) (.slice aT s.2.length cT) s.2.length (topsC s.2) [.int .i64 (s.1.length : Int)] _ rfl HB4.out.rt _ rfl rfl rfl (by simp [Value.oneCell']) (by omega) (by omega) ?_; intro g4 cap4 w5 hown4 hgrow4 hat4 hlt4; have HB5 := hidK (HB4.out.moreT s.1.length hown4 hgrow4 hat4); have HR5 := hidK (rangeAt_block HR4.out ((hgrow4.block B9 (by simp; omega) (fun e => by have := HT9.out B9 e.symm; omega)).trans (Below.heap_alloc W4 _ B9 (by omega)))); have m1 := (grow_cell hgrow4 (k := w.heap.size + 1) (by omega) (fun e => by have := (HB4.out.rt.lt _ e.symm).1; omega)).1 1; have n1 := (grow_cell hgrow4 (k := w.heap.size + 1) (by omega) (fun e => by have := (HB4.out.rt.lt _ e.symm).1; omega)).2 1; rw [c1] at m1; rw [f1] at n1; have hz5 := hgrow4.size; clear hown4 hgrow4 hat4 hlt4 c0 c1 f1))
              have HR6 := hidK (rangeAt_block HR5.out (Below.heap_setCell w5 ⟨w.heap.size + 1, 1, none⟩ (.slice (some ⟨g4, 0, none⟩) (s.2.length + 1) cap4) B9 (by show B9 ≠ w.heap.size + 1; omega)))
              clear m1 n1
              generalize w5.setCell ⟨w.heap.size + 1, 1, none⟩ (.slice (some ⟨g4, 0, none⟩) (s.2.length + 1) cap4) = W6 at *
              have c0 := HB5.out.c0
              have f0 := HB5.out.fz 0
              have hz6 := HB5.out.hz
              as_aux_lemma =>
              go_wp2_with (first | (refine wpList_load_mid rfl 109 (.tmp 9) rfl B9 0 rfl X.cells _ HR6.out Try.underlying109 rfl Try.knodeSize ?_) | (refine Try.wpBuildNode rfl (.tmp 85) rfl X rfl ?_) | (at_builtin; refine wpList_app1 W6 rfl (.tmp 84) (.tmp 86) 47 rfl (w.heap.size + 2) 109 (.agg #[.int .i64 0, .int .u8 0, .int .u8 0, .int .i64 0, .int .i64 0, .string ⟨#[]⟩, .string ⟨#[]⟩, .int .i64 0, .int .i64 0]) 9 80 Try.underlying47 Try.infoKNode Try.zKNode (by decide) (by decide) (.slice aA s.1.length cA) s.1.length (nodesC s.1) X.cells _ rfl HB5.out.ra _ rfl rfl rfl (Try.oneX X) (by omega) (by omega) ?_; intro g7 cap7 w7 hown7 hgrow7 hat7 hlt7; have HB7 := hidK (HB5.out.moreA X hown7 hgrow7 hat7); have m0 := (grow_cell hgrow7 (k := w.heap.size + 1) (by omega) (fun e => by have := (HB5.out.ra.lt _ e.symm).1; omega)).1 0; have n0 := (grow_cell hgrow7 (k := w.heap.size + 1) (by omega) (fun e => by have := (HB5.out.ra.lt _ e.symm).1; omega)).2 0; rw [c0] at m0; rw [f0] at n0; clear hown7 hgrow7 hat7 hlt7 c0 f0))
              go_roundw
              case rel => exact ⟨k + 1, _, _, hlt, by go_num, by rw [HNX.out, HST.out]; exact HB7.out⟩
              case measure => simp [intOf]; omega
            · obtain ⟨j1, hj1⟩ : ∃ j1, s.2.length = j1 + 1 := ⟨s.2.length - 1, by omega⟩
              obtain ⟨j2, hj2⟩ : ∃ j2, s.2.length = j2 + 2 := ⟨s.2.length - 2, by omega⟩
              have e1 : decide ((2 : Int) ≤ (s.2.length : Int)) = true := by simp; omega
              have e2 : decide ((s.2.length : Int) < 2) = false := by simp; omega
              have hL2 : (s.2.length : Int) - 2 = (j2 : Int) := by omega
              have wj2 : IntKind.i64.wrap (j2 : Int) = (j2 : Int) := IntWalk.i64_in _ (by omega)
              have h21 : j2 + 1 = j1 := by omega
              have H21 := hidK h21
              clear h21
              have hL1 : (s.2.length : Int) - 1 = (j1 : Int) := by omega
              have hI1 : (0 : Int) ≤ (j1 : Int) ∧ (j1 : Int) < (s.2.length : Int) := by omega
              have wj : IntKind.i64.wrap (j1 : Int) = (j1 : Int) := IntWalk.i64_in _ (by omega)
              obtain ⟨gt, cT', hfT, _, _⟩ := hbi.out.rt.form (by omega)
              injection hfT with hfT1 hfT2 hfT3
              subst hfT1 hfT3
              obtain ⟨x, x1, x2, x3, x4⟩ := HPB.out.top (j := j1) (by omega)
              obtain ⟨ga, cA', hfA, _, _⟩ := hbi.out.ra.form (by have := HPB.out.ok j1 _ x1; omega)
              injection hfA with hfA1 hfA2 hfA3
              subst hfA1 hfA3
              clear hfT2 hfA2
              have htb := HPB.out.ok j1 _ x1
              generalize htbe : s.2.getD j1 0 = tb at *
              have HTE := hidK htbe
              clear htbe
              have HRI := hidK (hbi.out.ruin HPB.out.ok)
              have it := HRI.out.tp j1 tb x1
              have ox := HRI.out.nd tb x x2 6 _ rfl
              have htbI : (0 : Int) ≤ (tb : Int) ∧ (tb : Int) < (s.1.length : Int) := by omega
              have HX3 : Hid (ndA s (s.2.length - 1) = x) := by unfold Hid; rw [show s.2.length - 1 = j1 by omega]; exact x3
              obtain ⟨y, y1, y2, y3, y4⟩ := HPB.out.top (j := j2) (by omega)
              have hta := HPB.out.ok j2 _ y1
              generalize htae : s.2.getD j2 0 = ta at *
              have HTAE := hidK htae
              clear htae
              have HY3 : Hid (ndA s (s.2.length - 2) = y) := by unfold Hid; rw [show s.2.length - 2 = j2 by omega]; exact y3
              clear y3
              replace hj2 := hidK hj2
              have hjm2 : j2 + 2 ≤ s.2.length := by have := hj2.out; omega
              have hjm3 : s.2.length ≤ j2 + 2 := by have := hj2.out; omega
              replace hj1 := hidK hj1
              have hjl : j1 < s.2.length := by have := hj1.out; omega
              have hjl2 : s.2.length ≤ j1 + 1 := by have := hj1.out; omega
              clear hn1
              by_cases hl : 200 < x.tr.oth.length
              · have dl : decide ((200 : Int) < ((bA x.tr.oth).size : Int)) = true := by rw [bA_size]; simp; omega
                have HN0 : Hid (needP s ⟨kd, oa, ob'⟩ = 0) := by
                  unfold Hid; rw [HLP.out, if_pos (.inr (by rw [HLB.out, decide_eq_true_eq, HND.out, HX3.out]; exact ⟨by omega, by omega, hl⟩))]
                clear hl x3
                go_upto_region 12 with fail
                go_quiet (fail)
                as_aux_lemma =>
                go_upto_region 15 with fail
                go_wp2_with fail
                refine (kleaf_any ⟨kd, oa, ob'⟩ HOK.out _).mono ?_
                rintro e w2 ⟨rfl, hb2⟩
                have HB2 := hidK (hbi.out.below ((bdN (Below.refl wr.heap.size wr) _).trans hb2))
                obtain ⟨X, hX⟩ : ∃ X, leafP ⟨kd, oa, ob'⟩ = X := ⟨_, rfl⟩
                rw [hX]
                have eX : X.cells.toArray = #[.int .i64 (X.k : Int), .int .u8 (X.a : Int), .int .u8 (X.b : Int), .int .i64 (X.l : Int), .int .i64 (X.r : Int), .string (bA X.tr.txt), .string (bA X.tr.oth), .int .i64 (X.tr.pls : Int), .int .i64 (X.tr.mor : Int)] := rfl
                rw [eX]
                have HXN : Hid (newP s ⟨kd, oa, ob'⟩ = X) := by unfold Hid; rw [HNW.out, HN0.out, if_neg (by omega)]; exact hX
                have HB3 : Hid (BI w (w2.alloc (.cells #[.int .i64 (X.k : Int), .int .u8 (X.a : Int), .int .u8 (X.b : Int), .int .i64 (X.l : Int), .int .i64 (X.r : Int), .string (bA X.tr.txt), .string (bA X.tr.oth), .int .i64 (X.tr.pls : Int), .int .i64 (X.tr.mor : Int)] 109)) (.slice (some ⟨ga, 0, none⟩) s.1.length cA) (.slice (some ⟨gt, 0, none⟩) s.2.length cT) s) := HB2.out.below ((Below.refl _ _).alloc (Nat.le_refl _) _)
                have HR9 : Hid ((w2.alloc (.cells #[.int .i64 (X.k : Int), .int .u8 (X.a : Int), .int .u8 (X.b : Int), .int .i64 (X.l : Int), .int .i64 (X.r : Int), .string (bA X.tr.txt), .string (bA X.tr.oth), .int .i64 (X.tr.pls : Int), .int .i64 (X.tr.mor : Int)] 109)).rangeAt w2.heap.size 0 X.cells) := rangeAt_newL w2 X.cells 109
                have HT9 : Hid (∀ k, (Value.slice (some ⟨gt, 0, none⟩) s.2.length cT).ownBlock = some k → k < w2.heap.size) := fun k hk => (HB2.out.rt.lt k hk).2
                have HA9 : Hid (∀ k, (Value.slice (some ⟨ga, 0, none⟩) s.1.length cA).ownBlock = some k → k < w2.heap.size) := fun k hk => (HB2.out.ra.lt k hk).2
                have hz2 := HB2.out.hz
                have hz3 : w2.heap.size + 1 = (w2.alloc (.cells #[.int .i64 (X.k : Int), .int .u8 (X.a : Int), .int .u8 (X.b : Int), .int .i64 (X.l : Int), .int .i64 (X.r : Int), .string (bA X.tr.txt), .string (bA X.tr.oth), .int .i64 (X.tr.pls : Int), .int .i64 (X.tr.mor : Int)] 109)).heap.size := by simp
                clear hX hb2 k0 k1 k2 c0 c1 f0 f1
                go_upto_region 18 with fail
                generalize w2.alloc (.cells #[.int .i64 (X.k : Int), .int .u8 (X.a : Int), .int .u8 (X.b : Int), .int .i64 (X.l : Int), .int .i64 (X.r : Int), .string (bA X.tr.txt), .string (bA X.tr.oth), .int .i64 (X.tr.pls : Int), .int .i64 (X.tr.mor : Int)] 109) = W3 at *
                generalize w2.heap.size = B9 at *
                have c0 := HB3.out.c0
                have c1 := HB3.out.c1
                have f1 := HB3.out.fz 1
                have hcT := row_cap HB3.out.rt
                have haz := addr_zero (some ⟨gt, 0, none⟩)
                have wsub : IntKind.i64.wrap (s.2.length : Int) = (s.2.length : Int) := IntWalk.i64_in _ (by omega)
                as_aux_lemma =>
                go_upto_region 19 with fail
                have HST : Hid (stepP s ⟨kd, oa, ob'⟩ = (s.1 ++ [X], s.2 ++ [s.1.length])) := by
                  unfold Hid stepP; rw [HXN.out, HN0.out, Nat.sub_zero, List.take_length]
                have HB4 := hidK (HB3.out.shrink (Nat.le_refl s.2.length))
                rw [List.take_length] at HB4
                have HR4 := hidK (rangeAt_block HR9.out (Below.heap_setCell W3 ⟨w.heap.size + 1, 1, none⟩ (.slice (some ⟨gt, 0, none⟩) s.2.length cT) B9 (by show B9 ≠ w.heap.size + 1; omega)))
                have hz4' : B9 + 1 ≤ (W3.setCell ⟨w.heap.size + 1, 1, none⟩ (.slice (some ⟨gt, 0, none⟩) s.2.length cT)).heap.size := by simp [World.setCell]; omega
                clear c0 c1 f1 HB3
                generalize W3.setCell ⟨w.heap.size + 1, 1, none⟩ (.slice (some ⟨gt, 0, none⟩) s.2.length cT) = W4 at *
                have hl4 : s.2.length ≤ 1100000 := by omega
                have c0 := HB4.out.c0
                have c1 := HB4.out.c1
                have f1 := HB4.out.fz 1
                have hz4 := HB4.out.hz
                as_aux_lemma =>
                go_upto_region 20 with (first | (at_builtin; refine wpList_app1 W4 rfl (.tmp 76) (.tmp 80) 30 rfl (w.heap.size + 2) 3 (.int .i64 0) 1 8 Try.underlying30 Try.infoInt1 rfl (by decide) (by decide) (.slice (some ⟨gt, 0, none⟩) s.2.length cT) s.2.length (topsC s.2) [.int .i64 (s.1.length : Int)] _ rfl HB4.out.rt _ rfl rfl rfl (by simp [Value.oneCell']) (by omega) (by omega) ?_; intro g4 cap4 w5 hown4 hgrow4 hat4 hlt4; have HB5 := hidK (HB4.out.moreT s.1.length hown4 hgrow4 hat4); have HR5 := hidK (rangeAt_block HR4.out ((hgrow4.block B9 (by simp; omega) (fun e => by have := HT9.out B9 e.symm; omega)).trans (Below.heap_alloc W4 _ B9 (by omega)))); have m1 := (grow_cell hgrow4 (k := w.heap.size + 1) (by omega) (fun e => by have := (HB4.out.rt.lt _ e.symm).1; omega)).1 1; have n1 := (grow_cell hgrow4 (k := w.heap.size + 1) (by omega) (fun e => by have := (HB4.out.rt.lt _ e.symm).1; omega)).2 1; rw [c1] at m1; rw [f1] at n1; have hz5 := hgrow4.size; clear hown4 hgrow4 hat4 hlt4 c0 c1 f1))
                have HR6 := hidK (rangeAt_block HR5.out (Below.heap_setCell w5 ⟨w.heap.size + 1, 1, none⟩ (.slice (some ⟨g4, 0, none⟩) (s.2.length + 1) cap4) B9 (by show B9 ≠ w.heap.size + 1; omega)))
                clear m1 n1
                generalize w5.setCell ⟨w.heap.size + 1, 1, none⟩ (.slice (some ⟨g4, 0, none⟩) (s.2.length + 1) cap4) = W6 at *
                have c0 := HB5.out.c0
                have f0 := HB5.out.fz 0
                have hz6 := HB5.out.hz
                as_aux_lemma =>
                go_wp2_with (first | (refine wpList_load_mid rfl 109 (.tmp 9) rfl B9 0 rfl X.cells _ HR6.out Try.underlying109 rfl Try.knodeSize ?_) | (refine Try.wpBuildNode rfl (.tmp 85) rfl X rfl ?_) | (at_builtin; refine wpList_app1 W6 rfl (.tmp 84) (.tmp 86) 47 rfl (w.heap.size + 2) 109 (.agg #[.int .i64 0, .int .u8 0, .int .u8 0, .int .i64 0, .int .i64 0, .string ⟨#[]⟩, .string ⟨#[]⟩, .int .i64 0, .int .i64 0]) 9 80 Try.underlying47 Try.infoKNode Try.zKNode (by decide) (by decide) (.slice (some ⟨ga, 0, none⟩) s.1.length cA) s.1.length (nodesC s.1) X.cells _ rfl HB5.out.ra _ rfl rfl rfl (Try.oneX X) (by omega) (by omega) ?_; intro g7 cap7 w7 hown7 hgrow7 hat7 hlt7; have HB7 := hidK (HB5.out.moreA X hown7 hgrow7 hat7); have m0 := (grow_cell hgrow7 (k := w.heap.size + 1) (by omega) (fun e => by have := (HB5.out.ra.lt _ e.symm).1; omega)).1 0; have n0 := (grow_cell hgrow7 (k := w.heap.size + 1) (by omega) (fun e => by have := (HB5.out.ra.lt _ e.symm).1; omega)).2 0; rw [c0] at m0; rw [f0] at n0; clear hown7 hgrow7 hat7 hlt7 c0 f0))
                go_roundw
                case rel => exact ⟨k + 1, _, _, hlt, by go_num, by rw [HNX.out, HST.out]; exact HB7.out⟩
                case measure => simp [intOf]; omega
              · have dl : decide ((200 : Int) < ((bA x.tr.oth).size : Int)) = false := by rw [bA_size]; simp; omega
                have HN1 : Hid (needP s ⟨kd, oa, ob'⟩ = 2) := by
                  unfold Hid
                  rw [HLP.out, if_neg, HND.out]
                  rintro (h1 | h1)
                  · rw [HND.out] at h1; omega
                  · rw [HLB.out, decide_eq_true_eq, HX3.out] at h1; exact hl h1.2.2
                have hl2 : x.tr.oth.length ≤ 200 := by omega
                clear hl x3
                have HNW' : Hid (newP s ⟨kd, oa, ob'⟩ = if 0 < needP s ⟨kd, oa, ob'⟩ then madeP p ta tb y.tr x.tr else leafP ⟨kd, oa, ob'⟩) := by
                  unfold Hid; rw [HNW.out, HX3.out, HY3.out, show s.2.length - 1 = j1 by omega, HTE.out, show s.2.length - 2 = j2 by omega, HTAE.out]
                go_upto_region 12 with fail
                go_quiet (fail)
                as_aux_lemma =>
                go_upto_region 15 with fail
                go_wp2_with fail
                refine (kleaf_any ⟨kd, oa, ob'⟩ HOK.out _).mono ?_
                rintro e w2 ⟨rfl, hb2⟩
                have HB2 := hidK (hbi.out.below ((bdN (Below.refl wr.heap.size wr) _).trans hb2))
                obtain ⟨X0, hX0⟩ : ∃ X, leafP ⟨kd, oa, ob'⟩ = X := ⟨_, rfl⟩
                rw [hX0]
                have eX0 : X0.cells.toArray = #[.int .i64 (X0.k : Int), .int .u8 (X0.a : Int), .int .u8 (X0.b : Int), .int .i64 (X0.l : Int), .int .i64 (X0.r : Int), .string (bA X0.tr.txt), .string (bA X0.tr.oth), .int .i64 (X0.tr.pls : Int), .int .i64 (X0.tr.mor : Int)] := rfl
                rw [eX0]
                have HB3 : Hid (BI w (w2.alloc (.cells #[.int .i64 (X0.k : Int), .int .u8 (X0.a : Int), .int .u8 (X0.b : Int), .int .i64 (X0.l : Int), .int .i64 (X0.r : Int), .string (bA X0.tr.txt), .string (bA X0.tr.oth), .int .i64 (X0.tr.pls : Int), .int .i64 (X0.tr.mor : Int)] 109)) (.slice (some ⟨ga, 0, none⟩) s.1.length cA) (.slice (some ⟨gt, 0, none⟩) s.2.length cT) s) := HB2.out.below ((Below.refl _ _).alloc (Nat.le_refl _) _)
                have HTH : Hid ((w2.alloc (.cells #[.int .i64 (X0.k : Int), .int .u8 (X0.a : Int), .int .u8 (X0.b : Int), .int .i64 (X0.l : Int), .int .i64 (X0.r : Int), .string (bA X0.tr.txt), .string (bA X0.tr.oth), .int .i64 (X0.tr.pls : Int), .int .i64 (X0.tr.mor : Int)] 109)).there w2.heap.size 0 9) := there_newA _ _ _ _ _ rfl rfl
                have HT9 : Hid (∀ k, (Value.slice (some ⟨gt, 0, none⟩) s.2.length cT).ownBlock = some k → k < w2.heap.size) := fun k hk => (HB2.out.rt.lt k hk).2
                have HA9 : Hid (∀ k, (Value.slice (some ⟨ga, 0, none⟩) s.1.length cA).ownBlock = some k → k < w2.heap.size) := fun k hk => (HB2.out.ra.lt k hk).2
                have hz2 := HB2.out.hz
                have hz3 : w2.heap.size + 1 = (w2.alloc (.cells #[.int .i64 (X0.k : Int), .int .u8 (X0.a : Int), .int .u8 (X0.b : Int), .int .i64 (X0.l : Int), .int .i64 (X0.r : Int), .string (bA X0.tr.txt), .string (bA X0.tr.oth), .int .i64 (X0.tr.pls : Int), .int .i64 (X0.tr.mor : Int)] 109)).heap.size := by simp
                clear hX0 hb2 k0 k1 k2 c0 c1 f0 f1 it ox
                go_upto_region 17 with fail
                generalize w2.alloc (.cells #[.int .i64 (X0.k : Int), .int .u8 (X0.a : Int), .int .u8 (X0.b : Int), .int .i64 (X0.l : Int), .int .i64 (X0.r : Int), .string (bA X0.tr.txt), .string (bA X0.tr.oth), .int .i64 (X0.tr.pls : Int), .int .i64 (X0.tr.mor : Int)] 109) = W3 at *
                generalize w2.heap.size = B9 at *
                have c0 := HB3.out.c0
                have c1 := HB3.out.c1
                have HR3 := hidK (HB3.out.ruin HPB.out.ok)
                as_aux_lemma =>
                go_wp2_with fail
                have hk5 := kmade3 p (by omega) (by omega) ga gt cA cT tb s.2.length j1 j2 s.1.length hj1.out.symm hj2.out.symm x y ta W3 (by omega) (by omega) htb (HR3.out.nd tb x x2) (HR3.out.tp j1 tb x1) hta (HR3.out.nd ta y y2) (HR3.out.tp j2 ta y1) HR3.out.ba HR3.out.bt (by have := txt_le x.tr; omega) (by have := txt_le x.tr; omega) (by rw [bA_size]; have := txt_le x.tr; omega) (by rw [bA_size]; omega) (by have := txt_le y.tr; omega) (by have := txt_le y.tr; omega) (by rw [bA_size]; have := txt_le y.tr; omega) (by rw [bA_size]; omega)
                refine hk5.mono ?_
                rintro e w3 ⟨rfl, hb3⟩
                have HB3b := hidK (HB3.out.below hb3)
                have HTH2 := hidK (there_below HTH.out hb3 (by omega))
                have hz3b := hb3.size
                obtain ⟨X, hX⟩ : ∃ X, madeP p ta tb y.tr x.tr = X := ⟨_, rfl⟩
                rw [hX]
                have HXN : Hid (newP s ⟨kd, oa, ob'⟩ = X) := by unfold Hid; rw [HNW'.out, HN1.out, if_pos (by omega)]; exact hX
                clear hX hb3 c0 c1
                go_upto_region 18 with (first | (refine wpList_store_mid rfl 109 (.tmp 9) (.tmp 67) rfl B9 0 X.cells.toArray rfl rfl HTH2.out Try.knodeSize (all_oneCell_toArray (Try.oneX X)) ?_))
                have HB3c := hidK (HB3b.out.put (by omega) HA9.out HT9.out X.cells.toArray.toList)
                have HR9 : Hid ((w3.setCells B9 0 X.cells.toArray.toList).rangeAt B9 0 X.cells) := World.rangeAt_setCells_same w3 B9 0 X.cells HTH2.out
                have hz3c : w3.heap.size ≤ (w3.setCells B9 0 X.cells.toArray.toList).heap.size := (below_setCells X.cells.toArray.toList 0 w3 B9 (Below.refl 0 w3) (Nat.zero_le _)).size
                generalize w3.setCells B9 0 X.cells.toArray.toList = W3c at *
                have c0 := HB3c.out.c0
                have c1 := HB3c.out.c1
                have f1 := HB3c.out.fz 1
                have hcT := row_cap HB3c.out.rt
                have hcJ : j2 ≤ cT := by omega
                have haz := addr_zero (some ⟨gt, 0, none⟩)
                as_aux_lemma =>
                go_upto_region 19 with fail
                have HST : Hid (stepP s ⟨kd, oa, ob'⟩ = (s.1 ++ [X], s.2.take j2 ++ [s.1.length])) := by
                  unfold Hid stepP; rw [HXN.out, HN1.out, show s.2.length - 2 = j2 by omega]
                have HJ4 : Hid ((s.2.take j2).length = j2) := by unfold Hid; rw [List.length_take]; omega
                have HB4 := hidK (HB3c.out.shrink (show j2 ≤ s.2.length by omega))
                have HR4 := hidK (rangeAt_block HR9.out (Below.heap_setCell W3c ⟨w.heap.size + 1, 1, none⟩ (.slice (some ⟨gt, 0, none⟩) j2 cT) B9 (by show B9 ≠ w.heap.size + 1; omega)))
                have hz4' : B9 + 1 ≤ (W3c.setCell ⟨w.heap.size + 1, 1, none⟩ (.slice (some ⟨gt, 0, none⟩) j2 cT)).heap.size := by simp [World.setCell]; omega
                clear c0 c1 f1 HB3c
                generalize W3c.setCell ⟨w.heap.size + 1, 1, none⟩ (.slice (some ⟨gt, 0, none⟩) j2 cT) = W4 at *
                have HRT : Hid (W4.ownsRow (w.heap.size + 2) 3 1 (.slice (some ⟨gt, 0, none⟩) j2 cT) j2 (topsC (s.2.take j2))) := by
                  have := HB4.out.rt
                  rw [show (s.1, s.2.take j2).2 = s.2.take j2 from rfl, HJ4.out] at this
                  exact this
                have hl4 : j2 ≤ 1100000 := by omega
                have c0 := HB4.out.c0
                have c1 := HB4.out.c1
                have f1 := HB4.out.fz 1
                have hz4 := HB4.out.hz
                as_aux_lemma =>
                go_upto_region 20 with (first | (at_builtin; refine wpList_app1 W4 rfl (.tmp 76) (.tmp 80) 30 rfl (w.heap.size + 2) 3 (.int .i64 0) 1 8 Try.underlying30 Try.infoInt1 rfl (by decide) (by decide) (.slice (some ⟨gt, 0, none⟩) j2 cT) j2 (topsC (s.2.take j2)) [.int .i64 (s.1.length : Int)] _ rfl HRT.out _ rfl rfl rfl (by simp [Value.oneCell']) (by omega) (by omega) ?_; intro g4 cap4 w5 hown4 hgrow4 hat4 hlt4; have HB5 := hidK (HB4.out.moreT' s.1.length HJ4.out hown4 hgrow4 hat4); have HR5 := hidK (rangeAt_block HR4.out ((hgrow4.block B9 (by simp; omega) (fun e => by have := HT9.out B9 e.symm; omega)).trans (Below.heap_alloc W4 _ B9 (by omega)))); have m1 := (grow_cell hgrow4 (k := w.heap.size + 1) (by omega) (fun e => by have := (HB4.out.rt.lt _ e.symm).1; omega)).1 1; have n1 := (grow_cell hgrow4 (k := w.heap.size + 1) (by omega) (fun e => by have := (HB4.out.rt.lt _ e.symm).1; omega)).2 1; rw [c1] at m1; rw [f1] at n1; have hz5 := hgrow4.size; clear hown4 hgrow4 hat4 hlt4 c0 c1 f1))
                have HR6 := hidK (rangeAt_block HR5.out (Below.heap_setCell w5 ⟨w.heap.size + 1, 1, none⟩ (.slice (some ⟨g4, 0, none⟩) (j2 + 1) cap4) B9 (by show B9 ≠ w.heap.size + 1; omega)))
                clear m1 n1
                generalize w5.setCell ⟨w.heap.size + 1, 1, none⟩ (.slice (some ⟨g4, 0, none⟩) (j2 + 1) cap4) = W6 at *
                have c0 := HB5.out.c0
                have f0 := HB5.out.fz 0
                have hz6 := HB5.out.hz
                as_aux_lemma =>
                go_wp2_with (first | (refine wpList_load_mid rfl 109 (.tmp 9) rfl B9 0 rfl X.cells _ HR6.out Try.underlying109 rfl Try.knodeSize ?_) | (refine Try.wpBuildNode rfl (.tmp 85) rfl X rfl ?_) | (at_builtin; refine wpList_app1 W6 rfl (.tmp 84) (.tmp 86) 47 rfl (w.heap.size + 2) 109 (.agg #[.int .i64 0, .int .u8 0, .int .u8 0, .int .i64 0, .int .i64 0, .string ⟨#[]⟩, .string ⟨#[]⟩, .int .i64 0, .int .i64 0]) 9 80 Try.underlying47 Try.infoKNode Try.zKNode (by decide) (by decide) (.slice (some ⟨ga, 0, none⟩) s.1.length cA) s.1.length (nodesC s.1) X.cells _ rfl HB5.out.ra _ rfl rfl rfl (Try.oneX X) (by omega) (by omega) ?_; intro g7 cap7 w7 hown7 hgrow7 hat7 hlt7; have HB7 := hidK (HB5.out.moreA X hown7 hgrow7 hat7); have m0 := (grow_cell hgrow7 (k := w.heap.size + 1) (by omega) (fun e => by have := (HB5.out.ra.lt _ e.symm).1; omega)).1 0; have n0 := (grow_cell hgrow7 (k := w.heap.size + 1) (by omega) (fun e => by have := (HB5.out.ra.lt _ e.symm).1; omega)).2 0; rw [c0] at m0; rw [f0] at n0; clear hown7 hgrow7 hat7 hlt7 c0 f0))
                go_roundw
                case rel => exact ⟨k + 1, _, _, hlt, by go_num, by rw [HNX.out, HST.out]; exact HB7.out⟩
                case measure => simp [intOf]; omega
      · have e : k = ops.length := by omega
        subst e
        replace hbi := hidK hbi
        go_wp2
        go_meet
        case rel => exact ⟨vA, vT, hbi.out⟩
  case rest =>
    obtain ⟨vA, vT, hbi⟩ := hcut
    have HPB := hidK (buildK_ok ops ops.length (Nat.le_refl _))
    have HBP : Hid (builtP ops = if (buildK ops ops.length).2.length = 0 then ((buildK ops ops.length).1 ++ [leafP ⟨0, 0, 0⟩], [0]) else buildK ops ops.length) := rfl
    have hal : (buildK ops ops.length).1.length ≤ 1100000 := by have := HPB.out.al; omega
    have htl : (buildK ops ops.length).2.length ≤ 1100000 := by have := HPB.out.tl; omega
    generalize buildK ops ops.length = s at *
    obtain ⟨aA, cA, rfl⟩ := rowSlice hbi.ra
    obtain ⟨aT, cT, rfl⟩ := rowSlice hbi.rt
    have c0 := hbi.c0
    have c1 := hbi.c1
    replace hbi := hidK hbi
    go_upto_if 92 with fail
    go_cut [10] from 89 to 105 (fun _ wc => ∃ ga ca gt ct, BI w wc (.slice (some ⟨ga, 0, none⟩) (builtP ops).1.length ca) (.slice (some ⟨gt, 0, none⟩) (builtP ops).2.length ct) (builtP ops) ∧ ∀ (j t : Nat), (builtP ops).2[j]? = some t → t < (builtP ops).1.length)
    case first =>
      by_cases h0 : s.2.length = 0
      · have d0 : ((s.2.length : Int) == 0) = true := by rw [h0]; rfl
        have HBE : Hid (builtP ops = (s.1 ++ [leafP ⟨0, 0, 0⟩], [0])) := by unfold Hid; rw [HBP.out, if_pos h0]
        have HS0' : Hid (s.2 = []) := List.length_eq_zero_iff.1 h0
        clear h0
        go_wp2_with fail
        refine (kleaf_any ⟨0, 0, 0⟩ ⟨⟨by show (_ : Int) ≤ 0; omega, by show (0 : Int) ≤ _; omega⟩, ⟨by show (_ : Int) ≤ 0; omega, by show (0 : Int) ≤ _; omega⟩, ⟨by show (_ : Int) ≤ 0; omega, by show (0 : Int) ≤ _; omega⟩⟩ _).mono ?_
        rintro e w2 ⟨rfl, hb2⟩
        have HB2 := hidK (hbi.out.below hb2)
        obtain ⟨X, hX⟩ : ∃ X, leafP ⟨0, 0, 0⟩ = X := ⟨_, rfl⟩
        rw [hX] at HBE ⊢
        have eX : X.cells.toArray = #[.int .i64 (X.k : Int), .int .u8 (X.a : Int), .int .u8 (X.b : Int), .int .i64 (X.l : Int), .int .i64 (X.r : Int), .string (bA X.tr.txt), .string (bA X.tr.oth), .int .i64 (X.tr.pls : Int), .int .i64 (X.tr.mor : Int)] := rfl
        rw [eX]
        have HB3 : Hid (BI w (w2.alloc (.cells #[.int .i64 (X.k : Int), .int .u8 (X.a : Int), .int .u8 (X.b : Int), .int .i64 (X.l : Int), .int .i64 (X.r : Int), .string (bA X.tr.txt), .string (bA X.tr.oth), .int .i64 (X.tr.pls : Int), .int .i64 (X.tr.mor : Int)] 109)) (.slice aA s.1.length cA) (.slice aT s.2.length cT) s) := HB2.out.below ((Below.refl _ _).alloc (Nat.le_refl _) _)
        have HR9 : Hid ((w2.alloc (.cells #[.int .i64 (X.k : Int), .int .u8 (X.a : Int), .int .u8 (X.b : Int), .int .i64 (X.l : Int), .int .i64 (X.r : Int), .string (bA X.tr.txt), .string (bA X.tr.oth), .int .i64 (X.tr.pls : Int), .int .i64 (X.tr.mor : Int)] 109)).rangeAt w2.heap.size 0 X.cells) := rangeAt_newL w2 X.cells 109
        have hz2 := HB2.out.hz
        have hz3 : w2.heap.size + 1 = (w2.alloc (.cells #[.int .i64 (X.k : Int), .int .u8 (X.a : Int), .int .u8 (X.b : Int), .int .i64 (X.l : Int), .int .i64 (X.r : Int), .string (bA X.tr.txt), .string (bA X.tr.oth), .int .i64 (X.tr.pls : Int), .int .i64 (X.tr.mor : Int)] 109)).heap.size := by simp
        clear hX hb2 c0 c1 d0
        go_upto_region 23 with fail
        generalize w2.alloc (.cells #[.int .i64 (X.k : Int), .int .u8 (X.a : Int), .int .u8 (X.b : Int), .int .i64 (X.l : Int), .int .i64 (X.r : Int), .string (bA X.tr.txt), .string (bA X.tr.oth), .int .i64 (X.tr.pls : Int), .int .i64 (X.tr.mor : Int)] 109) = W3 at *
        generalize w2.heap.size = B9 at *
        have c0 := HB3.out.c0
        have f0 := HB3.out.fz 0
        as_aux_lemma =>
        go_upto_region 24 with (first | (refine wpList_load_mid rfl 109 (.tmp 10) rfl B9 0 rfl X.cells _ HR9.out Try.underlying109 rfl Try.knodeSize ?_) | (refine Try.wpBuildNode rfl (.tmp 97) rfl X rfl ?_) | (at_builtin; refine wpList_app1 W3 rfl (.tmp 96) (.tmp 98) 47 rfl (w.heap.size + 2) 109 (.agg #[.int .i64 0, .int .u8 0, .int .u8 0, .int .i64 0, .int .i64 0, .string ⟨#[]⟩, .string ⟨#[]⟩, .int .i64 0, .int .i64 0]) 9 80 Try.underlying47 Try.infoKNode Try.zKNode (by decide) (by decide) (.slice aA s.1.length cA) s.1.length (nodesC s.1) X.cells _ rfl HB3.out.ra _ rfl rfl rfl (Try.oneX X) (by omega) (by omega) ?_; intro g7 cap7 w7 hown7 hgrow7 hat7 hlt7; have HB5 := hidK (HB3.out.moreA X hown7 hgrow7 hat7); have m0 := (grow_cell hgrow7 (k := w.heap.size + 1) (by omega) (fun e => by have := (HB3.out.ra.lt _ e.symm).1; omega)).1 0; have n0 := (grow_cell hgrow7 (k := w.heap.size + 1) (by omega) (fun e => by have := (HB3.out.ra.lt _ e.symm).1; omega)).2 0; rw [c0] at m0; rw [f0] at n0; clear hown7 hgrow7 hat7 hlt7 c0 f0))
        clear m0 n0
        generalize w7.setCell ⟨w.heap.size + 1, 0, none⟩ (.slice (some ⟨g7, 0, none⟩) (s.1.length + 1) cap7) = W6 at *
        have c1 := HB5.out.c1
        have f1 := HB5.out.fz 1
        have hz6 := HB5.out.hz
        as_aux_lemma =>
        go_wp2_with (first | (at_builtin; refine wpList_app1 W6 rfl (.tmp 102) (.tmp 103) 30 rfl (w.heap.size + 2) 3 (.int .i64 0) 1 8 Try.underlying30 Try.infoInt1 rfl (by decide) (by decide) (.slice aT s.2.length cT) s.2.length (topsC s.2) [.int .i64 0] _ rfl HB5.out.rt _ rfl rfl rfl (by simp [Value.oneCell']) (by omega) (by omega) ?_; intro g4 cap4 w5 hown4 hgrow4 hat4 hlt4; have HB7 := hidK (HB5.out.moreT 0 hown4 hgrow4 hat4); have m1 := (grow_cell hgrow4 (k := w.heap.size + 1) (by omega) (fun e => by have := (HB5.out.rt.lt _ e.symm).1; omega)).1 1; have n1 := (grow_cell hgrow4 (k := w.heap.size + 1) (by omega) (fun e => by have := (HB5.out.rt.lt _ e.symm).1; omega)).2 1; rw [c1] at m1; rw [f1] at n1; clear hown4 hgrow4 hat4 hlt4 c1 f1))
        go_meet
        case rel =>
          have e1 : ([0] : List Nat) = s.2 ++ [0] := by rw [HS0'.out]; rfl
          have e2 : (s.1 ++ [X]).length = s.1.length + 1 := by simp
          have e3 : (s.2 ++ [0]).length = s.2.length + 1 := by simp
          refine ⟨g7, cap7, g4, cap4, ?_, ?_⟩
          · rw [HBE.out]
            show BI w _ (.slice _ (s.1 ++ [X]).length _) (.slice _ ([0] : List Nat).length _) (s.1 ++ [X], [0])
            rw [e1, e2, e3]
            exact HB7.out
          · rw [HBE.out]
            intro j t hj
            have := List.mem_of_getElem? hj
            have ht : t = 0 := by simpa using this
            show t < (s.1 ++ [X]).length
            rw [e2]; omega
      · have d0 : ((s.2.length : Int) == 0) = false := by rw [beq_eq_false_iff_ne]; omega
        have HBE : Hid (builtP ops = s) := by unfold Hid; rw [HBP.out, if_neg h0]
        obtain ⟨gt, cT', hfT, _, _⟩ := hbi.out.rt.form (by omega)
        injection hfT with hfT1 hfT2 hfT3
        subst hfT1 hfT3
        obtain ⟨x, x1, _⟩ := HPB.out.top (j := 0) (by omega)
        obtain ⟨ga, cA', hfA, _, _⟩ := hbi.out.ra.form (by have := HPB.out.ok 0 _ x1; omega)
        injection hfA with hfA1 hfA2 hfA3
        subst hfA1 hfA3
        clear hfT2 hfA2 h0
        go_wp2
        go_meet
        case rel => exact ⟨ga, cA, gt, cT, by rw [HBE.out]; exact hbi.out, by rw [HBE.out]; exact HPB.out.ok⟩
    case rest =>
      obtain ⟨ga, ca, gt, ct, hbf, hokf⟩ := hcut
      have c0 := hbf.c0
      have c1 := hbf.c1
      obtain ⟨z0, hz0⟩ := Option.isSome_iff_exists.1 (hbf.th 0 (by omega)).1
      obtain ⟨z1, hz1⟩ := Option.isSome_iff_exists.1 (hbf.th 1 (by omega)).1
      have y0 := (hbf.th 0 (by omega)).2
      have y1 := (hbf.th 1 (by omega)).2
      rw [Nat.zero_add] at hz0 hz1 y0 y1
      have HRF := hidK (hbf.ruin hokf)
      have HGA := hidK (hbf.ra.lt ga rfl).1
      have HGT := hidK (hbf.rt.lt gt rfl).1
      replace hbf := hidK hbf
      replace hokf := hidK hokf
      clear hbi
      go_wp2_with fail
      refine ret_cell1 Try.results28 w.heap.size 0 [.slice (some ⟨ga, 0, none⟩) (builtP ops).1.length ca, .slice (some ⟨gt, 0, none⟩) (builtP ops).2.length ct] _ rfl (World.rangeAt_setCells_same _ w.heap.size 0 [.slice (some ⟨ga, 0, none⟩) (builtP ops).1.length ca, .slice (some ⟨gt, 0, none⟩) (builtP ops).2.length ct] hbf.out.th) Try.underlying49 rfl Try.rulesSize rfl ⟨ga, ca, gt, ct, rfl, RuIn.put (b := w.heap.size) HRF.out (by have := HGA.out; omega) (by have := HGT.out; omega) [.slice (some ⟨ga, 0, none⟩) (builtP ops).1.length ca, .slice (some ⟨gt, 0, none⟩) (builtP ops).2.length ct], below_setCells [.slice (some ⟨ga, 0, none⟩) (builtP ops).1.length ca, .slice (some ⟨gt, 0, none⟩) (builtP ops).2.length ct] 0 _ w.heap.size hbf.out.bl (Nat.le_refl _)⟩
end Go.Proofs.Ytgjgjgihceijnaa

