/- Texts put together: KtBuiltN. -/
import Derived.Test.YtgjgjgihceijnaaG34
namespace Go.Proofs.Ytgjgjgihceijnaa
open Go.RowKit Go.Stn
set_option maxRecDepth 100000 in
set_option maxHeartbeats 20000000 in
theorem kbuilt_nil (ops : List OpK) (hn : ops.length = 0) (a : Option Addr) (cap : Nat) (w : World) :
    Calls Try.prog 28 #[.slice a 0 cap] w fun e w' => ∃ ga ca gt ct, e = .returned (.agg #[.slice (some ⟨ga, 0, none⟩) (builtP ops).1.length ca, .slice (some ⟨gt, 0, none⟩) (builtP ops).2.length ct]) ∧ RuIn w' ga gt (builtP ops).1 (builtP ops).2 ∧ Below w.heap.size w w' := by
  have HS0 : Hid (BI w ((w.alloc (.cells #[.slice none 0 0, .slice none 0 0] 49)).alloc (.cells #[.slice none 0 0, .slice none 0 0] 49)) (.slice none 0 0) (.slice none 0 0) ([], [])) := BI.start _ _ _ rfl rfl _
  have HBK : Hid (buildK ops ops.length = ([], [])) := by unfold Hid; rw [hn]; exact buildK_zero ops
  have HNN := hidK hn
  clear hn
  go_enter Try.func28, Try.ntmps28
  go_upto_region 2 with fail
  generalize (w.alloc (.cells #[.slice none 0 0, .slice none 0 0] 49)).alloc (.cells #[.slice none 0 0, .slice none 0 0] 49) = W at *
  go_upto_block 0 with fail
  go_cut [4] from 11 to 88 (fun _ wc => ∃ vA vT, BI w wc vA vT (buildK ops ops.length))
  case first =>
    go_wp2_with fail
    go_loopw [4] (fun ii wr => ii = .int .i64 0 ∧ wr = W) (fun _ _ => 0)
    case atStart => exact ⟨rfl, rfl⟩
    case round =>
      obtain ⟨rfl, rfl⟩ := hrel
      go_wp2
      go_meet
      case rel => exact ⟨_, _, by rw [HBK.out]; exact HS0.out⟩
  case rest =>
    obtain ⟨vA, vT, hbi⟩ := hcut
    have HPB := hidK (buildK_ok ops ops.length (Nat.le_refl _))
    have hn := HNN.out
    have HBP : Hid (builtP ops = if (buildK ops ops.length).2.length = 0 then ((buildK ops ops.length).1 ++ [leafP ⟨0, 0, 0⟩], [0]) else buildK ops ops.length) := rfl
    have hal : (buildK ops ops.length).1.length ≤ 1100000 := by have := HPB.out.al; omega
    have htl : (buildK ops ops.length).2.length ≤ 1100000 := by have := HPB.out.tl; omega
    clear hn HBK HS0
    generalize buildK ops ops.length = s at *
    obtain ⟨aA, cA, rfl⟩ := rowSlice hbi.ra
    obtain ⟨aT, cT, rfl⟩ := rowSlice hbi.rt
    have c0 := hbi.c0
    have c1 := hbi.c1
    replace hbi := hidK hbi
    go_upto_if 92 with fail
    go_cut [10] from 89 to 105 (fun _ wc => ∃ ga ca gt ct, BI w wc (.slice (some ⟨ga, 0, none⟩) (builtP ops).1.length ca) (.slice (some ⟨gt, 0, none⟩) (builtP ops).2.length ct) (builtP ops) ∧ ∀ (j t : Nat), (builtP ops).2[j]? = some t → t < (builtP ops).1.length)
    case first =>
      by_cases h0 : s.2.length = 0
      · have d0 : ((s.2.length : Int) == 0) = true := by rw [h0]; rfl
        have HBE : Hid (builtP ops = (s.1 ++ [leafP ⟨0, 0, 0⟩], [0])) := by unfold Hid; rw [HBP.out, if_pos h0]
        have HS0' : Hid (s.2 = []) := List.length_eq_zero_iff.1 h0
        clear h0
        go_wp2_with fail
        refine (kleaf_any ⟨0, 0, 0⟩ ⟨⟨by show (_ : Int) ≤ 0; omega, by show (0 : Int) ≤ _; omega⟩, ⟨by show (_ : Int) ≤ 0; omega, by show (0 : Int) ≤ _; omega⟩, ⟨by show (_ : Int) ≤ 0; omega, by show (0 : Int) ≤ _; omega⟩⟩ _).mono ?_
        rintro e w2 ⟨rfl, hb2⟩
        have HB2 := hidK (hbi.out.below hb2)
        obtain ⟨X, hX⟩ : ∃ X, leafP ⟨0, 0, 0⟩ = X := ⟨_, rfl⟩
        rw [hX] at HBE ⊢
        have eX : X.cells.toArray = #[.int .i64 (X.k : Int), .int .u8 (X.a : Int), .int .u8 (X.b : Int), .int .i64 (X.l : Int), .int .i64 (X.r : Int), .string (bA X.tr.txt), .string (bA X.tr.oth), .int .i64 (X.tr.pls : Int), .int .i64 (X.tr.mor : Int)] := rfl
        rw [eX]
        have HB3 : Hid (BI w (w2.alloc (.cells #[.int .i64 (X.k : Int), .int .u8 (X.a : Int), .int .u8 (X.b : Int), .int .i64 (X.l : Int), .int .i64 (X.r : Int), .string (bA X.tr.txt), .string (bA X.tr.oth), .int .i64 (X.tr.pls : Int), .int .i64 (X.tr.mor : Int)] 109)) (.slice aA s.1.length cA) (.slice aT s.2.length cT) s) := HB2.out.below ((Below.refl _ _).alloc (Nat.le_refl _) _)
        have HR9 : Hid ((w2.alloc (.cells #[.int .i64 (X.k : Int), .int .u8 (X.a : Int), .int .u8 (X.b : Int), .int .i64 (X.l : Int), .int .i64 (X.r : Int), .string (bA X.tr.txt), .string (bA X.tr.oth), .int .i64 (X.tr.pls : Int), .int .i64 (X.tr.mor : Int)] 109)).rangeAt w2.heap.size 0 X.cells) := rangeAt_newL w2 X.cells 109
        have hz2 := HB2.out.hz
        have hz3 : w2.heap.size + 1 = (w2.alloc (.cells #[.int .i64 (X.k : Int), .int .u8 (X.a : Int), .int .u8 (X.b : Int), .int .i64 (X.l : Int), .int .i64 (X.r : Int), .string (bA X.tr.txt), .string (bA X.tr.oth), .int .i64 (X.tr.pls : Int), .int .i64 (X.tr.mor : Int)] 109)).heap.size := by simp
        clear hX hb2 c0 c1 d0
        go_upto_region 23 with fail
        generalize w2.alloc (.cells #[.int .i64 (X.k : Int), .int .u8 (X.a : Int), .int .u8 (X.b : Int), .int .i64 (X.l : Int), .int .i64 (X.r : Int), .string (bA X.tr.txt), .string (bA X.tr.oth), .int .i64 (X.tr.pls : Int), .int .i64 (X.tr.mor : Int)] 109) = W3 at *
        generalize w2.heap.size = B9 at *
        have c0 := HB3.out.c0
        have f0 := HB3.out.fz 0
        as_aux_lemma =>
        go_upto_region 24 with (first | (refine wpList_load_mid rfl 109 (.tmp 10) rfl B9 0 rfl X.cells _ HR9.out Try.underlying109 rfl Try.knodeSize ?_) | (refine Try.wpBuildNode rfl (.tmp 97) rfl X rfl ?_) | (at_builtin; refine wpList_app1 W3 rfl (.tmp 96) (.tmp 98) 47 rfl (w.heap.size + 2) 109 (.agg #[.int .i64 0, .int .u8 0, .int .u8 0, .int .i64 0, .int .i64 0, .string ⟨#[]⟩, .string ⟨#[]⟩, .int .i64 0, .int .i64 0]) 9 80 Try.underlying47 Try.infoKNode Try.zKNode (by decide) (by decide) (.slice aA s.1.length cA) s.1.length (nodesC s.1) X.cells _ rfl HB3.out.ra _ rfl rfl rfl (Try.oneX X) (by omega) (by omega) ?_; intro g7 cap7 w7 hown7 hgrow7 hat7 hlt7; have HB5 := hidK (HB3.out.moreA X hown7 hgrow7 hat7); have m0 := (grow_cell hgrow7 (k := w.heap.size + 1) (by omega) (fun e => by have := (HB3.out.ra.lt _ e.symm).1; omega)).1 0; have n0 := (grow_cell hgrow7 (k := w.heap.size + 1) (by omega) (fun e => by have := (HB3.out.ra.lt _ e.symm).1; omega)).2 0; rw [c0] at m0; rw [f0] at n0; clear hown7 hgrow7 hat7 hlt7 c0 f0))
        clear m0 n0
        generalize w7.setCell ⟨w.heap.size + 1, 0, none⟩ (.slice (some ⟨g7, 0, none⟩) (s.1.length + 1) cap7) = W6 at *
        have c1 := HB5.out.c1
        have f1 := HB5.out.fz 1
        have hz6 := HB5.out.hz
        as_aux_lemma =>
        go_wp2_with (first | (at_builtin; refine wpList_app1 W6 rfl (.tmp 102) (.tmp 103) 30 rfl (w.heap.size + 2) 3 (.int .i64 0) 1 8 Try.underlying30 Try.infoInt1 rfl (by decide) (by decide) (.slice aT s.2.length cT) s.2.length (topsC s.2) [.int .i64 0] _ rfl HB5.out.rt _ rfl rfl rfl (by simp [Value.oneCell']) (by omega) (by omega) ?_; intro g4 cap4 w5 hown4 hgrow4 hat4 hlt4; have HB7 := hidK (HB5.out.moreT 0 hown4 hgrow4 hat4); have m1 := (grow_cell hgrow4 (k := w.heap.size + 1) (by omega) (fun e => by have := (HB5.out.rt.lt _ e.symm).1; omega)).1 1; have n1 := (grow_cell hgrow4 (k := w.heap.size + 1) (by omega) (fun e => by have := (HB5.out.rt.lt _ e.symm).1; omega)).2 1; rw [c1] at m1; rw [f1] at n1; clear hown4 hgrow4 hat4 hlt4 c1 f1))
        go_meet
        case rel =>
          have e1 : ([0] : List Nat) = s.2 ++ [0] := by rw [HS0'.out]; rfl
          have e2 : (s.1 ++ [X]).length = s.1.length + 1 := by simp
          have e3 : (s.2 ++ [0]).length = s.2.length + 1 := by simp
          refine ⟨g7, cap7, g4, cap4, ?_, ?_⟩
          · rw [HBE.out]
            show BI w _ (.slice _ (s.1 ++ [X]).length _) (.slice _ ([0] : List Nat).length _) (s.1 ++ [X], [0])
            rw [e1, e2, e3]
            exact HB7.out
          · rw [HBE.out]
            intro j t hj
            have := List.mem_of_getElem? hj
            have ht : t = 0 := by simpa using this
            show t < (s.1 ++ [X]).length
            rw [e2]; omega
      · have d0 : ((s.2.length : Int) == 0) = false := by rw [beq_eq_false_iff_ne]; omega
        have HBE : Hid (builtP ops = s) := by unfold Hid; rw [HBP.out, if_neg h0]
        obtain ⟨gt, cT', hfT, _, _⟩ := hbi.out.rt.form (by omega)
        injection hfT with hfT1 hfT2 hfT3
        subst hfT1 hfT3
        obtain ⟨x, x1, _⟩ := HPB.out.top (j := 0) (by omega)
        obtain ⟨ga, cA', hfA, _, _⟩ := hbi.out.ra.form (by have := HPB.out.ok 0 _ x1; omega)
        injection hfA with hfA1 hfA2 hfA3
        subst hfA1 hfA3
        clear hfT2 hfA2 h0
        go_wp2
        go_meet
        case rel => exact ⟨ga, cA, gt, cT, by rw [HBE.out]; exact hbi.out, by rw [HBE.out]; exact HPB.out.ok⟩
    case rest =>
      obtain ⟨ga, ca, gt, ct, hbf, hokf⟩ := hcut
      have c0 := hbf.c0
      have c1 := hbf.c1
      obtain ⟨z0, hz0⟩ := Option.isSome_iff_exists.1 (hbf.th 0 (by omega)).1
      obtain ⟨z1, hz1⟩ := Option.isSome_iff_exists.1 (hbf.th 1 (by omega)).1
      have y0 := (hbf.th 0 (by omega)).2
      have y1 := (hbf.th 1 (by omega)).2
      rw [Nat.zero_add] at hz0 hz1 y0 y1
      have HRF := hidK (hbf.ruin hokf)
      have HGA := hidK (hbf.ra.lt ga rfl).1
      have HGT := hidK (hbf.rt.lt gt rfl).1
      replace hbf := hidK hbf
      replace hokf := hidK hokf
      clear hbi
      go_wp2_with fail
      refine ret_cell1 Try.results28 w.heap.size 0 [.slice (some ⟨ga, 0, none⟩) (builtP ops).1.length ca, .slice (some ⟨gt, 0, none⟩) (builtP ops).2.length ct] _ rfl (World.rangeAt_setCells_same _ w.heap.size 0 [.slice (some ⟨ga, 0, none⟩) (builtP ops).1.length ca, .slice (some ⟨gt, 0, none⟩) (builtP ops).2.length ct] hbf.out.th) Try.underlying49 rfl Try.rulesSize rfl ⟨ga, ca, gt, ct, rfl, RuIn.put (b := w.heap.size) HRF.out (by have := HGA.out; omega) (by have := HGT.out; omega) [.slice (some ⟨ga, 0, none⟩) (builtP ops).1.length ca, .slice (some ⟨gt, 0, none⟩) (builtP ops).2.length ct], below_setCells [.slice (some ⟨ga, 0, none⟩) (builtP ops).1.length ca, .slice (some ⟨gt, 0, none⟩) (builtP ops).2.length ct] 0 _ w.heap.size hbf.out.bl (Nat.le_refl _)⟩
end Go.Proofs.Ytgjgjgihceijnaa

