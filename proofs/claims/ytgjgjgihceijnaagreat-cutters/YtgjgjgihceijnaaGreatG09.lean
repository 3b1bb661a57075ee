/- Texts put together: CzStep, CzApp, CzOwn. -/
import Derived.Test.YtgjgjgihceijnaaGreatG08
import Derived.BigRegion
import Derived.Test.YtgjgjgihceijnaaGreatG07
import Derived.Deep.AppendLies
namespace Go.Proofs.YtgjgjgihceijnaaGreat
open Go.RowKit Go.Stn
/-- What a twin's load brings. -/
def twOf (X : World) : Value → Value
  | .pointer (some a) => .agg #[(X.cell? ⟨a.block, a.off, none⟩).getD undef, (X.cell? ⟨a.block, a.off + 1, none⟩).getD undef]
  | _ => undef
def loadsTw (X : World) (v : Value) : Prop := ∃ B o x y, v = .pointer (some ⟨B, o, none⟩) ∧ X.cell? ⟨B, o, none⟩ = some x ∧ X.cell? ⟨B, o + 1, none⟩ = some y
theorem twOf_eq {X : World} {B o : Nat} {x y : Value} (h0 : X.cell? ⟨B, o, none⟩ = some x) (h1 : X.cell? ⟨B, o + 1, none⟩ = some y) : twOf X (.pointer (some ⟨B, o, none⟩)) = .agg #[x, y] := by
  unfold twOf; simp [h0, h1]
theorem Tryz.twSize : (Tryz.prog.info? 96).map (fun i => i.size) = some 2 := by kernel_rfl
theorem Tryz.wpLoadTw {d : Option Tmp} {x : Operand} {ty : TypeId} {p : String} {af : Array Edge} {gd : Option (Nat × Bool)} {a : Act} {X : World} {K : Act → World → Prop} {Q : Exit → Act → World → Prop}
    (h : loadsTw X (a.eval x)) :
    Oper.wp Tryz.prog { dst := d, op := .load 96 x, type := ty, pos := p, after := af, guard := gd } a X K Q = K (a.put d (twOf X (a.eval x))) X := by
  obtain ⟨B, o, u, v, hx, h0, h1⟩ := h
  have hb : X.rangeAt B o [u, v] := fun i z hz => by
    rcases i with _ | _ | i
    · simp at hz; subst hz; exact h0
    · simp at hz; subst hz; exact h1
    · simp at hz
  have hr := run_loadVar_mid (P := Tryz.prog) X B o 96 [u, v] _ hb Tryz.underlying96 rfl Tryz.twSize
  unfold Oper.wp execOp
  simp only [hx, Instr.loadAt, Instr.sureAddr, Sem.run_bind, Sem.run_pure, Result.andThen_ok, hr, twOf_eq h0 h1]
  rfl
/-- What step comes to. -/
def StepAt (B p : Nat) (w : World) (cs : List TwK) (bc : Nat → List Value) (e : Ending) (w' : World) : Prop :=
  e = .returned (.bool true) ∧ ∃ O' cs' vb' bc' T', PI B p w' O' cs' vb' bc' 0 T' ∧ cs'.length ≤ cs.length + 1 ∧ (∀ f, f ≤ 4 → bc' f = bc f) ∧ (bc' 5).length = (bc' 6).length ∧ (bc' 5).length ≤ (bc 5).length + 1 ∧ Below B w w'
attribute [local go_sem ↓] Go.wp_at_zero Go.wp_at_succ Tryz.wpLoadTw
set_option maxRecDepth 100000 in
set_option maxHeartbeats 4000000 in
theorem kstep_any {B p : Nat} {w : World} {O : Nat → Nat} {cs : List TwK} {vb : Nat → Value} {bc : Nat → List Value} {T : Nat → List (Int × Int × Int)} (h : PI B p w O cs vb bc 0 T) (kd on : Int) (hon : isZ on) (S X : ByteArray) (hS : S.size ≤ maxLen) (hcs : cs.length ≤ 5864062014800)
    (hln : (bc 5).length = (bc 6).length) (hbd : (bc 5).length ≤ 5864062014800) :
    Calls Tryz.prog 29 #[.pointer (some ⟨B, 0, none⟩), .agg #[.int .i64 kd, .int .i64 on, .string S, .string X], .bool false] w (StepAt B p w cs bc) := by
  have hB1 := h.wt.2
  have HBA : Hid (Below w.heap.size w (w.alloc (.cells #[.int .i64 kd, .int .i64 on, .string S, .string X] 86))) := (Below.refl _ _).alloc (Nat.le_refl _) _
  have x0 : (w.alloc (.cells #[.int .i64 kd, .int .i64 on, .string S, .string X] 86)).cell? ⟨w.heap.size, 0, none⟩ = some (.int .i64 kd) := (World.cell?_alloc_at _ _ _ 0 rfl).trans rfl
  have x1 : (w.alloc (.cells #[.int .i64 kd, .int .i64 on, .string S, .string X] 86)).cell? ⟨w.heap.size, 1, none⟩ = some (.int .i64 on) := (World.cell?_alloc_at _ _ _ 1 rfl).trans rfl
  have x2 : (w.alloc (.cells #[.int .i64 kd, .int .i64 on, .string S, .string X] 86)).cell? ⟨w.heap.size, 2, none⟩ = some (.string S) := (World.cell?_alloc_at _ _ _ 2 rfl).trans rfl
  have x3 : (w.alloc (.cells #[.int .i64 kd, .int .i64 on, .string S, .string X] 86)).cell? ⟨w.heap.size, 3, none⟩ = some (.string X) := (World.cell?_alloc_at _ _ _ 3 rfl).trans rfl
  have hz0 : w.heap.size < (w.alloc (.cells #[.int .i64 kd, .int .i64 on, .string S, .string X] 86)).heap.size := by simp
  have HP := hidZ (h.below HBA.out)
  have HS := hidZ hS
  have HLN := hidZ hln
  have HBD := hidZ hbd
  have HBB : Hid (Below B w (w.alloc (.cells #[.int .i64 kd, .int .i64 on, .string S, .string X] 86))) := HBA.out.mono (Nat.le_of_lt hB1)
  clear h hln hbd hS HBA
  go_enter Tryz.func29, Tryz.ntmps29
  go_upto_region 1 with fail
  generalize w.alloc (.cells #[.int .i64 kd, .int .i64 on, .string S, .string X] 86) = W at *
  by_cases k1 : kd = 1
  · have t1 : (kd == 1) = true := by rw [k1]; rfl
    clear k1
    go_wp2
    go_ret
    exact ⟨rfl, _, _, _, _, _, HP.out, Nat.le_succ _, fun _ _ => rfl, HLN.out, Nat.le_succ _, HBB.out⟩
  · have t1 : (kd == 1) = false := by rw [beq_eq_false_iff_ne]; exact k1
    by_cases k2 : kd = 2
    · have t2 : (kd == 2) = true := by rw [k2]; rfl
      clear k1 k2
      go_wp2
      go_ret
      exact ⟨rfl, _, _, _, _, _, HP.out, Nat.le_succ _, fun _ _ => rfl, HLN.out, Nat.le_succ _, HBB.out⟩
    · have t2 : (kd == 2) = false := by rw [beq_eq_false_iff_ne]; exact k2
      by_cases k3 : kd = 3
      · have t3 : (kd == 3) = true := by rw [k3]; rfl
        clear k1 k2 k3
        go_wp2
        go_ret
        exact ⟨rfl, _, _, _, _, _, HP.out, Nat.le_succ _, fun _ _ => rfl, HLN.out, Nat.le_succ _, HBB.out⟩
      · have t3 : (kd == 3) = false := by rw [beq_eq_false_iff_ne]; exact k3
        by_cases k4 : kd = 4
        · have t4 : (kd == 4) = true := by rw [k4]; rfl
          clear k1 k2 k3 k4
          go_wp2_with fail
          refine (kopened_any HP.out S HS.out hcs).mono ?_
          rintro e w2 ⟨rfl, O2, cs2, vb2, hpi2, hc2, hb2⟩
          have HP2 := hidZ hpi2
          have HB2 := hidZ (HBB.out.trans hb2)
          clear hpi2 hb2 x0 x1 x2 x3
          go_wp2
          go_ret
          exact ⟨rfl, _, _, _, _, _, HP2.out, hc2, fun _ _ => rfl, HLN.out, Nat.le_succ _, HB2.out⟩
        · have t4 : (kd == 4) = false := by rw [beq_eq_false_iff_ne]; exact k4
          have b0 := HP.out.b0
          have c0 := HP.out.wb 0 (by omega)
          obtain ⟨a0, q0, e0⟩ := rowSlice b0
          obtain ⟨n, en⟩ : ∃ n, cs.length = n := ⟨_, rfl⟩
          rw [en] at e0 b0 hcs
          rw [e0] at c0 b0
          have HB0 := hidZ b0
          have HN := hidZ en
          clear b0 e0 en k1 k2 k3 k4
          by_cases hn0 : n = 0
          · have tn : ((n : Int) == 0) = true := by rw [hn0]; rfl
            clear hn0
            go_wp2
            go_ret
            exact ⟨rfl, _, _, _, _, _, HP.out, Nat.le_succ _, fun _ _ => rfl, HLN.out, Nat.le_succ _, HBB.out⟩
          · have tn : ((n : Int) == 0) = false := by rw [beq_eq_false_iff_ne]; omega
            obtain ⟨g0, cap0, ev, _, hgz⟩ := HB0.out.form (by omega)
            injection ev with e1 e2 e3
            subst e1
            obtain ⟨j, ej⟩ : ∃ j, pickZ on n = j := ⟨_, rfl⟩
            have hjn : j < n := by rw [← ej]; exact pickZ_lt on (by omega)
            have hpk := fun W => zpick_any on n hon (by omega) (by omega) W
            rw [ej] at hpk
            have HPK := hidZ hpk
            obtain ⟨t, ht⟩ : ∃ t, cs[j]? = some t := ⟨_, List.getElem?_eq_getElem (by rw [HN.out]; exact hjn)⟩
            have hTW := HP.out.cu j t ht
            obtain ⟨u0, u1⟩ := twC_get cs j t ht
            have hadd : ∀ i, (⟨g0, 0, none⟩ : Addr).add i = ⟨g0, i, none⟩ := fun i => by unfold Addr.add; split <;> simp_all
            have y0 := HB0.out.cells rfl _ _ u0
            have y1 := HB0.out.cells rfl _ _ u1
            rw [hadd] at y0 y1
            have hjI : (0 : Int) ≤ (j : Int) ∧ (j : Int) < (n : Int) := by omega
            have l1 : loadsTw W.drew (.pointer (some ⟨g0, j * 2, none⟩)) := ⟨g0, j * 2, _, _, rfl, y0, y1⟩
            have q1 : twOf W.drew (.pointer (some ⟨g0, j * 2, none⟩)) = .agg #[.pointer (some ⟨t.cb, 0, none⟩), .pointer (some ⟨t.rb, 0, none⟩)] := twOf_eq y0 y1
            have HBZ : Hid (Below W.heap.size W (W.alloc (.cells #[.pointer none, .pointer none] 96))) := (Below.refl _ _).alloc (Nat.le_refl _) _
            have hBW := HP.out.wt.2
            have c0' := (HBZ.out.cell (p := ⟨B, 0, none⟩) hBW).trans c0
            have x1' := (HBZ.out.cell (p := ⟨w.heap.size, 1, none⟩) hz0).trans x1
            have y0' := (HBZ.out.cell (p := ⟨g0, j * 2, none⟩) hgz).trans y0
            have y1' := (HBZ.out.cell (p := ⟨g0, j * 2 + 1, none⟩) hgz).trans y1
            have l2 : loadsTw (W.alloc (.cells #[.pointer none, .pointer none] 96)).drew (.pointer (some ⟨g0, j * 2, none⟩)) := ⟨g0, j * 2, _, _, rfl, y0', y1'⟩
            have q2 : twOf (W.alloc (.cells #[.pointer none, .pointer none] 96)).drew (.pointer (some ⟨g0, j * 2, none⟩)) = .agg #[.pointer (some ⟨t.cb, 0, none⟩), .pointer (some ⟨t.rb, 0, none⟩)] := twOf_eq y0' y1'
            have l3 : loadsTw (W.alloc (.cells #[.pointer none, .pointer none] 96)) (.pointer (some ⟨g0, j * 2, none⟩)) := ⟨g0, j * 2, _, _, rfl, y0', y1'⟩
            have q3 : twOf (W.alloc (.cells #[.pointer none, .pointer none] 96)) (.pointer (some ⟨g0, j * 2, none⟩)) = .agg #[.pointer (some ⟨t.cb, 0, none⟩), .pointer (some ⟨t.rb, 0, none⟩)] := twOf_eq y0' y1'
            have HT := hidZ ht
            clear ej hpk hadd u0 u1 e2 e3 hn0 ht hTW
            go_upto_region 12 with fail
            go_cut [7] from 53 to 66 (fun v wc => v = .pointer (some ⟨W.heap.size, 0, none⟩) ∧ wc = (W.alloc (.cells #[.pointer (some ⟨t.cb, 0, none⟩), .pointer (some ⟨t.rb, 0, none⟩)] 96)).drew)
            case first =>
              go_region_with (go_at_call 61; refine (HPK.out _).mono ?_; rintro e w3 ⟨rfl, hw3⟩; rw [hw3]; clear hw3 w3)
              all_goals
                go_wp2
                go_meet
                case rel => exact ⟨rfl, rfl⟩
            case rest =>
              obtain ⟨rfl, hwc⟩ := hcut
              clear l1 q1 l2 q2 l3 q3 y0 y1 y0' y1' c0 c0' x1' HB0 tn HBZ
              have HBT : Hid (Below W.heap.size W wc) := by
                have := (Below.refl W.heap.size W).alloc (Nat.le_refl _) (.cells #[.pointer (some ⟨t.cb, 0, none⟩), .pointer (some ⟨t.rb, 0, none⟩)] 96)
                unfold Hid
                rw [hwc]
                exact ⟨this.os, this.tape, this.output, this.size, this.block⟩
              have z0 : wc.cell? ⟨W.heap.size, 0, none⟩ = some (.pointer (some ⟨t.cb, 0, none⟩)) := by rw [hwc]; exact (World.cell?_alloc_at _ _ _ 0 rfl).trans rfl
              have z1 : wc.cell? ⟨W.heap.size, 1, none⟩ = some (.pointer (some ⟨t.rb, 0, none⟩)) := by rw [hwc]; exact (World.cell?_alloc_at _ _ _ 1 rfl).trans rfl
              have d0 := (HBT.out.cell (p := ⟨w.heap.size, 0, none⟩) hz0).trans x0
              have d3 := (HBT.out.cell (p := ⟨w.heap.size, 3, none⟩) hz0).trans x3
              have HPC := hidZ (HP.out.below HBT.out)
              have HBC := hidZ (HBB.out.trans (HBT.out.mono (Nat.le_of_lt hBW)))
              have HTC := hidZ (HPC.out.cu j t HT.out)
              clear hwc x0 x1 x2 x3
              by_cases k5 : kd = 5
              · have t5 : (kd == 5) = true := by rw [k5]; rfl
                have r1 := HTC.out.rf.c1
                clear k5
                go_wp2_with (first | (go_at_call 32; refine (pcond_any HTC.out.ct).mono ?_; rintro e w3 ⟨rfl, hw3⟩; rw [hw3]; clear hw3))
                go_ret
                exact ⟨by simp, _, _, _, _, _, HPC.out, Nat.le_succ _, fun _ _ => rfl, HLN.out, Nat.le_succ _, HBC.out⟩
              · have t5 : (kd == 5) = false := by rw [beq_eq_false_iff_ne]; exact k5
                by_cases k6 : kd = 6
                · have t6 : (kd == 6) = true := by rw [k6]; rfl
                  clear k5 k6
                  go_wp2_with fail
                  refine (knext_any HPC.out HT.out X HLN.out HBD.out (Nat.zero_le _)).mono ?_
                  rintro e w2 ⟨rfl, O2, cs2, vb2, bc2, T2, hpi2, hc2, hf2, h52, h62, hb2⟩
                  have HP2 := hidZ hpi2
                  have HB2 := hidZ (HBC.out.trans hb2)
                  clear hpi2 hb2 z0 z1 d0 d3
                  go_wp2
                  go_ret
                  exact ⟨rfl, _, _, _, _, _, HP2.out, by omega, hf2, by omega, by omega, HB2.out⟩
                · have t6 : (kd == 6) = false := by rw [beq_eq_false_iff_ne]; exact k6
                  clear k5 k6
                  go_wp2
                  go_ret
                  exact ⟨rfl, _, _, _, _, _, HPC.out, Nat.le_succ _, fun _ _ => rfl, HLN.out, Nat.le_succ _, HBC.out⟩
end Go.Proofs.YtgjgjgihceijnaaGreat

namespace Go.Proofs.YtgjgjgihceijnaaGreat
open Go.RowKit Go.Stn
theorem run_appZ (w : World) (ty : TypeId) (base : Nat) (v : Value) (n : Nat) (xs : List Value) (hown : w.ownsRow base 79 3 v n xs)
    (ad : Addr) (c : Nat) (news : List Value) (hl : news.length = 3) (hnews : ∀ j u, news[j]? = some u → w.cell? (ad.add j) = some u) (h1 : ∀ u ∈ news, u.oneCell' = true) (hn : n ≤ 2000) (hbase : base ≤ w.heap.size) :
    ∃ g cap w', (Builtin.append_ #[29, 29] ty #[v, .slice (some ad) 1 c]).run Tryz.prog w = .ok (.slice (some ⟨g, 0, none⟩) (n + 1) cap) w' ∧
      w'.ownsRow base 79 3 (.slice (some ⟨g, 0, none⟩) (n + 1) cap) (n + 1) (xs ++ news) ∧ w.grownBy w' v.ownBlock ∧ (v.ownBlock = some g ∨ (g = w.heap.size ∧ w.grownBy w' none)) ∧ g < w'.heap.size := by
  obtain ⟨i, hi, hz, hsize, hby⟩ := info_parts Tryz.infoToken
  obtain ⟨g, cap, w', hr, h2, h3, h4, h5⟩ := run_append_lies (P := Tryz.prog) w 29 ty base 79 i _ 3 24 Tryz.underlying29 hi hz hsize hby rfl (by decide) v n xs hown ad 1 c news (by omega) hnews h1 (by omega) (by unfold maxLen; omega) (by omega) hbase w.heap.size rfl
  refine ⟨g, cap, w', hr, h2, h3, ?_, h5⟩
  rcases h4 with h4 | h4
  · exact .inl h4
  · right
    refine ⟨h4, ?_⟩
    rcases hown.2 with ⟨rfl, rfl⟩ | ⟨g0, cap0, cur, rfl, hbg, hg, hnc, hcm, hcs, htake⟩
    · exact h3
    · have hg0 : g0 < w.heap.size := (hown.lt g0 rfl).2
      by_cases hroom : n + 1 ≤ cap0
      · exfalso
        have hfit : n * i.size + news.length ≤ cur.size := by rw [hl, hcs, hsize]; omega
        have hr2 := run_append_room (P := Tryz.prog) w 29 ty 79 i Tryz.underlying29 hi g0 n cap0 cur hg ad 1 c news (by rw [hl, hsize]) hnews h1 hroom hfit
        rw [hr] at hr2
        injection hr2 with e1 e2
        injection e1 with e3 e4
        injection e3 with e5
        injection e5 with e6
        omega
      · have holds : ∀ j u, xs[j]? = some u → w.cell? ((⟨g0, 0, none⟩ : Addr).add j) = some u := hown.cells (g := g0) rfl
        have hr2 := run_append_grow (P := Tryz.prog) w 29 ty 79 i _ Tryz.underlying29 hi hz ⟨g0, 0, none⟩ n cap0 xs (by rw [hsize]; exact hown.1) holds ad 1 c news (by rw [hl, hsize]) hnews (by omega) (by omega) (growslice_fits (by omega) (by rw [hby]; omega))
        rw [hr] at hr2
        injection hr2 with e1 e2
        rw [e2]
        exact ⟨rfl, rfl, rfl, by simp, fun k hk _ => Below.heap_alloc w.drew _ k hk⟩
/-- In a plain region. -/
theorem wpList_appZ (w : World) {ops : Array Oper} {rest : List Oper} {o : Oper} {a : Act} {Q : Exit → Act → World → Prop} (hgd : o.guard = none) (s x : Operand)
    (ho : o.op = .call { callee := .builtin .append, args := #[s, x], argTypes := #[29, 29] })
    (base : Nat) (v : Value) (n : Nat) (xs : List Value) (hs : a.eval s = v) (hown : w.ownsRow base 79 3 v n xs) (y0 y1 y2 : Value) (h0 : y0.oneCell' = true) (h1 : y1.oneCell' = true) (h2 : y2.oneCell' = true)
    (hx : a.eval x = .slice (some ⟨w.heap.size, 0, none⟩) 1 1) (hn : n ≤ 2000) (hbase : base ≤ w.heap.size)
    (h : ∀ g cap w', w'.ownsRow base 79 3 (.slice (some ⟨g, 0, none⟩) (n + 1) cap) (n + 1) (xs ++ [y0, y1, y2]) → (w.alloc (.cells #[y0, y1, y2] 79)).grownBy w' v.ownBlock → (v.ownBlock = some g ∨ (g = w.heap.size + 1 ∧ (w.alloc (.cells #[y0, y1, y2] 79)).grownBy w' none)) → g < w'.heap.size →
      wpList Tryz.prog ops Q rest (a.put o.dst (.slice (some ⟨g, 0, none⟩) (n + 1) cap)) w') : wpList Tryz.prog ops Q (o :: rest) a (w.alloc (.cells #[y0, y1, y2] 79)) := by
  have hnews : ∀ j u, [y0, y1, y2][j]? = some u → (w.alloc (.cells #[y0, y1, y2] 79)).cell? ((⟨w.heap.size, 0, none⟩ : Addr).add j) = some u := by
    have := World.news_of_block (w := w.alloc (.cells #[y0, y1, y2] 79)) (B := w.heap.size) (cs := #[y0, y1, y2]) (t := 79) (fr := (0, 0)) (heap_alloc_new w _)
    simpa using this
  obtain ⟨g, cap, w', hr, k2, k3, k4, k5⟩ := run_appZ (w.alloc (.cells #[y0, y1, y2] 79)) o.type base v n xs (hown.alloc _) ⟨w.heap.size, 0, none⟩ 1 [y0, y1, y2] rfl hnews (by intro u hu; simp only [List.mem_cons, List.not_mem_nil, or_false] at hu; rcases hu with rfl | rfl | rfl; exact h0; exact h1; exact h2) hn (by simp; omega)
  refine wpList_plain hgd fun K hK => ?_
  unfold Oper.wp execOp
  simp only [ho, resolve, invoke, builtin, Sem.run_bind, Sem.run_pure, Result.andThen_ok, List.map_toArray, List.map_cons, List.map_nil, hs, hx, hr]
  refine hK _ _ (h g cap w' k2 k3 ?_ k5)
  rcases k4 with e | ⟨e, e2⟩
  · exact .inl e
  · exact .inr ⟨e.trans (by simp), e2⟩
end Go.Proofs.YtgjgjgihceijnaaGreat

namespace Go.Proofs.YtgjgjgihceijnaaGreat
open Go.RowKit Go.Stn
variable {B p q : Nat} {w w' : World} {O O' : Nat → Nat} {cs : List TwK} {vb : Nat → Value} {bc : Nat → List Value} {T : Nat → List (Int × Int × Int)}
theorem row_setZ {w : World} {base e size g n cap : Nat} {xs : List Value} (h : w.ownsRow base e size (.slice (some ⟨g, 0, none⟩) n cap) n xs) (i : Nat) (u : Value) : (w.setCell ⟨g, i, none⟩ u).ownsRow base e size (.slice (some ⟨g, 0, none⟩) n cap) n (xs.set i u) := by
  refine ⟨by rw [List.length_set]; exact h.1, ?_⟩
  rcases h.2 with ⟨hn, _⟩ | ⟨g', cap', cur, he, hbg, hg, hnc, hcm, hcs, htk⟩
  · cases hn
  · cases he
    refine .inr ⟨g, cap, cur.setIfInBounds i u, rfl, hbg, ?_, hnc, hcm, by rw [Array.size_setIfInBounds]; exact hcs, ?_⟩
    · unfold World.setCell
      simp only [Array.getElem?_modify, hg]
      simp
    · rw [Array.toList_setIfInBounds, List.take_set, htk]
/-- A list that is its owner's no longer waits. -/
theorem PI.free (h : PI B p w O cs vb bc q T) {j : Nat} (hj : j < q) : PI B p w (fun k => if O k = 17 + 4 * j then 0 else O k) cs vb bc q T := by
  have e : ∀ k, O k ≠ 17 + 4 * j → (if O k = 17 + 4 * j then 0 else O k) = O k := fun k hk => if_neg hk
  obtain ⟨o1, b1⟩ := h.wt
  exact ⟨h.wb, h.wz, ⟨(e B (by omega)).trans o1, b1⟩, h.b0, h.bk, fun f k hf hk => (e k (by have := h.bt f k hf hk; omega)).trans (h.bt f k hf hk),
    fun f i v h1 h2 hi hv => (h.mm f i v h1 h2 hi hv).keep (Nat.le_refl _) (fun k _ ho => ⟨rfl, e k (by omega)⟩),
    fun j' v hj' hv => (h.wa j' v hj' hv).keep (fun k _ ho => ⟨rfl, e k (by omega)⟩), fun j' v hj' hv => (h.we j' v hj' hv).keep (fun k _ ho => ⟨rfl, e k (by omega)⟩),
    fun j' t hj' => (h.cu j' t hj').keep (Nat.le_refl _) (fun k _ ho => ⟨rfl, e k (by omega)⟩), fun k hk => (by have := h.fr k hk; simp only [this]; simp), h.cl⟩
theorem PI.later (h : PI B p w O cs vb bc q T) {q' : Nat} (hq : q ≤ q') : PI B p w O cs vb bc q' T :=
  ⟨h.wb, h.wz, h.wt, h.b0, h.bk, h.bt, h.mm, fun j v hj hv => h.wa j v (by omega) hv, fun j v hj hv => h.we j v (by omega) hv, h.cu, h.fr, h.cl⟩
/-- One list more is its owner's. -/
theorem PI.raise (h : PI B p w O cs vb bc q T) (hm : ∀ f v, 1 ≤ f → f ≤ 4 → (bc f)[p]? = some v → MK w O p v) : PI B (p + 1) w O cs vb bc q T :=
  ⟨h.wb, h.wz, h.wt, h.b0, h.bk, h.bt, fun f i v h1 h2 hi hv => by
    by_cases e : i = p
    · subst e; exact hm f v h1 h2 hv
    · exact h.mm f i v h1 h2 (by omega) hv, h.wa, h.we, h.cu, h.fr, h.cl⟩
/-- Cells full of a mark. -/
def MX (p n : Nat) (xs : List Value) : Prop := ∀ k, k < n → xs[k * 3]? = some (.int .i64 (-9)) ∧ xs[k * 3 + 1]? = some (.int .i64 (p : Int)) ∧ xs[k * 3 + 2]? = some (.int .i64 (-9))
theorem MX.set {p n : Nat} {xs : List Value} (h : MX p n xs) (hl : n * 3 + 2 < xs.length) : MX p (n + 1) (((xs.set (n * 3) (.int .i64 (-9))).set (n * 3 + 1) (.int .i64 (p : Int))).set (n * 3 + 2) (.int .i64 (-9))) := by
  intro k hk
  by_cases e : k = n
  · subst e
    refine ⟨?_, ?_, ?_⟩
    · rw [List.getElem?_set_ne (by omega), List.getElem?_set_ne (by omega), List.getElem?_set_self (by omega)]
    · rw [List.getElem?_set_ne (by omega), List.getElem?_set_self (by simp; omega)]
    · rw [List.getElem?_set_self (by simp; omega)]
  · obtain ⟨a, b, c⟩ := h k (by omega)
    refine ⟨?_, ?_, ?_⟩
    · rw [List.getElem?_set_ne (by omega), List.getElem?_set_ne (by omega), List.getElem?_set_ne (by omega)]; exact a
    · rw [List.getElem?_set_ne (by omega), List.getElem?_set_ne (by omega), List.getElem?_set_ne (by omega)]; exact b
    · rw [List.getElem?_set_ne (by omega), List.getElem?_set_ne (by omega), List.getElem?_set_ne (by omega)]; exact c
theorem MX.app {p n : Nat} {xs : List Value} (h : MX p n xs) (hl : xs.length = n * 3) : MX p (n + 1) (xs ++ [.int .i64 (-9), .int .i64 (p : Int), .int .i64 (-9)]) := by
  intro k hk
  by_cases e : k = n
  · subst e
    refine ⟨?_, ?_, ?_⟩
    · rw [List.getElem?_append_right (by omega), show k * 3 - xs.length = 0 by omega]; rfl
    · rw [List.getElem?_append_right (by omega), show k * 3 + 1 - xs.length = 1 by omega]; rfl
    · rw [List.getElem?_append_right (by omega), show k * 3 + 2 - xs.length = 2 by omega]; rfl
  · obtain ⟨a, b, c⟩ := h k (by omega)
    refine ⟨?_, ?_, ?_⟩
    · rw [List.getElem?_append_left (by omega)]; exact a
    · rw [List.getElem?_append_left (by omega)]; exact b
    · rw [List.getElem?_append_left (by omega)]; exact c
/-- A list full of a mark, in a block of which S holds. -/
def FB (w : World) (S : Nat → Prop) (p m : Nat) (v : Value) : Prop :=
  ∃ a n cap, v = .slice a n cap ∧ n ≤ m ∧ (0 < n → ∃ g, a = some ⟨g, 0, none⟩ ∧ g < w.heap.size ∧ S g ∧
    ∀ k, k < n → w.cell? ⟨g, k * 3, none⟩ = some (.int .i64 (-9)) ∧ w.cell? ⟨g, k * 3 + 1, none⟩ = some (.int .i64 (p : Int)) ∧ w.cell? ⟨g, k * 3 + 2, none⟩ = some (.int .i64 (-9)))
theorem mx_cells {w : World} {base p n g cap : Nat} {xs : List Value} (h : w.ownsRow base 79 3 (.slice (some ⟨g, 0, none⟩) n cap) n xs) {m : Nat} (hm : MX p m xs) : ∀ k, k < m → w.cell? ⟨g, k * 3, none⟩ = some (.int .i64 (-9)) ∧ w.cell? ⟨g, k * 3 + 1, none⟩ = some (.int .i64 (p : Int)) ∧ w.cell? ⟨g, k * 3 + 2, none⟩ = some (.int .i64 (-9)) := fun k hk => by
  obtain ⟨a, b, c⟩ := hm k hk
  have hadd : ∀ i, (⟨g, 0, none⟩ : Addr).add i = ⟨g, i, none⟩ := fun i => by unfold Addr.add; split <;> simp_all
  have x := h.cells rfl _ _ a
  have y := h.cells rfl _ _ b
  have z := h.cells rfl _ _ c
  rw [hadd] at x y z
  exact ⟨x, y, z⟩
theorem FB.of {w : World} {base p n : Nat} {v : Value} {xs : List Value} (h : w.ownsRow base 79 3 v n xs) (hm : MX p n xs) : FB w (fun k => v.ownBlock = some k) p n v := by
  obtain ⟨a, cap, e⟩ := rowSlice h
  refine ⟨a, n, cap, e, Nat.le_refl _, fun hp => ?_⟩
  obtain ⟨g, cap', e', _, hg⟩ := h.form hp
  subst e'
  injection e with e1 e2 e3
  subst e1
  exact ⟨g, rfl, hg, rfl, mx_cells h hm⟩
theorem FB.more {S S' : Nat → Prop} {p m m' : Nat} {v : Value} (h : FB w S p m v) (hS : ∀ k, S k → S' k) (hm : m ≤ m') : FB w S' p m' v := by
  obtain ⟨a, n, cap, e, hn, h0⟩ := h
  exact ⟨a, n, cap, e, by omega, fun hp => by obtain ⟨g, ea, hg, hs, hc⟩ := h0 hp; exact ⟨g, ea, hg, hS g hs, hc⟩⟩
theorem FB.keep {S : Nat → Prop} {p m : Nat} {v : Value} (h : FB w S p m v) (hz : w.heap.size ≤ w'.heap.size) (hB : ∀ k, k < w.heap.size → S k → w'.heap[k]? = w.heap[k]?) : FB w' S p m v := by
  obtain ⟨a, n, cap, e, hn, h0⟩ := h
  refine ⟨a, n, cap, e, hn, fun hp => ?_⟩
  obtain ⟨g, ea, hg, hs, hc⟩ := h0 hp
  have e1 := hB g hg hs
  refine ⟨g, ea, Nat.lt_of_lt_of_le hg hz, hs, fun k hk => ?_⟩
  obtain ⟨x, y, z⟩ := hc k hk
  exact ⟨(World.cell?_of_block (w := w) (a := ⟨g, k * 3, none⟩) e1).trans x, (World.cell?_of_block (w := w) (a := ⟨g, k * 3 + 1, none⟩) e1).trans y, (World.cell?_of_block (w := w) (a := ⟨g, k * 3 + 2, none⟩) e1).trans z⟩
/-- What an append leaves of a list that was full. -/
theorem FB.app {S : Nat → Prop} {p m n : Nat} {v x : Value} {o : Obj} {g cap base : Nat} {xs : List Value} (h : FB w S p m v) (hmn : m ≤ n) (hgr : (w.alloc o).grownBy w' x.ownBlock) (hat : x.ownBlock = some g ∨ (g = w.heap.size + 1 ∧ (w.alloc o).grownBy w' none))
    (hown : w'.ownsRow base 79 3 (.slice (some ⟨g, 0, none⟩) n cap) n xs) (hm : MX p n xs) : FB w' S p m v := by
  have hz := hgr.size
  have ez : (w.alloc o).heap.size = w.heap.size + 1 := by simp
  rcases hat with hat | ⟨_, hat⟩
  · obtain ⟨a, k0, cap0, e, hn, h0⟩ := h
    refine ⟨a, k0, cap0, e, hn, fun hp => ?_⟩
    obtain ⟨g', ea, hg, hs, hc⟩ := h0 hp
    refine ⟨g', ea, by omega, hs, fun k hk => ?_⟩
    by_cases eg : g' = g
    · subst eg
      exact mx_cells hown hm k (by omega)
    · have e1 : w'.heap[g']? = w.heap[g']? := (hgr.block g' (by omega) (fun e => eg (by rw [hat] at e; injection e))).trans (Below.heap_alloc w o g' hg)
      obtain ⟨x, y, z⟩ := hc k hk
      exact ⟨(World.cell?_of_block (w := w) (a := ⟨g', k * 3, none⟩) e1).trans x, (World.cell?_of_block (w := w) (a := ⟨g', k * 3 + 1, none⟩) e1).trans y, (World.cell?_of_block (w := w) (a := ⟨g', k * 3 + 2, none⟩) e1).trans z⟩
  · exact h.keep (by omega) (fun k hk _ => (hat.block k (by omega) (by simp)).trans (Below.heap_alloc w o k hk))
/-- The walk of own stands here: the book, the mark. -/
structure OW (w0 : World) (B p q : Nat) (w : World) (O : Nat → Nat) (cs : List TwK) (vb : Nat → Value) (bc : Nat → List Value) (T : Nat → List (Int × Int × Int)) : Prop where
  pi : PI B p w O cs vb bc q T
  m0 : w.cell? ⟨w0.heap.size, 0, none⟩ = some (.int .i64 (-9))
  m1 : w.cell? ⟨w0.heap.size, 1, none⟩ = some (.int .i64 (p : Int))
  m2 : w.cell? ⟨w0.heap.size, 2, none⟩ = some (.int .i64 (-9))
  bl : Below B w0 w
  lt : w0.heap.size < w.heap.size
  lo : B < w0.heap.size
  fo : O w0.heap.size = 0
theorem OW.keep {w0 : World} (h : OW w0 B p q w O cs vb bc T) (hos : w'.os = w.os) (htp : w'.tape = w.tape) (hout : w'.output = w.output) (hz : w.heap.size ≤ w'.heap.size) (hB : ∀ k, k < w.heap.size → (O k ≠ 0 ∨ k = w0.heap.size ∨ k < B) → w'.heap[k]? = w.heap[k]?) : OW w0 B p q w' O cs vb bc T := by
  have lt := h.lt
  have em := hB w0.heap.size h.lt (.inr (.inl rfl))
  have lo := h.lo
  exact ⟨h.pi.keep hz (fun k hk h0 => ⟨hB k hk (.inl h0), rfl⟩) (fun k hk => h.pi.fr k (by omega)), (World.cell?_of_block (w := w) (a := ⟨w0.heap.size, 0, none⟩) em).trans h.m0, (World.cell?_of_block (w := w) (a := ⟨w0.heap.size, 1, none⟩) em).trans h.m1, (World.cell?_of_block (w := w) (a := ⟨w0.heap.size, 2, none⟩) em).trans h.m2,
    ⟨hos.trans h.bl.os, htp.trans h.bl.tape, hout.trans h.bl.output, Nat.le_trans h.bl.size hz, fun k hk => (hB k (by omega) (.inr (.inr hk))).trans (h.bl.block k hk)⟩, by omega, lo, h.fo⟩
/-- One append onto a list of its owner's. -/
theorem OW.app {w0 : World} {x : Value} {o : Obj} (h : OW w0 B p q w O cs vb bc T) (hx : ∀ k, x.ownBlock = some k → O k = 0 ∧ k ≠ w0.heap.size ∧ B ≤ k) (hgr : (w.alloc o).grownBy w' x.ownBlock) : OW w0 B p q w' O cs vb bc T := by
  have hz := hgr.size
  have ez : (w.alloc o).heap.size = w.heap.size + 1 := by simp
  refine h.keep hgr.os hgr.tape hgr.output (by omega) (fun k hk hc => (hgr.block k (by omega) (fun e => ?_)).trans (Below.heap_alloc w o k hk))
  obtain ⟨a, b, c⟩ := hx k e.symm
  rcases hc with hc | hc | hc
  · exact hc a
  · exact b hc
  · omega
/-- One list more in a book. -/
theorem OW.push {w0 : World} (h : OW w0 B p q w O cs vb bc T) {f : Nat} (h1 : 1 ≤ f) (h2 : f ≤ 4) {w4 : World} {o : Obj} {g cap n : Nat} {v vf : Value}
    (hn : (bc f).length = n) (hp : p ≤ n) (hvf : vb f = vf) (hown : w4.ownsRow (B + 1) 29 1 (.slice (some ⟨g, 0, none⟩) (n + 1) cap) (n + 1) (bc f ++ [v]))
    (hgr : (w.alloc o).grownBy w4 vf.ownBlock) (hat : vf.ownBlock = some g ∨ g = w.heap.size + 1) :
    OW w0 B p q (w4.setCell ⟨B, f, none⟩ (.slice (some ⟨g, 0, none⟩) (n + 1) cap)) (fun k => if k = g then 2 + f else O k) cs (upd vb f (.slice (some ⟨g, 0, none⟩) (n + 1) cap)) (upd bc f (bc f ++ [v])) T ∧
    ∀ k, k < w.heap.size → O k = 0 → (w4.setCell ⟨B, f, none⟩ (.slice (some ⟨g, 0, none⟩) (n + 1) cap)).heap[k]? = w.heap[k]? ∧ (if k = g then 2 + f else O k) = 0 := by
  have hpi := h.pi.push' (f := f) h1 (by omega) hn hvf hown hgr hat (fun _ hh => absurd hh (by omega)) (fun e => absurd e (by omega)) (fun e => absurd e (by omega))
  have lt := h.lt
  have lo := h.lo
  have hz := hgr.size
  have ez : (w.alloc o).heap.size = w.heap.size + 1 := by simp
  have hob : ∀ k, vf.ownBlock = some k → O k = 2 + f ∧ B + 1 ≤ k := fun k hk => by
    subst hvf
    exact ⟨h.pi.bt f k (by omega) hk, (h.pi.own (f := f) (by omega) hk).1⟩
  have hB1 := h.pi.wt
  have hkeep : ∀ k, k < w.heap.size → k ≠ B → vf.ownBlock ≠ some k → (w4.setCell ⟨B, f, none⟩ (.slice (some ⟨g, 0, none⟩) (n + 1) cap)).heap[k]? = w.heap[k]? := fun k hk hkB hne => (set_keep w4 B f _ hkB).trans ((hgr.block k (by omega) (fun e => hne e.symm)).trans (Below.heap_alloc w o k hk))
  have hgne : ∀ k, k < w.heap.size → O k = 0 → k ≠ g := fun k hk h0 e => by
    rcases hat with e2 | e2
    · have := (hob g e2).1; rw [← e] at this; omega
    · omega
  have em := hkeep w0.heap.size lt (by omega) (fun e => by have := (hob _ e).1; have := h.fo; omega)
  refine ⟨⟨hpi, (World.cell?_of_block (w := w) (a := ⟨w0.heap.size, 0, none⟩) em).trans h.m0, (World.cell?_of_block (w := w) (a := ⟨w0.heap.size, 1, none⟩) em).trans h.m1, (World.cell?_of_block (w := w) (a := ⟨w0.heap.size, 2, none⟩) em).trans h.m2, ?_, ?_, lo, ?_⟩, fun k hk h0 => ⟨hkeep k hk (fun e => by rw [e] at h0; omega) (fun e => by have := (hob _ e).1; omega), ?_⟩⟩
  · exact (h.bl.trans (below_push hgr (fun k hk => by have := (hob k hk).2; omega) (by omega))).setCell (p := ⟨B, f, none⟩) (Nat.le_refl _) _
  · have : (w4.setCell ⟨B, f, none⟩ (.slice (some ⟨g, 0, none⟩) (n + 1) cap)).heap.size = w4.heap.size := by simp [World.setCell]
    omega
  · simp only [if_neg (hgne _ lt h.fo)]
    exact h.fo
  · simp only [if_neg (hgne k hk h0)]
    exact h0
end Go.Proofs.YtgjgjgihceijnaaGreat

