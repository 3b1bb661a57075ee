/- Texts put together: RfAdd, RfPlace, RfExpr, RfAlt, RfOr. -/
import Derived.Test.YtgjgjgihceijnaaG10
import Derived.Deep.RegionLaw
import Derived.Deep.Cut
import Derived.Deep.DrawnRows
import Derived.Great.BuildSlice
namespace Go.Proofs.Ytgjgjgihceijnaa
open Go.RowKit Go.Stn

theorem Try.infoNode : (Try.prog.info? 191).map (fun i => (i.zero, i.size, i.bytes)) = some (some (.agg #[.int .i64 0, .int .i64 0, .int .i64 0]), 3, 24) := by kernel_rfl

set_option maxRecDepth 100000 in
set_option maxHeartbeats 1000000 in
theorem add_any (t : ByteArray) (st : PSt) (x y z : Int) (rb base : Nat) (vr vn vp : Value) (w : World) (h : Rd w rb base w.heap.size t st vr vn vp) (hn : st.nodes.length ≤ 100000) :
    Calls Try.prog 131 #[.pointer (some ⟨rb, 0, none⟩), .agg #[.int .i64 x, .int .i64 y, .int .i64 z]] w fun e w' => e = .returned (.int .i64 st.nodes.length) ∧ RdOut w rb base t vr vn vp (addN (x, y, z) st) w' := by
  have HR0 := hidK (h.below ((Below.refl _ _).alloc (Nat.le_refl _) (.cells #[.int .i64 x, .int .i64 y, .int .i64 z] 191)))
  have HB0 := hidK ((Below.refl w.heap.size w).alloc (Nat.le_refl _) (.cells #[.int .i64 x, .int .i64 y, .int .i64 z] 191))
  have g0 : (w.alloc (.cells #[.int .i64 x, .int .i64 y, .int .i64 z] 191)).cell? ⟨w.heap.size, 0, none⟩ = some (.int .i64 x) := by rw [World.cell?_alloc_new]; rfl
  have g1 : (w.alloc (.cells #[.int .i64 x, .int .i64 y, .int .i64 z] 191)).cell? ⟨w.heap.size, 1, none⟩ = some (.int .i64 y) := by rw [World.cell?_alloc_new]; rfl
  have g2 : (w.alloc (.cells #[.int .i64 x, .int .i64 y, .int .i64 z] 191)).cell? ⟨w.heap.size, 2, none⟩ = some (.int .i64 z) := by rw [World.cell?_alloc_new]; rfl
  have hsz0 : (w.alloc (.cells #[.int .i64 x, .int .i64 y, .int .i64 z] 191)).heap.size = w.heap.size + 1 := by simp
  go_enter Try.func131, Try.ntmps131
  go_wp2_with fail
  generalize w.alloc (.cells #[.int .i64 x, .int .i64 y, .int .i64 z] 191) = W at *
  have c3 := HR0.out.c3
  have hrb : rb < w.heap.size := by have := h.hb; have := h.hbt; omega
  have hbs : base ≤ W.heap.size := by have := h.hbt; omega
  have hrne : some rb ≠ vn.ownBlock := fun e => by have := h.rn.lt rb e.symm; have := h.hb; omega
  have f3 := HR0.out.fz 3
  go_region_law ((refine step_app1 W.drew rfl (.tmp 10) (.tmp 12) 81 rfl base 191 (.agg #[.int .i64 0, .int .i64 0, .int .i64 0]) 3 24 Try.underlying81 Try.infoNode rfl (by decide) (by decide) vn st.nodes.length (cells3' st.nodes) [.int .i64 x, .int .i64 y, .int .i64 z] _ (by simp [Act.eval]) HR0.out.rn _ rfl (by simp [Act.eval]) rfl (by simp [Value.oneCell']) (by omega) hbs ?_; intro g4 cap4 w4 hown4 hgrow4 hat4 hlt4; have m3 := ((grow_cell hgrow4 (k := rb) (by show rb < W.heap.size; omega) hrne).1 3).trans c3; have n3 := ((grow_cell hgrow4 (k := rb) (by show rb < W.heap.size; omega) hrne).2 3).trans f3; have HM := hidK (HR0.out.drew.moreN (x := (x, y, z)) hown4 hgrow4 hat4 hlt4)))
  all_goals
    go_wp2
    go_ret
    refine ⟨?_, _, _, _, HM.out.1.raise, (Fr.of_grown (grown_of_below HB0.out (Nat.le_refl _) (some rb))).trans HM.out.2.of_drew⟩
    first | rfl | (simp; done) | (congr 2; omega)
end Go.Proofs.Ytgjgjgihceijnaa

namespace Go.Proofs.Ytgjgjgihceijnaa
open Go.RowKit Go.Stn

theorem fill_bits (f : Nat → Bool) (cells : Array Value) (h : cells.size = 256) : Instr.fill (fun i => some (i * 256, 256)) cells [(0, .agg (bitL f).toArray)] = some (bitL f).toArray := by
  have hf := Go.Great.fill_whole (s := 256) (by decide) [.agg (bitL f).toArray] cells (fun v hv => by rw [List.mem_singleton] at hv; subst hv; exact bitL_size f) (by simp [h])
  have e : ([Value.agg (bitL f).toArray].flatMap fun v => v.cells.toList).toArray = (bitL f).toArray := by simp [Value.cells]
  rw [e] at hf
  exact hf

def aggCells (v : Value) : Array Value := match v with
  | .agg cs => cs
  | _ => #[]
def isAgg256 (v : Value) : Prop := ∃ f, v = .agg (bitL f).toArray
theorem Try.infoBytes : (Try.prog.info? 187).map (fun i => (i.zero, i.size, i.bytes)) = some (some (.agg Try.zeroCells187), 256, 256) := by kernel_rfl

theorem Try.wpBuildBits {d : Option Tmp} {x : Operand} {ty : TypeId} {p : String} {af : Array Edge} {gd : Option (Nat × Bool)} {a : Act} {X : World} {K : Act → World → Prop} {Q : Exit → Act → World → Prop}
    (h : isAgg256 (a.eval x)) :
    Oper.wp Try.prog { dst := d, op := .buildSlice 82 1 #[(0, x)], type := ty, pos := p, after := af, guard := gd } a X K Q = K (a.put d (.slice (some ⟨X.heap.size, 0, none⟩) 1 1)) (X.alloc (.cells (aggCells (a.eval x)) 187)) := by
  obtain ⟨f, hf⟩ := h
  obtain ⟨i, hi, hz, hsize, hb⟩ := info_parts Try.infoBytes
  have hr := run_buildSlice (P := Try.prog) X 82 187 1 #[(0, .agg (bitL f).toArray)] (bitL f).toArray i _ Try.underlying82 hi hz (by rw [hsize]; decide) (by rw [hsize]; decide)
    (by rw [hsize]; exact fill_bits f _ (by simp))
  unfold Oper.wp execOp
  simp only [List.map_toArray, List.map_cons, List.map_nil, hf, Sem.run_bind, hr, Result.andThen_ok, aggCells]
  rfl
def bitsOf (X : World) (v : Value) : Nat → Bool := match v with
  | .pointer (some a) => bitsAt X a.block
  | _ => fun _ => false
def loadsBits (X : World) (v : Value) : Prop := ∃ B, v = .pointer (some ⟨B, 0, none⟩) ∧ isBits X B
theorem Try.wpLoadBits {d : Option Tmp} {x : Operand} {ty : TypeId} {p : String} {af : Array Edge} {gd : Option (Nat × Bool)} {a : Act} {X : World} {K : Act → World → Prop} {Q : Exit → Act → World → Prop}
    (h : loadsBits X (a.eval x)) :
    Oper.wp Try.prog { dst := d, op := .load 187 x, type := ty, pos := p, after := af, guard := gd } a X K Q = K (a.put d (.agg (bitL (bitsOf X (a.eval x))).toArray)) X := by
  obtain ⟨B, hx, hb⟩ := h
  have hr := run_loadVar_mid (P := Try.prog) X B 0 187 (bitL (bitsAt X B)) _ hb Try.underlying187 rfl (by rw [bitL_len]; exact Try.bytesSize)
  unfold Oper.wp execOp
  simp only [hx, Instr.loadAt, Instr.sureAddr, Sem.run_bind, Sem.run_pure, Result.andThen_ok, hr, bitsOf]
  rfl
attribute [local go_sem] aggCells
attribute [local go_sem ↓] Go.wp_at_zero Go.wp_at_succ Try.wpBuildBits Try.wpLoadBits

set_option maxRecDepth 100000 in
set_option maxHeartbeats 400000 in
theorem place_any (t : ByteArray) (st : PSt) (rb base : Nat) (vr vn vp : Value) (w : World) (ht : t.size ≤ 120) (hat : st.at_ ≤ t.size) (h : Rd w rb base w.heap.size t st vr vn vp) (hn : st.nodes.length ≤ 1000) (hpl : st.places.length ≤ 1000) :
    Calls Try.prog 146 #[.pointer (some ⟨rb, 0, none⟩)] w fun e w' => e = .returned (.tuple #[.int .i64 (placeP t st).1, .bool (placeP t st).2.1]) ∧ RdOut w rb base t vr vn vp (placeP t st).2.2 w' := by
  have hrb : rb < w.heap.size := by have := h.hb; have := h.hbt; omega
  have hc1 := allowed_any t st rb base vr vn vp w ht hat h
  have hY : (allowedP t st).2.1 = true → placeP t st = (((allowedP t st).2.2.nodes.length : Int), true, addN (0, ((allowedP t st).2.2.places.length : Int), 0) (addP (allowedP t st).1 (allowedP t st).2.2)) := fun hq => by unfold placeP; rw [if_pos hq]
  have hN : (allowedP t st).2.1 = false → placeP t st = (0, false, (allowedP t st).2.2) := fun hq => by unfold placeP; rw [if_neg (by rw [hq]; decide)]
  have hsm := allowedP_same t st
  generalize allowedP t st = M at *
  obtain ⟨f, ok, st1⟩ := M
  simp only at hc1 hY hN hsm
  have hn1 : st1.nodes.length ≤ 1000 := by rw [hsm.2.1]; exact hn
  have hp1 : st1.places.length ≤ 1000 := by rw [hsm.2.2]; exact hpl
  clear hsm
  have HY := hidK hY
  have HN := hidK hN
  clear hY hN
  go_enter Try.func146, Try.ntmps146
  go_wp2_with fail
  refine hc1.mono ?_
  rintro e w1 ⟨rfl, hg1, hr1⟩
  have HN1 := hidK (there_newA w1 Try.zeroCells187 187 _ 256 Try.bytesZero rfl)
  have hsz1 := hg1.size
  clear hc1
  have HR2 := hidK (((h.retop hr1 hsz1).below ((Below.refl _ _).alloc (by omega) (.cells Try.zeroCells187 187))).below (below_setCells (bitL f) 0 _ w1.heap.size (Below.refl w.heap.size _) (by omega)))
  have HG2 := hidK (grown_setCells (grown_alloc2 hg1 (.cells Try.zeroCells187 187)) w1.heap.size 0 (bitL f) (by omega))
  have HF2 := hidK (World.rangeAt_setCells_same (w1.alloc (.cells Try.zeroCells187 187)) w1.heap.size 0 (bitL f) (by rw [bitL_len]; exact HN1.out))
  have HZ2 : Hid (w1.heap.size < ((w1.alloc (.cells Try.zeroCells187 187)).setCells w1.heap.size 0 (bitL f)).heap.size) := by
    unfold Hid
    have := (below_setCells (bitL f) 0 (w1.alloc (.cells Try.zeroCells187 187)) w1.heap.size (Below.refl 0 _) (Nat.zero_le _)).size
    simp at this; omega
  have HG1 := hidK hg1
  clear hg1 hr1
  go_upto_region 2 with (first | (refine wpList_store_bits rfl 187 (.tmp 4) (.tmp 10) rfl w1.heap.size 0 f ?_ ?_ ?_ Try.bytesSize ?_; rfl; rfl; exact HN1.out))
  generalize (w1.alloc (.cells Try.zeroCells187 187)).setCells w1.heap.size 0 (bitL f) = X at *
  have HB1 : Hid (w.heap.size ≤ w1.heap.size) := hsz1
  clear HN1 HG1 hsz1
  generalize w1.heap.size = B1 at *
  cases ok with
  | false =>
    have HE := hidK (HN.out rfl)
    go_wp2
    go_ret2
    rw [HE.out]
    exact ⟨rfl, _, _, _, HR2.out.raise, Fr.of_grown HG2.out⟩
  | true =>
    have HE := hidK (HY.out rfl)
    obtain ⟨av, cv, hvp⟩ := rowSlice HR2.out.rp
    subst hvp
    have c4 := HR2.out.c4
    have f4 := HR2.out.fz 4
    go_wp2_with fail
    have hrne : some rb ≠ (Value.slice av st1.places.length cv).ownBlock := fun e => by have := HR2.out.rp.lt rb e.symm; have := h.hb; omega
    have hbs : base ≤ X.heap.size := by have := HR2.out.hbt; have := HR2.out.hz; omega
    have hag : isAgg256 (.agg (bitL f).toArray) := ⟨f, rfl⟩
    have hrz : rb < X.heap.size := by have := HR2.out.hz; omega
    have hu := Try.underlying187
    have hi : (Try.prog.info? 187).map (·.size) = some (bitL f).length := by rw [bitL_len]; exact Try.bytesSize
    have hll := bitL_len f
    have hoc := bitL_one f
    have hF := HF2.out
    have hB1z : B1 < X.heap.size := HZ2.out
    have hB1n : some B1 ≠ (Value.slice av st1.places.length cv).ownBlock := fun e => by have := HR2.out.lp B1 e.symm; have := HB1.out; omega
    have hB1r : rb ≠ B1 := by have := HB1.out; omega
    obtain ⟨hbq0, hib⟩ := isBits_of (X := X.drew) (B := B1) (f := f) hF
    have hlb : loadsBits X.drew (.pointer (some ⟨B1, 0, none⟩)) := ⟨B1, rfl, hib⟩
    have hbq : bitL (bitsOf X.drew (.pointer (some ⟨B1, 0, none⟩))) = bitL f := hbq0
    clear hbq0 hib hu hi hll hoc
    go_region_law ((refine step_app1 X.drew rfl (.tmp 25) (.tmp 27) 82 rfl base 187 (.agg Try.zeroCells187) 256 256 Try.underlying82 Try.infoBytes Try.bytesZero (by decide) (by decide) _ st1.places.length (bitsC st1.places) (bitL f) _ (by simp [Act.eval]) HR2.out.rp _ rfl (by simp [Act.eval]) (bitL_len f) (bitL_one f) (by omega) hbs ?_; intro g4 cap4 w4 hown4 hgrow4 hat4 hlt4; have m3 := ((grow_cell hgrow4 (k := rb) hrz hrne).1 4).trans c4; have n3 := ((grow_cell hgrow4 (k := rb) hrz hrne).2 4).trans f4; have hF4 : w4.rangeAt B1 0 (bitL f) := fun j v hv => ((grow_cell hgrow4 (k := B1) hB1z hB1n).1 (0 + j)).trans (hF j v hv); have HM := hidK (HR2.out.drew.moreP (x := f) hown4 hgrow4 hat4 hlt4)))
    all_goals
      have hk5 := HM.out.1.raise
      have HK5 := hidK hk5
      have HF5 := hidK ((Fr.of_grown HG2.out).trans HM.out.2.of_drew)
      clear hk5
      generalize w4.setCell ⟨rb, 4, none⟩ (.slice (some ⟨g4, 0, none⟩) (st1.places.length + 1) cap4) = w5 at *
      go_wp2_with fail
      refine (add_any t (addP f st1) 0 (st1.places.length : Int) 0 rb base _ _ _ w5 HK5.out (by show st1.nodes.length ≤ 100000; omega)).mono ?_
      rintro e w6 ⟨rfl, vr6, vn6, vp6, hr6, hf6⟩
      have HR6 := hidK hr6
      have HF6 := hidK (HF5.out.trans hf6)
      clear hr6 hf6
      go_wp2
      go_ret2
      rw [HE.out]
      exact ⟨rfl, _, _, _, HR6.out, HF6.out⟩
end Go.Proofs.Ytgjgjgihceijnaa

namespace Go.Proofs.Ytgjgjgihceijnaa
open Go.RowKit Go.Stn

/-- Few nodes and places, by the bytes read. -/
def Few (st : PSt) : Prop := st.nodes.length ≤ 3 * st.at_ ∧ st.places.length ≤ st.at_

theorem Few.gr {t : ByteArray} {a b : PSt} (h : Few a) (g : Gr t a b) : Few b := by
  obtain ⟨h1, h2⟩ := h
  obtain ⟨g1, g2, g3, g4⟩ := g
  exact ⟨by omega, by omega⟩
theorem Few.adv {a : PSt} (h : Few a) : Few (Go.Stn.adv a) := by
  obtain ⟨h1, h2⟩ := h
  refine ⟨?_, ?_⟩
  · show a.nodes.length ≤ 3 * (a.at_ + 1); omega
  · show a.places.length ≤ a.at_ + 1; omega

/-- What a call of the reader's recursive part does: its answer, and its new state, are the plain function's. -/
def ReadsBy (fn : Nat) (t : ByteArray) (F : PSt → Int × Bool × PSt) (st : PSt) : Prop :=
  ∀ (rb base : Nat) (vr vn vp : Value) (w : World), st.at_ ≤ t.size → Few st → Rd w rb base w.heap.size t st vr vn vp →
    Calls Try.prog fn #[.pointer (some ⟨rb, 0, none⟩)] w fun e w' => e = .returned (.tuple #[.int .i64 (F st).1, .bool (F st).2.1]) ∧ RdOut w rb base t vr vn vp (F st).2.2 w'

set_option maxRecDepth 100000 in
theorem atPiece_any (t : ByteArray) (st : PSt) (rb base : Nat) (vr vn vp : Value) (w : World) (h : Rd w rb base w.heap.size t st vr vn vp) :
    Calls Try.prog 138 #[.pointer (some ⟨rb, 0, none⟩)] w fun e w' => e = .returned (.bool (atPieceB t st)) ∧ ∃ q, w' = w.drewN q := by
  have HE : Hid (atPieceB t st = (decide (peekP t st.at_ = 40 ∨ peekP t st.at_ = 91 ∨ peekP t st.at_ = 46 ∨ peekP t st.at_ = 92) || plainB (peekP t st.at_) spOut)) := rfl
  go_enter Try.func138, Try.ntmps138
  go_wp2_with fail
  refine (peek_any t st rb base w.heap.size vr vn vp _ h).mono ?_
  rintro e w1 ⟨rfl, q, rfl⟩
  clear h
  generalize peekP t st.at_ = p at *
  by_cases h1 : p = 40
  · have HY : Hid (atPieceB t st = true) := by unfold Hid; rw [HE.out]; simp [h1]
    have b1 : (p == 40) = true := beq_iff_eq.2 h1
    clear h1
    go_wp2_with fail
    go_ret
    exact ⟨by rw [HY.out]; rfl, q, rfl⟩
  have b1 : (p == 40) = false := beq_eq_false_iff_ne.2 h1
  by_cases h2 : p = 91
  · have HY : Hid (atPieceB t st = true) := by unfold Hid; rw [HE.out]; simp [h2]
    have b2 : (p == 91) = true := beq_iff_eq.2 h2
    clear h1 h2
    go_wp2_with fail
    go_ret
    exact ⟨by rw [HY.out]; rfl, q, rfl⟩
  have b2 : (p == 91) = false := beq_eq_false_iff_ne.2 h2
  by_cases h3 : p = 46
  · have HY : Hid (atPieceB t st = true) := by unfold Hid; rw [HE.out]; simp [h3]
    have b3 : (p == 46) = true := beq_iff_eq.2 h3
    clear h1 h2 h3
    go_wp2_with fail
    go_ret
    exact ⟨by rw [HY.out]; rfl, q, rfl⟩
  have b3 : (p == 46) = false := beq_eq_false_iff_ne.2 h3
  by_cases h4 : p = 92
  · have HY : Hid (atPieceB t st = true) := by unfold Hid; rw [HE.out]; simp [h4]
    have b4 : (p == 92) = true := beq_iff_eq.2 h4
    clear h1 h2 h3 h4
    go_wp2_with fail
    go_ret
    exact ⟨by rw [HY.out]; rfl, q, rfl⟩
  have b4 : (p == 92) = false := beq_eq_false_iff_ne.2 h4
  have HY : Hid (atPieceB t st = plainB p spOut) := by unfold Hid; rw [HE.out]; simp [h1, h2, h3, h4]
  clear h1 h2 h3 h4
  go_wp2_with fail
  refine (plain_any p spOut _ spOut_size).mono ?_
  rintro e w2 ⟨rfl, rfl⟩
  go_wp2
  go_ret
  exact ⟨by rw [HY.out]; rfl, q, rfl⟩

set_option maxRecDepth 100000 in
/-- An atom, where an expression one byte on is read by ex. -/
theorem atom_any (t : ByteArray) (ex : PSt → Int × Bool × PSt) (st : PSt) (ht : t.size ≤ 120) (hx : ExOk t ex) (hex : nextB t 40 st = true → ReadsBy 115 t ex (adv st)) :
    ReadsBy 140 t (atomP t ex) st := by
  intro rb base vr vn vp w hat hfew h
  cases h1 : nextB t 40 st with
  | false =>
    have HE : Hid (atomP t ex st = placeP t st) := by unfold Hid atomP; rw [if_neg (by rw [h1]; decide)]
    have hf := hfew
    obtain ⟨hf1, hf2⟩ := hf
    go_enter Try.func140, Try.ntmps140
    go_wp2_with fail
    refine (skip_any t st 40 rb base vr vn vp _ ht hat h).mono ?_
    rintro e w1 ⟨rfl, hg1, hr1⟩
    rw [skipP_no h1] at hr1
    rw [h1]
    have HG1 := hidK hg1
    go_wp2_with fail
    refine (place_any t st rb base vr vn vp _ ht hat hr1 (by omega) (by omega)).mono ?_
    rintro e w2 ⟨rfl, vr2, vn2, vp2, hr2, hf2'⟩
    have HR2 := hidK hr2
    have HF2 := hidK ((Fr.of_grown HG1.out).trans hf2')
    clear hr2 hf2' hr1 hg1
    go_wp2
    go_ret2
    rw [HE.out]
    exact ⟨rfl, _, _, _, HR2.out, HF2.out⟩
  | true =>
    have hlt := nextB_lt (by omega) h1
    have hq := hex h1
    have hgr := hx (adv st) (adv_ok hlt)
    have HY : Hid ((ex (adv st)).2.1 = true ∧ nextB t 41 (ex (adv st)).2.2 = true → atomP t ex st = ((ex (adv st)).1, true, adv (ex (adv st)).2.2)) := by
      intro hc; unfold atomP; rw [if_pos h1, if_pos hc]
    have HN : Hid (¬ ((ex (adv st)).2.1 = true ∧ nextB t 41 (ex (adv st)).2.2 = true) → atomP t ex st = (0, false, (ex (adv st)).2.2)) := by
      intro hc; unfold atomP; rw [if_pos h1, if_neg hc]
    go_enter Try.func140, Try.ntmps140
    go_wp2_with fail
    refine (skip_any t st 40 rb base vr vn vp _ ht hat h).mono ?_
    rintro e w1 ⟨rfl, hg1, hr1⟩
    rw [skipP_yes h1] at hr1
    rw [h1]
    have hc2 := hq rb base vr vn vp w1 (adv_ok hlt) hfew.adv hr1
    have HG1 := hidK hg1
    clear hg1 hq hex
    generalize ex (adv st) = M at *
    obtain ⟨n2, ok2, st2⟩ := M
    simp only at hc2 hgr HY HN
    have hat2 : st2.at_ ≤ t.size := hgr.2.1
    go_wp2_with fail
    refine hc2.mono ?_
    rintro e w2 ⟨rfl, vr2, vn2, vp2, hr2, hf2⟩
    have HF2 := hidK ((Fr.of_grown HG1.out).trans hf2)
    clear hf2 hc2 hr1 hgr
    cases ok2 with
    | false =>
      have HE := hidK (HN.out (by simp))
      have HR2 := hidK hr2
      clear hr2
      go_wp2_with fail
      go_ret2
      rw [HE.out]
      exact ⟨rfl, _, _, _, HR2.out, HF2.out⟩
    | true =>
      go_wp2_with fail
      refine (skip_any t st2 41 rb base vr2 vn2 vp2 _ ht hat2 hr2).mono ?_
      rintro e w3 ⟨rfl, hg3, hr3⟩
      have HF3 := hidK (HF2.out.trans (Fr.of_grown hg3))
      clear hg3 hr2
      cases h3 : nextB t 41 st2 with
      | true =>
        rw [skipP_yes h3] at hr3
        have HR3 := hidK hr3
        have HE := hidK (HY.out (by simp [h3]))
        clear hr3
        go_wp2
        go_ret2
        rw [HE.out]
        exact ⟨rfl, _, _, _, HR3.out, HF3.out⟩
      | false =>
        rw [skipP_no h3] at hr3
        have HR3 := hidK hr3
        have HE := hidK (HN.out (by rw [h3]; simp))
        clear hr3
        go_wp2
        go_ret2
        rw [HE.out]
        exact ⟨rfl, _, _, _, HR3.out, HF3.out⟩

theorem markK_no {p : Int} (h1 : p ≠ 63) (h2 : p ≠ 43) (h3 : p ≠ 42) : markK p = 0 := by unfold markK; rw [if_neg h1, if_neg h2, if_neg h3]

set_option maxRecDepth 100000 in
theorem piece_any (t : ByteArray) (ex : PSt → Int × Bool × PSt) (st : PSt) (ht : t.size ≤ 120) (hx : ExOk t ex) (hex : nextB t 40 st = true → ReadsBy 115 t ex (adv st)) :
    ReadsBy 137 t (pieceP t ex) st := by
  intro rb base vr vn vp w hat hfew h
  have hc1 := atom_any t ex st ht hx hex rb base vr vn vp w hat hfew h
  have hgr := (atomP_gr hx hat).gr
  have HN : Hid ((atomP t ex st).2.1 = false → pieceP t ex st = (0, false, (atomP t ex st).2.2)) := by
    intro hc; unfold pieceP; rw [if_neg (by rw [hc]; decide)]
  have HP : Hid ((atomP t ex st).2.1 = true → markK (peekP t (atomP t ex st).2.2.at_) = 0 → pieceP t ex st = ((atomP t ex st).1, true, (atomP t ex st).2.2)) := by
    intro hc hm; unfold pieceP; rw [if_pos hc, if_pos hm]
  have HM : Hid ((atomP t ex st).2.1 = true → markK (peekP t (atomP t ex st).2.2.at_) ≠ 0 → pieceP t ex st = (((atomP t ex st).2.2.nodes.length : Int), true, addN (markK (peekP t (atomP t ex st).2.2.at_), (atomP t ex st).1, 0) (adv (atomP t ex st).2.2))) := by
    intro hc hm; unfold pieceP; rw [if_pos hc, if_neg hm]
  have HFW := hidK (hfew.gr hgr)
  clear hex
  generalize atomP t ex st = M at *
  obtain ⟨n1, ok1, st1⟩ := M
  simp only at hc1 hgr HN HP HM HFW
  have hat1 : st1.at_ ≤ t.size := hgr.2.1
  clear hgr
  go_enter Try.func137, Try.ntmps137
  go_wp2_with fail
  refine hc1.mono ?_
  rintro e w1 ⟨rfl, vr1, vn1, vp1, hr1, hf1⟩
  have HF1 := hidK hf1
  clear hf1 hc1
  cases ok1 with
  | false =>
    have HE := hidK (HN.out rfl)
    have HR1 := hidK hr1
    clear hr1
    go_wp2
    go_ret2
    rw [HE.out]
    exact ⟨rfl, _, _, _, HR1.out, HF1.out⟩
  | true =>
    go_wp2_with fail
    refine (peek_any t st1 rb base _ vr1 vn1 vp1 _ hr1).mono ?_
    rintro e w2 ⟨rfl, q, rfl⟩
    have HR2 := hidK (hr1.drewN q).raise
    have HF2 : Hid (Fr w (w1.drewN q) rb vr vn vp vr1 vn1 vp1) := HF1.out.trans (Fr.of_grown (grown_drewN (World.grownBy.refl _ _) q))
    clear hr1 HF1
    generalize w1.drewN q = w2 at *
    have HPP := hidK (HP.out (by simp))
    have HMM := hidK (HM.out (by simp))
    clear HP HM HN
    generalize hp : peekP t st1.at_ = p at *
    clear hp
    have c1 := HR2.out.c1
    have f1 := HR2.out.fz 1
    have hnl : st1.nodes.length ≤ 100000 := by have := HFW.out.1; omega
    by_cases hm : p = 63 ∨ p = 43 ∨ p = 42
    · have HRA := hidK HR2.out.adv.raise
      have HFA : Hid (Fr w (w2.setCell ⟨rb, 1, none⟩ (.int .i64 ((st1.at_ : Int) + 1))) rb vr vn vp vr1 vn1 vp1) := HF2.out.trans (Fr.of_grown (grown_set (World.grownBy.refl _ _) _ _))
      rcases hm with rfl | rfl | rfl
      · have HE := hidK (HMM.out (by decide))
        go_wp2_with fail
        refine (add_any t (adv st1) 3 n1 0 rb base vr1 vn1 vp1 _ HRA.out hnl).mono ?_
        rintro e w3 ⟨rfl, vr3, vn3, vp3, hr3, hf3⟩
        have HR3 := hidK hr3
        have HF3 := hidK (HFA.out.trans hf3)
        clear hr3 hf3
        go_wp2
        go_ret2
        rw [HE.out]
        exact ⟨rfl, _, _, _, HR3.out, HF3.out⟩
      · have HE := hidK (HMM.out (by decide))
        go_wp2_with fail
        refine (add_any t (adv st1) 4 n1 0 rb base vr1 vn1 vp1 _ HRA.out hnl).mono ?_
        rintro e w3 ⟨rfl, vr3, vn3, vp3, hr3, hf3⟩
        have HR3 := hidK hr3
        have HF3 := hidK (HFA.out.trans hf3)
        clear hr3 hf3
        go_wp2
        go_ret2
        rw [HE.out]
        exact ⟨rfl, _, _, _, HR3.out, HF3.out⟩
      · have HE := hidK (HMM.out (by decide))
        go_wp2_with fail
        refine (add_any t (adv st1) 5 n1 0 rb base vr1 vn1 vp1 _ HRA.out hnl).mono ?_
        rintro e w3 ⟨rfl, vr3, vn3, vp3, hr3, hf3⟩
        have HR3 := hidK hr3
        have HF3 := hidK (HFA.out.trans hf3)
        clear hr3 hf3
        go_wp2
        go_ret2
        rw [HE.out]
        exact ⟨rfl, _, _, _, HR3.out, HF3.out⟩
    · have h1 : p ≠ 63 := fun e => hm (.inl e)
      have h2 : p ≠ 43 := fun e => hm (.inr (.inl e))
      have h3 : p ≠ 42 := fun e => hm (.inr (.inr e))
      have HE := hidK (HPP.out (markK_no h1 h2 h3))
      have b1 : (p == 63) = false := beq_eq_false_iff_ne.2 h1
      have b2 : (p == 43) = false := beq_eq_false_iff_ne.2 h2
      have b3 : (p == 42) = false := beq_eq_false_iff_ne.2 h3
      clear hm h1 h2 h3
      go_wp2
      go_ret2
      rw [HE.out]
      exact ⟨rfl, _, _, _, HR2.out, HF2.out⟩
end Go.Proofs.Ytgjgjgihceijnaa

namespace Go.Proofs.Ytgjgjgihceijnaa
open Go.RowKit Go.Stn

set_option maxRecDepth 100000 in
theorem alt_any (t : ByteArray) (ex : PSt → Int × Bool × PSt) (st : PSt) (ht : t.size ≤ 120) (hx : ExOk t ex) (hex : ∀ s, st.at_ ≤ s.at_ → nextB t 40 s = true → ReadsBy 115 t ex (adv s)) :
    ReadsBy 130 t (altP t ex) st := by
  intro rb base vr vn vp w hat hfew h
  have hc1 := piece_any t ex st ht hx (hex st (Nat.le_refl _)) rb base vr vn vp w hat hfew h
  have hgr := (pieceP_gr hx hat).gr
  have HFW := hidK (hfew.gr hgr)
  have HA : Hid (altP t ex st = altLoop t ex (t.size + 1) (pieceP t ex st).1 (pieceP t ex st).2.1 (pieceP t ex st).2.2) := rfl
  have HEX := hidK hex
  clear hex
  generalize pieceP t ex st = M at *
  obtain ⟨n1, ok1, st1⟩ := M
  simp only at hc1 hgr HFW HA
  have hat1 : st1.at_ ≤ t.size := hgr.2.1
  have hlo1 : st.at_ ≤ st1.at_ := hgr.1
  clear hgr
  go_enter Try.func130, Try.ntmps130
  go_wp2_with fail
  refine hc1.mono ?_
  rintro e w1 ⟨rfl, vr1, vn1, vp1, hr1, hf1⟩
  have HR1 := hidK hr1
  have HF1 := hidK hf1
  clear hf1 hc1 hr1
  go_wp2_with fail
  go_loopg [4, 5] (t.size + 1) (fun gk x y wr => ∃ (whole : Int) (ok : Bool) (s : PSt) (vr2 vn2 vp2 : Value), x = .int .i64 whole ∧ y = .bool ok ∧ st.at_ ≤ s.at_ ∧ s.at_ ≤ t.size ∧ Few s ∧ (ok = true → t.size - s.at_ < gk) ∧ altP t ex st = altLoop t ex gk whole ok s ∧
    Rd wr rb base wr.heap.size t s vr2 vn2 vp2 ∧ Fr w wr rb vr vn vp vr2 vn2 vp2)
  case atStart => exact ⟨n1, ok1, st1, vr1, vn1, vp1, rfl, rfl, hlo1, hat1, HFW.out, fun _ => by omega, HA.out, HR1.out, HF1.out⟩
  case round =>
    obtain ⟨whole, ok, s, vr2, vn2, vp2, rfl, rfl, hlo, has, hfs, hfu, hal, hr, hf⟩ := hrel
    have HL := hidK hal
    have HF := hidK hf
    have HFS := hidK hfs
    have HFU := hidK hfu
    clear hal hf hfs hfu HR1 HF1 HFW HA
    cases ok with
    | false =>
      have HE : Hid (altP t ex st = (whole, false, s)) := HL.out.trans (altLoop_false t ex gk whole s)
      have HR := hidK hr
      clear hr
      go_wp2
      go_ret2
      rw [HE.out]
      exact ⟨rfl, _, _, _, HR.out, HF.out⟩
    | true =>
      obtain ⟨g', hg'⟩ : ∃ g', gk = g' + 1 := ⟨gk - 1, by have := HFU.out rfl; omega⟩
      have HGK := hidK hg'
      clear hg'
      have HUF : Hid (t.size - s.at_ < gk) := HFU.out rfl
      clear HFU
      go_wp2_with fail
      refine (atPiece_any t s rb base vr2 vn2 vp2 _ hr).mono ?_
      rintro e w3 ⟨rfl, q, rfl⟩
      have hr3 := (hr.drewN q).raise
      have HF3 : Hid (Fr w (wr.drewN q) rb vr vn vp vr2 vn2 vp2) := HF.out.trans (Fr.of_grown (grown_drewN (World.grownBy.refl _ _) q))
      clear hr HF
      generalize wr.drewN q = w3 at *
      cases hp : atPieceB t s with
      | false =>
        have HE : Hid (altP t ex st = (whole, true, s)) := by unfold Hid; rw [HL.out, HGK.out]; exact altLoop_done hp
        have HR3 := hidK hr3
        clear hr3
        go_wp2
        go_ret2
        rw [HE.out]
        exact ⟨rfl, _, _, _, HR3.out, HF3.out⟩
      | true =>
        have hstep : altP t ex st = altLoop t ex g' ((pieceP t ex s).2.2.nodes.length : Int) (pieceP t ex s).2.1 (addN (1, whole, (pieceP t ex s).1) (pieceP t ex s).2.2) := by rw [HL.out, HGK.out]; exact altLoop_more hp
        have hc4 := piece_any t ex s ht hx (HEX.out s hlo) rb base vr2 vn2 vp2 w3 has HFS.out hr3
        have hg4 := pieceP_gr hx has
        have ha4 := pieceP_adv hx hp
        have HS := hidK hstep
        clear hstep
        generalize pieceP t ex s = M at *
        obtain ⟨n4, ok4, st4⟩ := M
        simp only at hc4 hg4 ha4 HS
        have hgg := hg4.gr
        have hat4 : st4.at_ ≤ t.size := hgg.2.1
        have hfew4 : Few st4 := HFS.out.gr hgg
        have hnl : st4.nodes.length ≤ 100000 := by have := hfew4.1; omega
        have HW4 : Hid (Few (addN (1, whole, n4) st4)) := by
          have h2 := hfew4.2
          have h1 := HFS.out.1
          refine ⟨?_, h2⟩
          show (st4.nodes ++ [(1, whole, n4)]).length ≤ 3 * st4.at_
          rw [List.length_append, List.length_singleton]
          rcases hg4 with ⟨g1, g2, g3, g4⟩ | ⟨g1, g2, g3, g4⟩
          · omega
          · omega
        clear hg4 hgg hfew4
        go_wp2_with fail
        refine hc4.mono ?_
        rintro e w4 ⟨rfl, vr4, vn4, vp4, hr4, hf4⟩
        have HF4 := hidK (HF3.out.trans hf4)
        clear hf4 hc4 hr3 HF3
        go_wp2_with fail
        refine (add_any t st4 1 whole n4 rb base vr4 vn4 vp4 _ hr4 hnl).mono ?_
        rintro e w5 ⟨rfl, vr5, vn5, vp5, hr5, hf5⟩
        have HR5 := hidK hr5
        have HF5 := hidK (HF4.out.trans hf5)
        clear hr5 hf5 hr4 HF4
        go_wp2_with fail
        go_roundg g'
        case measure => have := HGK.out; omega
        case rel =>
          refine ⟨_, ok4, addN (1, whole, n4) st4, vr5, vn5, vp5, rfl, rfl, ?_, hat4, HW4.out, fun _ => ?_, HS.out, HR5.out, HF5.out⟩
          · show st.at_ ≤ st4.at_; omega
          · show t.size - st4.at_ < g'
            have a1 := HUF.out
            have a2 := HGK.out
            omega
end Go.Proofs.Ytgjgjgihceijnaa

namespace Go.Proofs.Ytgjgjgihceijnaa
open Go.RowKit Go.Stn

set_option maxRecDepth 100000 in
theorem or_any (t : ByteArray) (ex : PSt → Int × Bool × PSt) (st : PSt) (ht : t.size ≤ 120) (hx : ExOk t ex) (hex : ∀ s, st.at_ ≤ s.at_ → nextB t 40 s = true → ReadsBy 115 t ex (adv s)) :
    ReadsBy 115 t (fun st => exprLoop t ex (t.size + 1) (altP t ex st).1 (altP t ex st).2.1 (altP t ex st).2.2) st := by
  intro rb base vr vn vp w hat hfew h
  show Calls _ _ _ _ fun e w' => e = .returned (.tuple #[.int .i64 (exprLoop t ex (t.size + 1) (altP t ex st).1 (altP t ex st).2.1 (altP t ex st).2.2).1, .bool (exprLoop t ex (t.size + 1) (altP t ex st).1 (altP t ex st).2.1 (altP t ex st).2.2).2.1]) ∧ RdOut w rb base t vr vn vp (exprLoop t ex (t.size + 1) (altP t ex st).1 (altP t ex st).2.1 (altP t ex st).2.2).2.2 w'
  have hc1 := alt_any t ex st ht hx hex rb base vr vn vp w hat hfew h
  have hgr := altP_gr hx hat
  have HFW := hidK (hfew.gr hgr)
  generalize hA : exprLoop t ex (t.size + 1) (altP t ex st).1 (altP t ex st).2.1 (altP t ex st).2.2 = A
  have HA := hidK hA.symm
  clear hA
  have HEX := hidK hex
  clear hex
  generalize altP t ex st = M at *
  obtain ⟨n1, ok1, st1⟩ := M
  simp only at hc1 hgr HFW HA
  have hat1 : st1.at_ ≤ t.size := hgr.2.1
  have hlo1 : st.at_ ≤ st1.at_ := hgr.1
  clear hgr
  go_enter Try.func115, Try.ntmps115
  go_wp2_with fail
  refine hc1.mono ?_
  rintro e w1 ⟨rfl, vr1, vn1, vp1, hr1, hf1⟩
  have HR1 := hidK hr1
  have HF1 := hidK hf1
  clear hf1 hc1 hr1
  go_wp2_with fail
  go_loopg [4, 5] (t.size + 1) (fun gk x y wr => ∃ (whole : Int) (ok : Bool) (s : PSt) (vr2 vn2 vp2 : Value), x = .int .i64 whole ∧ y = .bool ok ∧ st.at_ ≤ s.at_ ∧ s.at_ ≤ t.size ∧ Few s ∧ (ok = true → t.size - s.at_ < gk) ∧ A = exprLoop t ex gk whole ok s ∧
    Rd wr rb base wr.heap.size t s vr2 vn2 vp2 ∧ Fr w wr rb vr vn vp vr2 vn2 vp2)
  case atStart => exact ⟨n1, ok1, st1, vr1, vn1, vp1, rfl, rfl, hlo1, hat1, HFW.out, fun _ => by omega, HA.out, HR1.out, HF1.out⟩
  case round =>
    obtain ⟨whole, ok, s, vr2, vn2, vp2, rfl, rfl, hlo, has, hfs, hfu, hal, hr, hf⟩ := hrel
    have HL := hidK hal
    have HF := hidK hf
    have HFS := hidK hfs
    have HFU := hidK hfu
    clear hal hf hfs hfu HR1 HF1 HFW HA
    cases ok with
    | false =>
      have HE : Hid (A = (whole, false, s)) := HL.out.trans (exprLoop_false t ex gk whole s)
      have HR := hidK hr
      clear hr
      go_wp2
      go_ret2
      rw [HE.out]
      exact ⟨rfl, _, _, _, HR.out, HF.out⟩
    | true =>
      obtain ⟨g', hg'⟩ : ∃ g', gk = g' + 1 := ⟨gk - 1, by have := HFU.out rfl; omega⟩
      have HGK := hidK hg'
      clear hg'
      have HUF : Hid (t.size - s.at_ < gk) := HFU.out rfl
      clear HFU
      go_wp2_with fail
      refine (skip_any t s 124 rb base vr2 vn2 vp2 _ ht has hr).mono ?_
      rintro e w3 ⟨rfl, hg3, hr3⟩
      have HF3 : Hid (Fr w w3 rb vr vn vp vr2 vn2 vp2) := HF.out.trans (Fr.of_grown hg3)
      clear hr HF hg3
      cases hp : nextB t 124 s with
      | false =>
        have HE : Hid (A = (whole, true, s)) := by unfold Hid; rw [HL.out, HGK.out]; exact exprLoop_done hp
        rw [skipP_no hp] at hr3
        have HR3 := hidK hr3
        clear hr3
        go_wp2
        go_ret2
        rw [HE.out]
        exact ⟨rfl, _, _, _, HR3.out, HF3.out⟩
      | true =>
        have hlt := nextB_lt (by omega) hp
        rw [skipP_yes hp] at hr3
        have hstep : A = exprLoop t ex g' ((altP t ex (adv s)).2.2.nodes.length : Int) (altP t ex (adv s)).2.1 (addN (2, whole, (altP t ex (adv s)).1) (altP t ex (adv s)).2.2) := by rw [HL.out, HGK.out]; exact exprLoop_more hp
        have hc4 := alt_any t ex (adv s) ht hx (fun x hx1 => HEX.out x (by rw [adv_at] at hx1; omega)) rb base vr2 vn2 vp2 w3 (adv_ok hlt) HFS.out.adv hr3
        have hgg := altP_gr hx (adv_ok hlt)
        have hg4 := Gr_adv hgg
        have HS := hidK hstep
        clear hstep
        have ha4 : s.at_ + 1 ≤ (altP t ex (adv s)).2.2.at_ := by have := hgg.1; rw [adv_at] at this; exact this
        generalize altP t ex (adv s) = M at *
        obtain ⟨n4, ok4, st4⟩ := M
        simp only at hc4 hg4 ha4 HS hgg
        have hat4 : st4.at_ ≤ t.size := hgg.2.1
        have hfew4 : Few st4 := HFS.out.adv.gr hgg
        have hnl : st4.nodes.length ≤ 100000 := by have := hfew4.1; omega
        have HW4 : Hid (Few (addN (2, whole, n4) st4)) := by
          have h2 := hfew4.2
          have h1 := HFS.out.1
          refine ⟨?_, h2⟩
          show (st4.nodes ++ [(2, whole, n4)]).length ≤ 3 * st4.at_
          rw [List.length_append, List.length_singleton]
          rcases hg4 with ⟨g1, g2, g3, g4⟩ | ⟨g1, g2, g3, g4⟩
          · omega
          · omega
        clear hg4 hgg hfew4
        go_wp2_with fail
        refine hc4.mono ?_
        rintro e w4 ⟨rfl, vr4, vn4, vp4, hr4, hf4⟩
        have HF4 := hidK (HF3.out.trans hf4)
        clear hf4 hc4 hr3 HF3
        go_wp2_with fail
        refine (add_any t st4 2 whole n4 rb base vr4 vn4 vp4 _ hr4 hnl).mono ?_
        rintro e w5 ⟨rfl, vr5, vn5, vp5, hr5, hf5⟩
        have HR5 := hidK hr5
        have HF5 := hidK (HF4.out.trans hf5)
        clear hr5 hf5 hr4 HF4
        go_wp2_with fail
        go_roundg g'
        case measure => have := HGK.out; omega
        case rel =>
          refine ⟨_, ok4, addN (2, whole, n4) st4, vr5, vn5, vp5, rfl, rfl, ?_, hat4, HW4.out, fun _ => ?_, HS.out, HR5.out, HF5.out⟩
          · show st.at_ ≤ st4.at_; omega
          · show t.size - st4.at_ < g'
            have a1 := HUF.out
            have a2 := HGK.out
            omega

/-- An expression, with fuel enough. -/
theorem expr_any (t : ByteArray) (ht : t.size ≤ 120) : ∀ (f : Nat) (st : PSt), t.size - st.at_ < f → ReadsBy 115 t (exprP t f) st := by
  intro f
  induction f with
  | zero => intro st h; omega
  | succ e ih =>
    intro st h
    exact or_any t (exprP t e) st ht (exprP_ok t e) (fun s hs hn => ih (adv s) (by have := nextB_lt (by omega) hn; rw [adv_at]; omega))
end Go.Proofs.Ytgjgjgihceijnaa

