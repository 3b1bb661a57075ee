/- Texts put together: WaWalk, LnPure, WaCut, WaLong, ScLaw. -/
import Derived.Test.YtgjgjgihceijnaaG41
import Derived.Test.YtgjgjgihceijnaaG43
import Derived.Test.YtgjgjgihceijnaaG06
import Derived.Test.YtgjgjgihceijnaaG39
import Derived.Test.YtgjgjgihceijnaaG42
import Derived.Test.YtgjgjgihceijnaaG25
import Derived.Deep.OwnRows
import Derived.Deep.DrawnRows
import Derived.Test.YtgjgjgihceijnaaRows
import Derived.ProofKit
import Derived.OpenShut
import Derived.ShutString
import Derived.ChangeOld
import Derived.Below
namespace Go.Proofs.Ytgjgjgihceijnaa
open Go.RowKit Go.Stn
/-- A row of which nothing is found yet. -/
structure NA (w : World) (b L : Nat) : Prop where
  c : ∀ i, i < L → w.cell? ⟨b, i, none⟩ = some (.slice none 0 0)
  f : ∀ i, w.frozen? ⟨b, i, none⟩ = false
theorem NA.blk {w w' : World} {b L : Nat} (h : NA w b L) (hB : w'.heap[b]? = w.heap[b]?) : NA w' b L :=
  ⟨fun i hi => (World.cell?_of_block (w := w) (a := ⟨b, i, none⟩) hB).trans (h.c i hi), fun i => (World.frozen?_of_block (w := w) (a := ⟨b, i, none⟩) hB).trans (h.f i)⟩
theorem made_nil (n k : Nat) (h : k < n) : (madeCells #[Value.slice none 0 0] n)[k]? = some (.slice none 0 0) := by
  unfold madeCells
  rw [Array.getElem?_map, Array.getElem?_range, if_pos h]
  simp [Nat.mod_one]
theorem NA.new (w : World) (L : Nat) (t : TypeId) : NA (w.alloc (.cells (madeCells #[.slice none 0 0] L) t)) w.heap.size L := by
  refine ⟨fun i hi => ?_, fun i => ?_⟩
  · rw [World.cell?_alloc_at _ _ _ i rfl]
    exact made_nil L i hi
  · have := heap_alloc_new w (.cells (madeCells #[.slice none 0 0] L) t)
    unfold World.frozen?
    simp only [this]
    simp
/-- The walk while its rows are laid. -/
structure WD (w W wr : World) (vd : Value) (k L : Nat) (rb : Nat → Nat) : Prop where
  bl : Below (w.heap.size + 1) W wr
  cc : ∀ i, i < 3 → wr.cell? ⟨w.heap.size + 1, i, none⟩ = W.cell? ⟨w.heap.size + 1, i, none⟩
  c3 : wr.cell? ⟨w.heap.size + 1, 3, none⟩ = some vd
  fz : ∀ i, wr.frozen? ⟨w.heap.size + 1, i, none⟩ = false
  ro : wr.ownsRow (w.heap.size + 1 + 1) 95 1 vd k (rowsL L rb k)
  ce : ∀ i, i < k → NA wr (rb i) L
  lo : ∀ i, i < k → w.heap.size + 2 ≤ rb i ∧ rb i < wr.heap.size
  ap : ∀ i q, i < k → vd.ownBlock = some q → rb i ≠ q
  ij : ∀ i j, i < k → j < k → i ≠ j → rb i ≠ rb j
  hz : w.heap.size + 2 ≤ wr.heap.size
theorem WD.more {w W wr w4 : World} {va : Option Addr} {vc k L g cap : Nat} {rb : Nat → Nat} {o o2 : Obj} (h : WD w W wr (.slice va k vc) k L rb) (ho : o = .cells (madeCells #[.slice none 0 0] L) 94)
    (hown : w4.ownsRow (w.heap.size + 1 + 1) 95 1 (.slice (some ⟨g, 0, none⟩) (k + 1) cap) (k + 1) (rowsL L rb k ++ [.slice (some ⟨wr.heap.size, 0, none⟩) L L]))
    (hgr : ((wr.drew.alloc o).alloc o2).grownBy w4 (Value.slice va k vc).ownBlock) (hat : (Value.slice va k vc).ownBlock = some g ∨ g = wr.heap.size + 2) :
    WD w W (w4.setCell ⟨w.heap.size + 1, 3, none⟩ (.slice (some ⟨g, 0, none⟩) (k + 1) cap)) (.slice (some ⟨g, 0, none⟩) (k + 1) cap) (k + 1) L (fun i => if i = k then wr.heap.size else rb i) := by
  have hzz := h.hz
  have hz4 := hgr.size
  have ez : ((wr.drew.alloc o).alloc o2).heap.size = wr.heap.size + 2 := by simp
  have hvd : ∀ q, (Value.slice va k vc).ownBlock = some q → w.heap.size + 2 ≤ q ∧ q < wr.heap.size := fun q hq => h.ro.lt q hq
  have hap : ∀ i q, i < k → (Value.slice va k vc).ownBlock = some q → rb i ≠ q := h.ap
  generalize (Value.slice va k vc).ownBlock = vo at *
  have keep1 : ∀ q, q < wr.heap.size + 1 → some q ≠ vo → w4.heap[q]? = (wr.drew.alloc o).heap[q]? := fun q hq hne => (hgr.block q (by omega) hne).trans (Below.heap_alloc (wr.drew.alloc o) o2 q (by simp; exact hq))
  have keep0 : ∀ q, q < wr.heap.size → some q ≠ vo → w4.heap[q]? = wr.heap[q]? := fun q hq hne => (keep1 q (by omega) hne).trans (Below.heap_alloc wr.drew o q hq)
  have hpne : some (w.heap.size + 1) ≠ vo := fun e => by have := hvd _ e.symm; omega
  have hp4 := keep0 (w.heap.size + 1) (by omega) hpne
  have hset : ∀ q, q ≠ w.heap.size + 1 → (w4.setCell ⟨w.heap.size + 1, 3, none⟩ (.slice (some ⟨g, 0, none⟩) (k + 1) cap)).heap[q]? = w4.heap[q]? := fun q hq => set_keep w4 _ 3 _ hq
  refine ⟨?_, fun i hi => ?_, ?_, fun i => ?_, ?_, fun i hi => ?_, fun i hi => ?_, fun i q hi hq => ?_, fun i j hi hj hne => ?_, ?_⟩
  · have hb4 : Below (w.heap.size + 1) W w4 := ⟨hgr.os.trans h.bl.os, hgr.tape.trans h.bl.tape, hgr.output.trans h.bl.output, by have := h.bl.size; omega, fun q hq => (keep0 q (by omega) (fun e => by have := hvd _ e.symm; omega)).trans (h.bl.block q hq)⟩
    exact hb4.setCell (p := ⟨w.heap.size + 1, 3, none⟩) (Nat.le_refl _) _
  · rw [World.cell?_setCell_other (h := by intro e; injection e; omega)]
    exact (World.cell?_of_block (w := wr) (a := ⟨w.heap.size + 1, i, none⟩) hp4).trans (h.cc i hi)
  · exact World.cell?_setCell_same _ _ _ ((World.cell?_of_block (w := wr) (a := ⟨w.heap.size + 1, 3, none⟩) hp4).trans h.c3)
  · rw [World.frozen?_setCell]
    exact (World.frozen?_of_block (w := wr) (a := ⟨w.heap.size + 1, i, none⟩) hp4).trans (h.fz i)
  · rw [rowsL_succ]
    exact ownsRow_setCell_below hown (show w.heap.size + 1 < w.heap.size + 1 + 1 by omega) _
  · by_cases e : i = k
    · simp only [e, if_true]
      refine NA.blk ?_ ((hset _ (by omega)).trans (keep1 wr.heap.size (by omega) (fun e => by have := hvd _ e.symm; omega)))
      rw [ho]
      exact NA.new wr.drew L _
    · simp only [if_neg e]
      have hl := h.lo i (by omega)
      exact (h.ce i (by omega)).blk ((hset _ (by omega)).trans (keep0 _ hl.2 (fun e2 => hap i _ (by omega) e2.symm rfl)))
  · have hz5 : (w4.setCell ⟨w.heap.size + 1, 3, none⟩ (.slice (some ⟨g, 0, none⟩) (k + 1) cap)).heap.size = w4.heap.size := by simp [World.setCell]
    rw [hz5]
    by_cases e : i = k
    · simp only [e, if_true]; omega
    · simp only [if_neg e]; have hl := h.lo i (by omega); omega
  · have hk' : g = q := by simpa [Value.ownBlock] using hq
    subst hk'
    by_cases e : i = k
    · simp only [e, if_true]
      rcases hat with h1 | h1
      · have := hvd _ h1; omega
      · omega
    · simp only [if_neg e]
      rcases hat with h1 | h1
      · exact hap i _ (by omega) h1
      · have hl := h.lo i (by omega); omega
  · by_cases e : i = k <;> by_cases e2 : j = k
    · omega
    · simp only [e, if_true, if_neg e2]; have hl := h.lo j (by omega); omega
    · simp only [e2, if_true, if_neg e]; have hl := h.lo i (by omega); omega
    · simp only [if_neg e, if_neg e2]; exact h.ij i j (by omega) (by omega) hne
  · have : (w4.setCell ⟨w.heap.size + 1, 3, none⟩ (.slice (some ⟨g, 0, none⟩) (k + 1) cap)).heap.size = w4.heap.size := by simp [World.setCell]
    omega
/-- All rows are laid. -/
theorem WD.done {w W wr : World} {sb cs ga gt ca ct : Nat} {rb : Nat → Nat} {all : List Nd} {tops : List Nat} {inp : ByteArray} (h : WD w W wr (.slice (some ⟨sb, 0, none⟩) all.length cs) all.length (inp.size + 1) rb)
    (hru : RuIn w ga gt all tops) (hBW : Below w.heap.size w W) (c0 : W.cell? ⟨w.heap.size + 1, 0, none⟩ = some (.slice (some ⟨ga, 0, none⟩) all.length ca)) (c1 : W.cell? ⟨w.heap.size + 1, 1, none⟩ = some (.slice (some ⟨gt, 0, none⟩) tops.length ct))
    (c2 : W.cell? ⟨w.heap.size + 1, 2, none⟩ = some (.string inp)) : WKn ⟨w.heap.size + 1, sb, ga, gt, ca, ct, cs, rb, all, tops, inp⟩ (fun _ => False) wr ∧ Below w.heap.size w wr ∧ ∀ k, (WAt.mk (w.heap.size + 1) sb ga gt ca ct cs rb all tops inp).R k → w.heap.size ≤ k := by
  have hz := h.hz
  have hB : Below w.heap.size w wr := hBW.trans (h.bl.mono (by omega))
  have ba := hru.ba
  have bt := hru.bt
  have hsb := h.ro.lt sb rfl
  have hrow : ∀ k, (WAt.mk (w.heap.size + 1) sb ga gt ca ct cs rb all tops inp).R k → w.heap.size + 2 ≤ k ∧ k ≠ sb := fun k ⟨i, hi, e⟩ => by
    have := h.lo i hi
    have := h.ap i sb hi rfl
    have e : k = rb i := e
    omega
  refine ⟨⟨(h.cc 0 (by omega)).trans c0, (h.cc 1 (by omega)).trans c1, (h.cc 2 (by omega)).trans c2, h.c3, hru.below hB, fun n hn => ?_, fun n x p hx hp => .inl ?_, fun n i hn => (h.ce n hn).f i, fun n k hn hk e => ?_, fun n hn => (h.lo n hn).2, ⟨by show w.heap.size + 1 < _; omega, hsb.2⟩, ⟨?_, ?_, ?_, ?_⟩, ⟨id, id, id, id, fun _ _ => id⟩⟩, hB, fun k hk => by have := hrow k hk; omega⟩
  · have := row_range h.ro n _ (rowsL_get hn)
    rw [Nat.zero_add] at this
    exact this
  · have hn := (List.getElem?_eq_some_iff.1 hx).1
    exact (h.ce n hn).c p (by show p < inp.size + 1; have hp : p ≤ inp.size := hp; omega)
  · apply Classical.byContradiction
    intro hc
    exact h.ij n k hn hk hc e
  · intro hr; have := hrow _ hr; simp only [] at this; omega
  · intro hr; exact (hrow _ hr).2 rfl
  · intro hr; have := hrow _ hr; simp only [] at this; omega
  · intro hr; have := hrow _ hr; simp only [] at this; omega

theorem Try.infoBoolS : (Try.prog.info? 94).map (fun i => (i.zero, i.size, i.bytes)) = some (some (.slice none 0 0), 1, 24) := by kernel_rfl
theorem Try.infoBoolSS : (Try.prog.info? 95).map (fun i => (i.zero, i.size, i.bytes)) = some (some (.slice none 0 0), 1, 24) := by kernel_rfl
theorem Try.wpMakeRows {d : Option Tmp} {x : Operand} {ty : TypeId} {p : String} {af : Array Edge} {gd : Option (Nat × Bool)} {a : Act} {X : World} {K : Act → World → Prop} {Q : Exit → Act → World → Prop}
    (h : okLen (a.eval x)) :
    Oper.wp Try.prog { dst := d, op := .makeSlice 95 x x, type := ty, pos := p, after := af, guard := gd } a X K Q = K (a.put d (.slice (some ⟨X.heap.size, 0, none⟩) (lenV (a.eval x)) (lenV (a.eval x)))) (X.alloc (.cells (madeCells #[.slice none 0 0] (lenV (a.eval x))) 94)) := by
  obtain ⟨z, hz, hl⟩ := h
  have hr := run_make_row' (P := Try.prog) 95 94 (.slice none 0 0) 24 Try.underlying95 Try.infoBoolS rfl .i64 .i64 z (by omega) (by omega) X
  unfold Oper.wp execOp
  simp only [hz, Sem.run_bind, hr, Result.andThen_ok, lenV, Int.toNat_natCast]
  rfl
attribute [local go_sem ↓] Go.wp_at_zero Go.wp_at_succ Try.wpMakeRows
set_option maxRecDepth 100000 in
set_option maxHeartbeats 2000000 in
theorem kwalk_any {all : List Nd} {tops : List Nat} {inp : ByteArray} {ga gt ca ct : Nat} {w : World} (hru : RuIn w ga gt all tops) (hne : 0 < all.length) (ha : all.length ≤ 2000000) (hs : inp.size ≤ 300) :
    Calls Try.prog 31 #[.agg #[.slice (some ⟨ga, 0, none⟩) all.length ca, .slice (some ⟨gt, 0, none⟩) tops.length ct], .string inp] w fun e w' =>
      ∃ pw sb cs rb, e = .returned (.pointer (some ⟨pw, 0, none⟩)) ∧ WKn ⟨pw, sb, ga, gt, ca, ct, cs, rb, all, tops, inp⟩ (fun _ => False) w' ∧ Below w.heap.size w w' ∧ ∀ k, (WAt.mk pw sb ga gt ca ct cs rb all tops inp).R k → w.heap.size ≤ k := by
  have HRU := hidK hru
  clear hru
  have HBW : Hid (Below w.heap.size w ((w.alloc (.cells #[.slice (some ⟨ga, 0, none⟩) all.length ca, .slice (some ⟨gt, 0, none⟩) tops.length ct] 49)).alloc (.cells #[.slice (some ⟨ga, 0, none⟩) all.length ca, .slice (some ⟨gt, 0, none⟩) tops.length ct, .string inp, .slice none 0 0] 114))) := ((Below.refl _ _).alloc (Nat.le_refl _) _).alloc (by simp) _
  have hzW : ((w.alloc (.cells #[.slice (some ⟨ga, 0, none⟩) all.length ca, .slice (some ⟨gt, 0, none⟩) tops.length ct] 49)).alloc (.cells #[.slice (some ⟨ga, 0, none⟩) all.length ca, .slice (some ⟨gt, 0, none⟩) tops.length ct, .string inp, .slice none 0 0] 114)).heap.size = w.heap.size + 2 := by simp
  have HZW := hidK hzW
  have HP : Hid (∀ (i : Nat) (v : Value), [Value.slice (some ⟨ga, 0, none⟩) all.length ca, .slice (some ⟨gt, 0, none⟩) tops.length ct, .string inp, .slice none 0 0][i]? = some v → ((w.alloc (.cells #[.slice (some ⟨ga, 0, none⟩) all.length ca, .slice (some ⟨gt, 0, none⟩) tops.length ct] 49)).alloc (.cells #[.slice (some ⟨ga, 0, none⟩) all.length ca, .slice (some ⟨gt, 0, none⟩) tops.length ct, .string inp, .slice none 0 0] 114)).cell? ⟨w.heap.size + 1, i, none⟩ = some v) := fun i v hv => (World.cell?_alloc_at _ _ _ i (by simp)).trans (by simpa using hv)
  have HFZ : Hid (∀ i, ((w.alloc (.cells #[.slice (some ⟨ga, 0, none⟩) all.length ca, .slice (some ⟨gt, 0, none⟩) tops.length ct] 49)).alloc (.cells #[.slice (some ⟨ga, 0, none⟩) all.length ca, .slice (some ⟨gt, 0, none⟩) tops.length ct, .string inp, .slice none 0 0] 114)).frozen? ⟨w.heap.size + 1, i, none⟩ = false) := fun i => by
    have := heap_alloc_new (w.alloc (.cells #[.slice (some ⟨ga, 0, none⟩) all.length ca, .slice (some ⟨gt, 0, none⟩) tops.length ct] 49)) (.cells #[.slice (some ⟨ga, 0, none⟩) all.length ca, .slice (some ⟨gt, 0, none⟩) tops.length ct, .string inp, .slice none 0 0] 114)
    rw [show (w.alloc (.cells #[.slice (some ⟨ga, 0, none⟩) all.length ca, .slice (some ⟨gt, 0, none⟩) tops.length ct] 49)).heap.size = w.heap.size + 1 by simp] at this
    unfold World.frozen?
    simp only [this]
    simp
  have HC : Hid (((w.alloc (.cells #[.slice (some ⟨ga, 0, none⟩) all.length ca, .slice (some ⟨gt, 0, none⟩) tops.length ct] 49)).alloc (.cells #[.slice (some ⟨ga, 0, none⟩) all.length ca, .slice (some ⟨gt, 0, none⟩) tops.length ct, .string inp, .slice none 0 0] 114)).cell? ⟨w.heap.size, 0, none⟩ = some (.slice (some ⟨ga, 0, none⟩) all.length ca)) := by
    exact ((((Below.refl (w.heap.size + 1) (w.alloc _)).alloc (by simp) _).cell (p := ⟨w.heap.size, 0, none⟩) (by show w.heap.size < w.heap.size + 1; omega)).trans (World.cell?_alloc_at _ _ _ 0 rfl)).trans rfl
  have HD0 : Hid (WD w ((w.alloc (.cells #[.slice (some ⟨ga, 0, none⟩) all.length ca, .slice (some ⟨gt, 0, none⟩) tops.length ct] 49)).alloc (.cells #[.slice (some ⟨ga, 0, none⟩) all.length ca, .slice (some ⟨gt, 0, none⟩) tops.length ct, .string inp, .slice none 0 0] 114)) ((w.alloc (.cells #[.slice (some ⟨ga, 0, none⟩) all.length ca, .slice (some ⟨gt, 0, none⟩) tops.length ct] 49)).alloc (.cells #[.slice (some ⟨ga, 0, none⟩) all.length ca, .slice (some ⟨gt, 0, none⟩) tops.length ct, .string inp, .slice none 0 0] 114)) (.slice none 0 0) 0 (inp.size + 1) (fun _ => 0)) := ⟨Below.refl _ _, fun _ _ => rfl, HP.out 3 _ rfl, HFZ.out, World.ownsRow_nil _ _ _ _, fun i h => by omega, fun i h => by omega, fun i k h => by omega, fun i j h => by omega, by rw [HZW.out]; omega⟩
  clear hzW
  go_enter Try.func31, Try.ntmps31
  go_upto_region 2 with fail
  generalize ((w.alloc (.cells #[.slice (some ⟨ga, 0, none⟩) all.length ca, .slice (some ⟨gt, 0, none⟩) tops.length ct] 49)).alloc (.cells #[.slice (some ⟨ga, 0, none⟩) all.length ca, .slice (some ⟨gt, 0, none⟩) tops.length ct, .string inp, .slice none 0 0] 114)) = W at *
  go_wp2
  go_loopw [6] (fun ii wr => ∃ (k : Nat) (vd : Value) (rb : Nat → Nat), k ≤ all.length ∧ ii = .int .i64 (k : Int) ∧ WD w W wr vd k (inp.size + 1) rb) (fun ii _ => all.length - (intOf ii).toNat)
  case atStart => exact ⟨0, _, _, Nat.zero_le _, rfl, HD0.out⟩
  case round =>
    obtain ⟨k, vd, rb, hka, rfl, hwd⟩ := hrel
    have HWD := hidK hwd
    obtain ⟨va, vc, hv⟩ := rowSlice hwd.ro
    subst hv
    clear hwd HD0
    have c0 := (HWD.out.bl.cell (p := ⟨w.heap.size, 0, none⟩) (by show w.heap.size < w.heap.size + 1; omega)).trans HC.out
    by_cases hlt : k < all.length
    · have c3 := HWD.out.c3
      have f3 := HWD.out.fz 3
      have hz := HWD.out.hz
      have hvl : ∀ q, (Value.slice va k vc).ownBlock = some q → w.heap.size + 2 ≤ q ∧ q < wr.heap.size := fun q hq => HWD.out.ro.lt q hq
      obtain ⟨L, hL⟩ : ∃ L, inp.size + 1 = L := ⟨_, rfl⟩
      have hLI : (inp.size : Int) + 1 = (L : Int) := by omega
      have hwr : IntKind.i64.wrap ((inp.size : Int) + 1) = (L : Int) := by rw [hLI]; exact IntWalk.i64_in _ (by omega)
      have hL301 : L ≤ 301 := by omega
      have hwr2 : IntKind.i64.wrap (L : Int) = (L : Int) := IntWalk.i64_in _ (by omega)
      rw [hL] at HWD
      replace hL := hidK hL
      have hol : okLen (.int .i64 (L : Int)) := ⟨L, rfl, by omega⟩
      have hll : lenV (.int .i64 (L : Int)) = L := by simp [lenV]
      have x1 : (wr.alloc (.cells (madeCells #[.slice none 0 0] L) 94)).cell? ⟨w.heap.size + 1, 3, none⟩ = some (.slice va k vc) := (World.cell?_of_block (w := wr) (a := ⟨w.heap.size + 1, 3, none⟩) (Below.heap_alloc _ _ _ (show w.heap.size + 1 < wr.heap.size by omega))).trans c3
      have x2 : ((wr.alloc (.cells (madeCells #[.slice none 0 0] L) 94)).alloc (.cells #[.slice (some ⟨wr.heap.size, 0, none⟩) L L] 95)).cell? ⟨w.heap.size + 1, 3, none⟩ = some (.slice va k vc) := (World.cell?_of_block (w := wr) (a := ⟨w.heap.size + 1, 3, none⟩) ((Below.heap_alloc _ _ _ (by simp; omega)).trans (Below.heap_alloc _ _ _ (show w.heap.size + 1 < wr.heap.size by omega)))).trans c3
      go_upto_region 5 with fail
      go_region_law ((refine step_app1 (wr.drew.alloc (.cells (madeCells #[.slice none 0 0] L) 94)) rfl (.tmp 22) (.tmp 27) 112 rfl (w.heap.size + 1 + 1) 95 (.slice none 0 0) 1 24 Try.underlying112 Try.infoBoolSS rfl (by decide) (by decide) _ k (rowsL L rb k) [.slice (some ⟨wr.heap.size, 0, none⟩) L L] _ (by simp [Act.eval]) (HWD.out.ro.drew.alloc _) (wr.heap.size + 1) (by simp) (by simp [Act.eval]) rfl (by simp [Value.oneCell']) (by omega) (by simp; omega) ?_; intro g4 cap4 w4 hown4 hgrow4 hat4 hlt4; have e4 : w4.heap[w.heap.size + 1]? = wr.heap[w.heap.size + 1]? := ((hgrow4.block (w.heap.size + 1) (by simp; omega) (fun e => by have := hvl _ e.symm; omega)).trans (Below.heap_alloc _ _ _ (by simp; omega))).trans (Below.heap_alloc _ _ _ (by show w.heap.size + 1 < wr.heap.size; omega)); have m3 := (World.cell?_of_block (w := wr) (a := ⟨w.heap.size + 1, 3, none⟩) e4).trans c3; have n3 := (World.frozen?_of_block (w := wr) (a := ⟨w.heap.size + 1, 3, none⟩) e4).trans f3; have HMO := hidK (HWD.out.more rfl hown4 hgrow4 (hat4.imp id (fun h => h.trans (by simp))))))
      all_goals
        go_wp2
        go_roundw
        case rel => exact ⟨k + 1, _, _, hlt, by go_num, by rw [hL.out]; exact HMO.out⟩
        case measure => simp [intOf]; omega
    · have e : k = all.length := by omega
      subst e
      rcases ownsRow_shape HWD.out.ro with h1 | ⟨g, c, h1⟩
      · injection h1 with _ h2; omega
      · injection h1 with h1 _ h3
        subst h1 h3
        have HDN := hidK (HWD.out.done HRU.out HBW.out (HP.out 0 _ rfl) (HP.out 1 _ rfl) (HP.out 2 _ rfl))
        clear HWD
        go_wp2
        go_ret
        exact ⟨_, rfl, _, _, _, HDN.out⟩
end Go.Proofs.Ytgjgjgihceijnaa

namespace Go.Stn
theorem runP_pre {s inp : ByteArray} : ∀ (f p c : Nat) (H : List (Int × Int × Int)) (n : Nat) (T : List (Int × Int × Int)), (runP s inp f p c H n T).1 = T ++ (runP s inp f p c H n []).1 := by
  intro f
  induction f with
  | zero => intro p c H n T; simp [runP]
  | succ e ih =>
    intro p c H n T
    rw [runP, runP]
    by_cases h1 : p < inp.size
    · rw [if_pos h1, if_pos h1]
      by_cases h2 : (lng s inp c p).1 = -1
      · rw [if_pos h2, if_pos h2]; simp
      · rw [if_neg h2, if_neg h2, ih]
        conv => rhs; rw [ih]
        split <;> simp
    · rw [if_neg h1, if_neg h1]; simp

end Go.Stn

namespace Go.Stn
open Go.Proofs.Ytgjgjgihceijnaa (compP)
theorem leadI_no {x : Nat} : leadI x = -1 ↔ x = 255 := by
  unfold leadI
  split
  · simp [*]
  · constructor
    · intro h; omega
    · intro h; contradiction
theorem leadI_nat2 {x : Nat} (h : x ≠ 255) : (leadI x).toNat = x := by
  unfold leadI; rw [if_neg h]; omega
theorem step_run (s inp : ByteArray) (c p : Nat) : ∀ d, stepTo s inp c p d = runA (fun p b => leadI (leadN s c p b)) 0 (seg inp p (p + d)) := by
  intro d
  induction d with
  | zero => rw [Nat.add_zero, seg_nil]; rfl
  | succ d ih =>
    rw [seg_app inp (show p ≤ p + d by omega) (show p + d ≤ p + (d + 1) by omega), show p + (d + 1) = p + d + 1 by omega, seg_one, stepTo, ih]
    cases e : runA (fun p b => leadI (leadN s c p b)) 0 (seg inp p (p + d)) with
    | none => rw [runA_app, e]
    | some st =>
      rw [runA_snoc e]
      by_cases h : leadN s c st (bt inp (p + d)) = 255
      · simp only [h, if_true]
        rw [if_pos (leadI_no.2 rfl)]
      · simp only [if_neg h]
        rw [if_neg (fun hh => h (leadI_no.1 hh)), leadI_nat2 h]
theorem tok_obs (s inp : ByteArray) (c p d : Nat) : tokAt s inp c p d = if 0 < obsA (markN s c) (fun p b => leadI (leadN s c p b)) 0 (seg inp p (p + d)) then some (obsA (markN s c) (fun p b => leadI (leadN s c p b)) 0 (seg inp p (p + d)) - 1) else none := by
  unfold tokAt obsA
  rw [step_run]
  cases runA (fun p b => leadI (leadN s c p b)) 0 (seg inp p (p + d)) with
  | none => simp
  | some st => rfl
/-- What is so of the d bytes from p on. -/
theorem tok_goes {rs : List Tr} {s inp : ByteArray} (h : ImgFile (rulesOf false rs) s) (h1 : nConds (rulesOf false rs) = 1) {p d : Nat} (hd : 0 < d) (hp : p + d ≤ inp.size) :
    (tokAt s inp 0 p d = none ∧ ∀ (i : Nat) (r : Tr), rs[i]? = some r → ¬ GoesTo r inp p (p + d)) ∨
    ∃ (i : Nat) (r : Tr), tokAt s inp 0 p d = some i ∧ rs[i]? = some r ∧ GoesTo r inp p (p + d) ∧ ∀ (i' : Nat) (r' : Tr), i' < i → rs[i']? = some r' → ¬ GoesTo r' inp p (p + d) := by
  have hseg : ∃ b u, seg inp p (p + d) = b :: u := by
    cases e : seg inp p (p + d) with
    | nil => have := congrArg List.length e; rw [seg_len, List.length_nil] at this; omega
    | cons b u => exact ⟨b, u, rfl⟩
  obtain ⟨b, u, e⟩ := hseg
  have ht := h.tok 0 (by omega) b u (by rw [← e]; exact seg_lets inp p (p + d))
  rw [← e] at ht
  rw [tok_obs]
  have hget : ∀ (r : Nat) (x : RuleX), (rulesOf false rs)[r]? = some x → ∃ q, rs[r]? = some q ∧ x = ruleOfT false q := fun r x hx => by
    unfold rulesOf at hx
    rw [List.getElem?_map] at hx
    cases e : rs[r]? with
    | none => rw [e] at hx; cases hx
    | some q => rw [e] at hx; injection hx with hx; exact ⟨q, rfl, hx.symm⟩
  have hput : ∀ (r : Nat) (q : Tr), rs[r]? = some q → (rulesOf false rs)[r]? = some (ruleOfT false q) := fun r q hq => by
    unfold rulesOf; rw [List.getElem?_map, hq]; rfl
  have hno : ∀ (r : Nat) (q : Tr), rs[r]? = some q → (∀ (x : RuleX), (rulesOf false rs)[r]? = some x → ¬ (x.1 0 = true ∧ W x.2.2 (seg inp p (p + d)))) → ¬ GoesTo q inp p (p + d) := fun r q hq hx hg =>
    hx _ (hput r q hq) ⟨aF_zero, hg.2.2⟩
  rcases ht with ⟨e1, e2⟩ | ⟨r, x, e1, e2, e3, e4⟩
  · left
    rw [e1]
    exact ⟨rfl, fun i r hr => hno i r hr (e2 i)⟩
  · right
    obtain ⟨q, q1, rfl⟩ := hget r x e2
    rw [e1]
    exact ⟨r, q, by simp, q1, ⟨by omega, hp, e3.2⟩, fun i' r' hi hr => hno i' r' hr (fun x hx => e4 i' x hi hx)⟩
/-- The longest word from p on, and the first tree that has it. -/
def LongT (rs : List Tr) (inp : ByteArray) (p : Nat) (r : Int) (q : Nat) : Prop :=
  (r = -1 ∧ q = p ∧ ∀ (q' i : Nat) (t : Tr), p < q' → rs[i]? = some t → ¬ GoesTo t inp p q') ∨
  ∃ (i : Nat) (t : Tr), r = (i : Int) ∧ p < q ∧ q ≤ inp.size ∧ rs[i]? = some t ∧ GoesTo t inp p q ∧ (∀ (i' : Nat) (t' : Tr), i' < i → rs[i']? = some t' → ¬ GoesTo t' inp p q) ∧ ∀ (q' i' : Nat) (t' : Tr), q < q' → rs[i']? = some t' → ¬ GoesTo t' inp p q'
theorem long_D {rs : List Tr} {s inp : ByteArray} (h : ImgFile (rulesOf false rs) s) (h1 : nConds (rulesOf false rs) = 1) {p : Nat} : ∀ d, p + d ≤ inp.size → (∀ (q' i : Nat) (t : Tr), p + d < q' → rs[i]? = some t → ¬ GoesTo t inp p q') → LongT rs inp p (longD s inp 0 p d).1 (longD s inp 0 p d).2 := by
  intro d
  induction d with
  | zero =>
    intro _ hn
    exact .inl ⟨rfl, rfl, fun q' i t hq => hn q' i t (by omega)⟩
  | succ d ih =>
    intro hd hn
    rcases tok_goes h h1 (p := p) (d := d + 1) (by omega) hd with ⟨e1, e2⟩ | ⟨i, r, e1, e2, e3, e4⟩
    · rw [longD_none e1]
      refine ih (by omega) (fun q' i t hq ht => ?_)
      by_cases e : q' = p + (d + 1)
      · rw [e]; exact e2 i t ht
      · exact hn q' i t (by omega) ht
    · rw [longD_some e1]
      exact .inr ⟨i, r, rfl, by show p < p + (d + 1); omega, hd, e2, e3, e4, hn⟩
theorem long_T {rs : List Tr} {s inp : ByteArray} (h : ImgFile (rulesOf false rs) s) (h1 : nConds (rulesOf false rs) = 1) {p : Nat} (hp : p ≤ inp.size) : LongT rs inp p (lng s inp 0 p).1 (lng s inp 0 p).2 :=
  long_D h h1 (inp.size - p) (by omega) (fun q' i t hq _ hg => by have := hg.2.1; omega)
theorem long_one {rs : List Tr} {inp : ByteArray} {p : Nat} {r r' : Int} {q q' : Nat} (h : LongT rs inp p r q) (k : LongT rs inp p r' q') : r = r' ∧ q = q' := by
  rcases h with ⟨h1, h2, h3⟩ | ⟨i, t, h1, h2, h3, h4, h5, h6, h7⟩ <;> rcases k with ⟨k1, k2, k3⟩ | ⟨j, u, k1, k2, k3, k4, k5, k6, k7⟩
  · exact ⟨by rw [h1, k1], by rw [h2, k2]⟩
  · exact absurd k5 (h3 _ _ _ k2 k4)
  · exact absurd h5 (k3 _ _ _ h2 h4)
  · have hq : q = q' := by
      rcases Nat.lt_trichotomy q q' with e | e | e
      · exact absurd k5 (h7 _ _ _ e k4)
      · exact e
      · exact absurd h5 (k7 _ _ _ e h4)
    subst hq
    refine ⟨?_, rfl⟩
    rcases Nat.lt_trichotomy i j with e | e | e
    · exact absurd h5 (k6 _ _ e h4)
    · rw [h1, k1, e]
    · exact absurd k5 (h6 _ _ e k4)
/-- What Words asks of the tokens from p on. -/
def CutT (rs : List Tr) (inp : ByteArray) : Nat → List (Int × Int × Int) → Prop
  | p, [] => p = inp.size
  | p, x :: l => p < inp.size ∧ x.2.1 = (p : Int) ∧ ∃ q : Nat, x.2.2 = (q : Int) ∧ LongT rs inp p x.1 q ∧ (x.1 = -1 → l = []) ∧ (x.1 ≠ -1 → CutT rs inp q l)
theorem cut_T {rs : List Tr} {s inp : ByteArray} (h : ImgFile (rulesOf false rs) s) (h1 : nConds (rulesOf false rs) = 1) : ∀ (f p : Nat) (H : List (Int × Int × Int)) (n : Nat), p ≤ inp.size → inp.size - p < f → CutT rs inp p (runP s inp f p 0 H n []).1 := by
  have hM := h.fm
  intro f
  induction f with
  | zero => intro p H n _ hf; omega
  | succ f ih =>
    intro p H n hp hf
    by_cases hlt : p < inp.size
    · have hl := long_T h h1 (inp := inp) hp
      rcases lng_cases h.ok (c := 0) (by omega) hp with e | ⟨r, q, e, hr, hq1, hq2⟩
      · rw [runP_none hlt e]
        rw [e] at hl
        exact ⟨hlt, rfl, p, rfl, hl, fun _ => rfl, fun hc => absurd rfl hc⟩
      · rw [runP_some hlt e]
        rw [e] at hl
        have hb : thenB s r = 0 := by
          have hrl : r < (rulesOf false rs).length := by rw [← h.fr]; exact hr
          have hx := h.fb r _ (List.getElem?_eq_getElem hrl)
          have : ((rulesOf false rs)[r]).2.1 = 0 := by
            have hm := List.getElem_mem hrl
            generalize (rulesOf false rs)[r] = x at *
            unfold rulesOf at hm
            rw [List.mem_map] at hm
            obtain ⟨t, _, rfl⟩ := hm
            rfl
          omega
        rw [hb, if_neg (by omega), if_neg (by omega), runP_pre]
        exact ⟨hlt, rfl, q, rfl, hl, fun hc => absurd hc (by simp only []; omega), fun _ => ih q _ _ hq2 (by omega)⟩
    · rw [runP_end hlt]
      show p = inp.size
      omega
/-- The tokens of a scan by the image of a file of trees. -/
theorem scan_T {rs : List Tr} {s inp : ByteArray} (h : ImgFile (rulesOf false rs) s) (h1 : nConds (rulesOf false rs) = 1) : CutT rs inp 0 (cutP s inp 0).1 :=
  cut_T h h1 _ 0 [] 0 (Nat.zero_le _) (by omega)
end Go.Stn

namespace Go.Proofs.Ytgjgjgihceijnaa
open Go.RowKit Go.Stn
set_option maxRecDepth 100000 in
set_option maxHeartbeats 2000000 in
theorem klongest_any {m : WAt} {X : Nat → Prop} {w : World} (ho : ∀ (j : Nat) (y : Nd), m.all[j]? = some y → OverOk m j y) (hs : m.inp.size ≤ 300) (_ha : m.all.length ≤ 2000000) (ht : m.tops.length ≤ 2000000) (hk : WKn m X w) (hX : ∀ k, X k → k < w.heap.size) {p : Nat} (hp : p ≤ m.inp.size) :
    Calls Try.prog 32 #[.pointer (some ⟨m.pw, 0, none⟩), .int .i64 (p : Int)] w fun e w' => ∃ (r : Int) (q : Nat), e = .returned (.tuple #[.int .i64 r, .int .i64 (q : Int)]) ∧ LongT (treesOf m.all m.tops) m.inp p r q ∧ WKn m X w' ∧ Kept m.R w w' := by
  have HLq : Hid (∀ q, q ≤ m.inp.size ↔ q < m.L) := fun q => by unfold WAt.L; omega
  have HLL : Hid (m.L = m.inp.size + 1) := rfl
  have HO := hidK ho
  have HX := hidK hX
  have HK := hidK hk
  have c2 := hk.c2
  have HTl : Hid ((treesOf m.all m.tops).length = m.tops.length) := treesOf_len _ _
  have HE0 : Hid (∀ (q' i : Nat) (t : Tr), m.inp.size < q' → (treesOf m.all m.tops)[i]? = some t → ¬ GoesTo t m.inp p q') := fun q' i t h1 _ h2 => by have := h2.2.1; omega
  clear ho hX hk
  go_enter Try.func32, Try.ntmps32
  go_wp2
  clear c2
  go_loopw [6] (fun ii wr => ∃ q : Nat, p ≤ q ∧ q ≤ m.inp.size ∧ ii = .int .i64 (q : Int) ∧ (∀ (q' i : Nat) (t : Tr), q < q' → (treesOf m.all m.tops)[i]? = some t → ¬ GoesTo t m.inp p q') ∧ WKn m X wr ∧ Kept m.R w wr) (fun ii _ => (intOf ii).toNat - p)
  case atStart => exact ⟨m.inp.size, hp, Nat.le_refl _, rfl, HE0.out, HK.out, Kept.refl _ _⟩
  case round =>
    obtain ⟨q, hpq, hqs, rfl, hno, hwk, hkp⟩ := hrel
    have HN := hidK hno
    have HW := hidK hwk
    have HP := hidK hkp
    clear hno hwk hkp HK HE0
    by_cases hlt : p < q
    · have d0 : decide ((p : Int) < (q : Int)) = true := by simp; omega
      have hqI : (0 : Int) ≤ (q : Int) ∧ (q : Int) < (m.L : Int) := by have := HLL.out; omega
      have hw1 : IntKind.i64.wrap ((q : Int) - 1) = (q : Int) - 1 := IntWalk.i64_in _ (by omega)
      go_wp2_with fail
      go_loopw [7] (fun ii wr => ∃ i : Nat, i ≤ m.tops.length ∧ ii = .int .i64 (i : Int) ∧ (∀ (i' : Nat) (t : Tr), i' < i → (treesOf m.all m.tops)[i']? = some t → ¬ GoesTo t m.inp p q) ∧ WKn m X wr ∧ Kept m.R w wr) (fun ii _ => m.tops.length - (intOf ii).toNat)
      case atStart => exact ⟨0, Nat.zero_le _, rfl, fun i' t h => by omega, HW.out, HP.out⟩
      case round =>
        obtain ⟨i, hi, rfl, hnj, hwk, hkp⟩ := hrel
        have HN2 := hidK hnj
        have HW2 := hidK hwk
        have HP2 := hidK hkp
        have c1 := hwk.c1
        clear hnj hwk hkp HW HP
        by_cases hli : i < m.tops.length
        · have hiI : (0 : Int) ≤ (i : Int) ∧ (i : Int) < (m.tops.length : Int) := by omega
          obtain ⟨t, htp⟩ : ∃ t, m.tops[i]? = some t := ⟨_, List.getElem?_eq_getElem hli⟩
          have hta := HW2.out.ru.ok i t htp
          obtain ⟨x, hx⟩ : ∃ x, m.all[t]? = some x := ⟨_, List.getElem?_eq_getElem hta⟩
          have tc := HW2.out.ru.tp i t htp
          have HTR := hidK (treesOf_get htp hx)
          have HXX := hidK hx
          clear htp hx
          go_wp2_with fail
          refine (HO.out t x HXX.out X _ p HW2.out (fun k hk => Nat.lt_of_lt_of_le (HX.out k hk) HP2.out.size) hp).mono ?_
          rintro e w2 ⟨g, rfl, hk2, hp2, hl2⟩
          obtain ⟨al, hba, hal⟩ := hl2.al
          have y0 := hba.c q (by have := HLL.out; omega)
          have HAL := hidK (hal q hqs)
          have HK2 := hidK hk2
          have HP3 := hidK (HP2.out.trans hp2)
          clear hk2 hp2 hl2 hba hal c1 tc HW2
          cases hv : al q with
          | true =>
            rw [hv] at y0
            have HG : Hid (GoesTo x.tr m.inp p q) := HAL.out.1 hv
            clear hv HAL
            go_wp2
            go_ret2
            exact ⟨_, _, rfl, .inr ⟨i, x.tr, rfl, hlt, hqs, HTR.out, HG.out, HN2.out, HN.out⟩, HK2.out, HP3.out⟩
          | false =>
            rw [hv] at y0
            have HG : Hid (∀ (i' : Nat) (t : Tr), i' < i + 1 → (treesOf m.all m.tops)[i']? = some t → ¬ GoesTo t m.inp p q) := fun i' t' h1 h2 h3 => by
              by_cases e : i' = i
              · subst e
                rw [HTR.out] at h2
                injection h2 with h2
                subst h2
                rw [HAL.out.2 h3] at hv
                cases hv
              · exact HN2.out i' t' (by omega) h2 h3
            clear hv HAL
            go_wp2
            go_roundw
            case rel => exact ⟨i + 1, hli, by go_num, HG.out, HK2.out, HP3.out⟩
            case measure => simp [intOf]; omega
        · have HG : Hid (∀ (q' i : Nat) (t : Tr), q - 1 < q' → (treesOf m.all m.tops)[i]? = some t → ¬ GoesTo t m.inp p q') := fun q' i' t' h1 h2 h3 => by
            by_cases e : q' = q
            · subst e
              have := (List.getElem?_eq_some_iff.1 h2).1
              rw [HTl.out] at this
              exact HN2.out i' t' (by omega) h2 h3
            · exact HN.out q' i' t' (by omega) h2 h3
          have dj : decide ((i : Int) < (m.tops.length : Int)) = false := by simp; omega
          go_wp2
          go_roundw
          case rel => exact ⟨q - 1, by omega, by omega, by go_num, HG.out, HW2.out, HP2.out⟩
          case measure => simp [intOf]; omega
    · have d0 : decide ((p : Int) < (q : Int)) = false := by simp; omega
      have HG : Hid (∀ (q' i : Nat) (t : Tr), p < q' → (treesOf m.all m.tops)[i]? = some t → ¬ GoesTo t m.inp p q') := fun q' i t h1 => HN.out q' i t (by omega)
      go_wp2
      go_ret2
      exact ⟨_, _, rfl, .inl ⟨rfl, rfl, HG.out⟩, HW.out, HP.out⟩
end Go.Proofs.Ytgjgjgihceijnaa

namespace Go.Stn
theorem runP_told {s inp : ByteArray} (hi : imgOk s = true) : ∀ (f p c : Nat) (H : List (Int × Int × Int)) (n : Nat) (T : List (Int × Int × Int)), c < iM s → (runP s inp f p c H n T).1.length ≤ T.length + f := by
  intro f
  induction f with
  | zero => intro p c H n T _; simp [runP]
  | succ e ih =>
    intro p c H n T hc
    by_cases hlt : p < inp.size
    · rcases lng_cases hi hc (Nat.le_of_lt hlt) with hno | ⟨r, q, hyes, hr, hpq, hq⟩
      · rw [runP_none hlt hno]; simp
      · rw [runP_some hlt hyes]
        have := then_le hi hr
        have := ih q (if 1 < thenB s r then thenB s r - 2 else c) (H ++ (lookFrom s inp c H p).1) (n + (lookFrom s inp c H p).2) (if thenB s r = 1 then T else T ++ [((r : Int), (p : Int), (q : Int))]) (by split <;> omega)
        refine Nat.le_trans this ?_
        split <;> simp <;> omega
    · rw [runP_end hlt]; simp

theorem scanR_len (s inp : ByteArray) : (scanR s inp).1.length ≤ 1000 := by
  unfold scanR
  split
  · simp
  · rename_i h
    split
    · rename_i hi
      have hm := (img_head hi).2.2.1
      have := runP_told (inp := inp) hi (inp.size + 1) 0 0 [] 0 [] (by omega)
      unfold cutP
      simp at this ⊢
      omega
    · simp
end Go.Stn
namespace Go.Proofs.Ytgjgjgihceijnaa
open Go.ChangeShapes Go.WideShapes Go.ChangeAt Go.RowKit Go.Stn
open Go.ChangeMaps (open_string shut_string)

end Go.Proofs.Ytgjgjgihceijnaa

