/- Texts put together: KpApart, KpTold. -/
import Derived.Test.YtgjgjgihceijnaaG36
import Derived.Test.YtgjgjgihceijnaaG17
import Derived.BigRegion
import Derived.BigQuiet
/- stencilkeep.Table's apart: a walk. -/
namespace Go.Proofs.Ytgjgjgihceijnaa
open Go.RowKit Go.Stn

def rowsL (n : Nat) (db : Nat → Nat) (m : Nat) : List Value := (List.range m).map fun i => Value.slice (some ⟨db i, 0, none⟩) n n
theorem rowsL_get {n m i : Nat} {db : Nat → Nat} (h : i < m) : (rowsL n db m)[i]? = some (.slice (some ⟨db i, 0, none⟩) n n) := by
  unfold rowsL; rw [List.getElem?_map, List.getElem?_range h]; rfl
theorem rowsL_succ {n m nb : Nat} {db : Nat → Nat} : rowsL n (fun i => if i = m then nb else db i) (m + 1) = rowsL n db m ++ [.slice (some ⟨nb, 0, none⟩) n n] := by
  unfold rowsL
  rw [List.range_succ, List.map_append]
  congr 1
  · apply List.map_congr_left
    intro i hi
    have := List.mem_range.1 hi
    simp only []
    rw [if_neg (by omega)]
  · simp
/-- The rows of what is known, while they are laid. -/
structure DA (W w : World) (vd : Value) (m n : Nat) (db : Nat → Nat) : Prop where
  bl : Below W.heap.size W w
  ro : w.ownsRow W.heap.size 94 1 vd m (rowsL n db m)
  ce : ∀ i, i < m → BA w (db i) n (fun _ => false)
  lo : ∀ i, i < m → W.heap.size ≤ db i ∧ db i < w.heap.size
  ap : ∀ i k, i < m → vd.ownBlock = some k → db i ≠ k
  ij : ∀ i j, i < m → j < m → i ≠ j → db i ≠ db j
theorem BA.block {w w' : World} {ab n : Nat} {al : Nat → Bool} (h : BA w ab n al) (he : w'.heap[ab]? = w.heap[ab]?) : BA w' ab n al :=
  ⟨fun i hi => (World.cell?_of_block (w := w) (a := ⟨ab, i, none⟩) he).trans (h.c i hi), fun i => (World.frozen?_of_block (w := w) (a := ⟨ab, i, none⟩) he).trans (h.f i)⟩
theorem DA.start (W : World) (n : Nat) (db : Nat → Nat) : DA W W (.slice none 0 0) 0 n db :=
  ⟨Below.refl _ _, World.ownsRow_nil _ _ _ _, fun i h => by omega, fun i h => by omega, fun i k h => by omega, fun i j h => by omega⟩
theorem DA.ro1 {W w w1 : World} {vd : Value} {m n : Nat} {db : Nat → Nat} (h : DA W w vd m n db) (hg : w.grownBy w1 none) : w1.ownsRow W.heap.size 94 1 vd m (rowsL n db m) :=
  row_top h.ro (fun k hk => hg.block k (h.ro.lt k hk).2 (by simp))
theorem DA.more {W w w1 w4 : World} {vd : Value} {m n g cap : Nat} {db : Nat → Nat} {o : Obj} (h : DA W w vd m n db) (hg : w.grownBy w1 none) (hba : BA w1 w.heap.size n (fun _ => false)) (hz : w.heap.size < w1.heap.size)
    (hown : w4.ownsRow W.heap.size 94 1 (.slice (some ⟨g, 0, none⟩) (m + 1) cap) (m + 1) (rowsL n db m ++ [.slice (some ⟨w.heap.size, 0, none⟩) n n])) (hgr : (w1.alloc o).grownBy w4 vd.ownBlock) (hat : vd.ownBlock = some g ∨ g = w1.heap.size + 1) :
    DA W w4 (.slice (some ⟨g, 0, none⟩) (m + 1) cap) (m + 1) n (fun i => if i = m then w.heap.size else db i) := by
  have hWw := h.bl.size
  have hz4 := hgr.size
  have ez : (w1.alloc o).heap.size = w1.heap.size + 1 := by simp
  have hvd : ∀ k, vd.ownBlock = some k → W.heap.size ≤ k ∧ k < w.heap.size := fun k hk => h.ro.lt k hk
  have keep : ∀ k, k < w1.heap.size → some k ≠ vd.ownBlock → w4.heap[k]? = w1.heap[k]? := fun k hk hne => (hgr.block k (by omega) hne).trans (Below.heap_alloc _ _ _ hk)
  have keep0 : ∀ k, k < w.heap.size → some k ≠ vd.ownBlock → w4.heap[k]? = w.heap[k]? := fun k hk hne => (keep k (by omega) hne).trans (hg.block k hk (by simp))
  refine ⟨⟨?_, ?_, ?_, by omega, fun k hk => (keep0 k (by omega) (fun e => by have := hvd k e.symm; omega)).trans (h.bl.block k hk)⟩, by rw [rowsL_succ]; exact hown, fun i hi => ?_, fun i hi => ?_, fun i k hi hk => ?_, fun i j hi hj hne => ?_⟩
  · exact hgr.os.trans (hg.os.trans h.bl.os)
  · exact hgr.tape.trans (hg.tape.trans h.bl.tape)
  · exact hgr.output.trans (hg.output.trans h.bl.output)
  · by_cases e : i = m
    · simp only [e, if_true]
      exact hba.block (keep _ hz (fun e => by have := hvd _ e.symm; omega))
    · simp only [if_neg e]
      have hl := h.lo i (by omega)
      exact (h.ce i (by omega)).block (keep0 _ hl.2 (fun e2 => h.ap i _ (by omega) e2.symm rfl))
  · by_cases e : i = m
    · simp only [e, if_true]; omega
    · simp only [if_neg e]; have hl := h.lo i (by omega); omega
  · have hk' : g = k := by simpa [Value.ownBlock] using hk
    subst hk'
    by_cases e : i = m
    · simp only [e, if_true]
      rcases hat with h1 | h1
      · have := hvd _ h1; omega
      · omega
    · simp only [if_neg e]
      rcases hat with h1 | h1
      · exact h.ap i _ (by omega) h1
      · have hl := h.lo i (by omega); omega
  · by_cases e : i = m <;> by_cases e2 : j = m
    · omega
    · simp only [e, if_true, if_neg e2]; have hl := h.lo j (by omega); omega
    · simp only [e2, if_true, if_neg e]; have hl := h.lo i (by omega); omega
    · simp only [if_neg e, if_neg e2]; exact h.ij i j (by omega) (by omega) hne
/-- The rows, laid. -/
structure DB (W w : World) (dg n : Nat) (db : Nat → Nat) (d : Nat → Nat → Bool) : Prop where
  bl : Below W.heap.size W w
  da : DAt w dg n db d
  fz : ∀ i j, i < n → w.frozen? ⟨db i, j, none⟩ = false
  lo : ∀ i, i < n → W.heap.size ≤ db i
  ap : ∀ i, i < n → db i ≠ dg
  ij : ∀ i j, i < n → j < n → i ≠ j → db i ≠ db j
theorem DA.done {W w : World} {dg cap n : Nat} {db : Nat → Nat} (h : DA W w (.slice (some ⟨dg, 0, none⟩) n cap) n n db) : DB W w dg n db (fun _ _ => false) :=
  ⟨h.bl, ⟨fun i hi => by have := row_range h.ro i _ (rowsL_get hi); rw [Nat.zero_add] at this; exact this, fun i j hi hj => (h.ce i hi).c j hj, (h.ro.lt dg rfl).2, fun i hi => (h.lo i hi).2⟩, fun i j hi => (h.ce i hi).f j, fun i hi => (h.lo i hi).1, fun i hi => h.ap i _ hi rfl, h.ij⟩
theorem DB.below {W w w' : World} {dg n : Nat} {db : Nat → Nat} {d : Nat → Nat → Bool} (h : DB W w dg n db d) (hB : Below w.heap.size w w') : DB W w' dg n db d :=
  ⟨h.bl.trans (hB.mono h.bl.size), h.da.below hB (Nat.le_refl _), fun i j hi => (hB.frozen (p := ⟨db i, j, none⟩) (h.da.b1 i hi)).trans (h.fz i j hi), h.lo, h.ap, h.ij⟩
theorem DB.set {W w : World} {dg n : Nat} {db : Nat → Nat} {d : Nat → Nat → Bool} (h : DB W w dg n db d) {i j : Nat} (hi : i < n) (hj : j < n) (v : Bool) : DB W (w.setCell ⟨db i, j, none⟩ (.bool v)) dg n db (fun p q => if p = i ∧ q = j then v else d p q) := by
  refine ⟨h.bl.setCell (p := ⟨db i, j, none⟩) (h.lo i hi) _, ⟨fun p hp => ?_, fun p q hp hq => ?_, by simpa [World.setCell] using h.da.b0, fun p hp => by simpa [World.setCell] using h.da.b1 p hp⟩, fun p q hp => by rw [World.frozen?_setCell]; exact h.fz p q hp, h.lo, h.ap, h.ij⟩
  · rw [World.cell?_setCell_other (h := by intro e'; injection e' with e1; exact h.ap i hi e1)]; exact h.da.r p hp
  · by_cases e : p = i ∧ q = j
    · obtain ⟨rfl, rfl⟩ := e
      rw [if_pos ⟨rfl, rfl⟩]
      exact World.cell?_setCell_same _ _ _ (h.da.c p q hp hq)
    · rw [if_neg e, World.cell?_setCell_other (h := by
        intro e'; injection e' with e1 e2
        by_cases e3 : p = i
        · subst e3; exact e ⟨rfl, e2.symm⟩
        · exact h.ij p i hp hi e3 e1.symm)]
      exact h.da.c p q hp hq
theorem DB.drew {W w : World} {dg n : Nat} {db : Nat → Nat} {d : Nat → Nat → Bool} (h : DB W w dg n db d) : DB W w.drew dg n db d := h.below ⟨rfl, rfl, rfl, Nat.le_refl _, fun _ _ => rfl⟩

/-- What a table's load brings. -/
def tabOf (X : World) : Value → Value
  | .pointer (some a) => .agg #[(X.cell? ⟨a.block, 0, none⟩).getD undef, (X.cell? ⟨a.block, 1, none⟩).getD undef]
  | _ => undef
def loadsTab (X : World) (v : Value) : Prop := ∃ B x y, v = .pointer (some ⟨B, 0, none⟩) ∧ X.cell? ⟨B, 0, none⟩ = some x ∧ X.cell? ⟨B, 1, none⟩ = some y
theorem tabOf_eq {X : World} {B : Nat} {x y : Value} (h0 : X.cell? ⟨B, 0, none⟩ = some x) (h1 : X.cell? ⟨B, 1, none⟩ = some y) : tabOf X (.pointer (some ⟨B, 0, none⟩)) = .agg #[x, y] := by
  unfold tabOf; simp [h0, h1]
theorem Try.tabSize : (Try.prog.info? 35).map (fun i => i.size) = some 2 := by kernel_rfl
theorem Try.wpLoadTab {d : Option Tmp} {x : Operand} {ty : TypeId} {p : String} {af : Array Edge} {gd : Option (Nat × Bool)} {a : Act} {X : World} {K : Act → World → Prop} {Q : Exit → Act → World → Prop}
    (h : loadsTab X (a.eval x)) :
    Oper.wp Try.prog { dst := d, op := .load 35 x, type := ty, pos := p, after := af, guard := gd } a X K Q = K (a.put d (tabOf X (a.eval x))) X := by
  obtain ⟨B, u, v, hx, h0, h1⟩ := h
  have hb : X.rangeAt B 0 [u, v] := fun i z hz => by
    rcases i with _ | _ | i
    · simp at hz; subst hz; exact h0
    · simp at hz; subst hz; exact h1
    · simp at hz
  have hr := run_loadVar_mid (P := Try.prog) X B 0 35 [u, v] _ hb Try.underlying35 rfl Try.tabSize
  unfold Oper.wp execOp
  simp only [hx, Instr.loadAt, Instr.sureAddr, Sem.run_bind, Sem.run_pure, Result.andThen_ok, hr, tabOf_eq h0 h1]
  rfl
attribute [local go_sem ↓] Go.wp_at_zero Go.wp_at_succ Try.wpLoadTab

set_option maxRecDepth 100000 in
set_option maxHeartbeats 2000000 in
theorem kapart_any (v1 v2 : Value) (n K g1 cap1 g2 cap2 : Nat) (gr cr : Nat → Nat) (mk : Nat → Nat) (tc : Nat → Nat → Nat) (w : World) (h : TabAt w v1 v2 n K g1 cap1 g2 cap2 gr cr mk tc)
    (hn0 : 0 < n) (hn : n ≤ 100) (hK : K ≤ 256) (hr : ∀ p k, p < n → k < K → tc p k < n ∨ tc p k = 255) (hm : ∀ p, p < n → mk p ≤ 8)
    (hap : ∀ p q, p < n → q < n → p ≠ q → ¬ Eqv mk (fun p j => leadI (tc p j)) K (n + 1) p q) :
    Calls Try.prog 22 #[.agg #[v1, v2]] w fun e w' => e = .returned (.bool true) ∧ Below w.heap.size w w' := by
  obtain ⟨i0, hi0, hz0, hz1, hz2⟩ := info_parts Try.infoBool1
  have HI : Hid (Try.prog.info? 4 = some i0 ∧ i0.zero = some (.bool false) ∧ i0.size = 1 ∧ i0.bytes = 1) := ⟨hi0, hz0, hz1, hz2⟩
  clear hi0 hz0 hz1 hz2
  have HB0 : Hid (Below w.heap.size w (w.alloc (.cells #[v1, v2] 35))) := (Below.refl _ _).alloc (Nat.le_refl _) _
  have HT := hidZ (h.below HB0.out (Nat.le_refl _))
  have c0 : (w.alloc (.cells #[v1, v2] 35)).cell? ⟨w.heap.size, 0, none⟩ = some v1 := (World.cell?_alloc_at _ _ w.heap.size 0 rfl).trans rfl
  have c1 : (w.alloc (.cells #[v1, v2] 35)).cell? ⟨w.heap.size, 1, none⟩ = some v2 := (World.cell?_alloc_at _ _ w.heap.size 1 rfl).trans rfl
  have hsz : w.heap.size < (w.alloc (.cells #[v1, v2] 35)).heap.size := by simp
  have hv1 := h.e1
  have hv2 := h.e2
  subst hv1 hv2
  have HR := hidZ hr
  have HM := hidZ hm
  have HAP := hidZ hap
  clear h hr hm hap
  go_enter Try.func22, Try.ntmps22
  go_upto_region 1 with fail
  generalize w.alloc (.cells #[.slice (some ⟨g1, 0, none⟩) n cap1, .slice (some ⟨g2, 0, none⟩) n cap2] 35) = W at *
  have HC0 := hidZ c0
  have HC1 := hidZ c1
  go_upto_block 0 with fail
  clear c0 c1
  go_cut [4, 5] from 14 to 23 (fun vd _ wc => ∃ dg cap db, vd = .slice (some ⟨dg, 0, none⟩) n cap ∧ DB W wc dg n db (fun _ _ => false))
  case first =>
    go_wp2_with fail
    go_loopw [4, 5] (fun vd x wr => ∃ (m : Nat) (db : Nat → Nat), m ≤ n ∧ x = .int .i64 (m : Int) ∧ DA W wr vd m n db) (fun _ x _ => n - (intOf x).toNat)
    case atStart => exact ⟨0, fun _ => 0, by omega, rfl, DA.start _ _ _⟩
    case round =>
      obtain ⟨m, db, hmn, rfl, hda⟩ := hrel
      replace hda := hidZ hda
      obtain ⟨va, vcap, hv⟩ := rowSlice hda.out.ro
      subst hv
      by_cases hlt : m < n
      · have hW := hda.out.bl.size
        go_wp2_with (first
          | (at_make; refine wpList_make_full wr rfl _ _ 94 rfl wr.heap.size 4 i0 (.bool false) 1 Try.underlying94 HI.out.1 HI.out.2.1 HI.out.2.2.1 .i64 .i64 _ n n rfl rfl rfl rfl (by rw [HI.out.2.2.2]; omega) (by unfold maxLen; omega) (Nat.le_refl _) ?_; intro w1 hown hg; have hzz := (hown.lt wr.heap.size rfl).2; have HBA := hidZ (BA.new hown); have HG := hidZ hg; have HRO := hidZ (hda.out.ro1 hg); clear hown hg)
          | (at_builtin; refine wpList_app1 w1 rfl (.tmp 19) (.tmp 22) 95 rfl W.heap.size 94 (.slice none 0 0) 1 24 Try.underlying95 Try.infoBools rfl (by decide) (by decide) (.slice va m vcap) m (rowsL n db m) [.slice (some ⟨wr.heap.size, 0, none⟩) n n] _ rfl HRO.out _ rfl rfl rfl (by simp [Value.oneCell']) (by omega) (by omega) ?_; intro g4 cap4 w4 hown4 hgrow4 hat4 hlt4; have HMO := hidZ (hda.out.more HG.out HBA.out hzz hown4 hgrow4 hat4); clear hown4 hgrow4 hat4))
        go_roundw
        case rel => exact ⟨m + 1, _, hlt, by go_num, HMO.out⟩
        case measure => simp [intOf]; omega
      · have e : m = n := by omega
        subst e
        rcases ownsRow_shape hda.out.ro with h1 | ⟨g, c, h1⟩
        · injection h1 with _ h2; omega
        · injection h1 with h1 _ h3
          subst h1 h3
          go_wp2
          go_meet
          case rel => exact ⟨_, _, _, rfl, hda.out.done⟩
  case rest =>
    obtain ⟨dg, dcap, db, rfl, hdb⟩ := hcut
    replace hdb := hidZ hdb
    go_upto_block 2 with fail
    go_cut [6] from 24 to 58 (fun _ wc => ∃ d, DB W wc dg n db d ∧ ∀ p q, p < n → q < n → DpK mk tc K d (n + 1) p q)
    case first =>
      go_wp2_with fail
      go_loopw [6] (fun x wr => ∃ (k : Nat) (d : Nat → Nat → Bool), k ≤ n + 1 ∧ x = .int .i64 (k : Int) ∧ DB W wr dg n db d ∧ ∀ p q, p < n → q < n → DpK mk tc K d k p q) (fun x _ => n + 1 - (intOf x).toNat)
      case atStart => exact ⟨0, _, by omega, rfl, hdb.out, fun p q _ _ hh => absurd trivial hh⟩
      case round =>
        obtain ⟨k, d0, hk, rfl, hd0, ha0⟩ := hrel
        replace hd0 := hidZ hd0
        replace ha0 := hidZ ha0
        clear hdb
        by_cases hlt : k < n + 1
        · have dk : decide ((k : Int) ≤ (n : Int)) = true := by simp; omega
          have hkn : k ≤ n := by omega
          go_wp2
          go_loopw [7] (fun x wr => ∃ (i : Nat) (d : Nat → Nat → Bool), i ≤ n ∧ x = .int .i64 (i : Int) ∧ DB W wr dg n db d ∧ (∀ p q, p < n → q < n → DpK mk tc K d k p q) ∧ (∀ p q, p < i → q < n → DpK mk tc K d (k + 1) p q)) (fun x _ => n - (intOf x).toNat)
          case atStart => exact ⟨0, d0, by omega, rfl, hd0.out, ha0.out, fun p q hp => absurd hp (by omega)⟩
          case round =>
            obtain ⟨i, d1, hi, rfl, hd1, ha1, hb1⟩ := hrel
            replace hd1 := hidZ hd1
            replace ha1 := hidZ ha1
            replace hb1 := hidZ hb1
            clear hd0 ha0
            by_cases hli : i < n
            · go_wp2
              go_loopw [8] (fun x wr => ∃ (j : Nat) (d : Nat → Nat → Bool), j ≤ n ∧ x = .int .i64 (j : Int) ∧ DB W wr dg n db d ∧ (∀ p q, p < n → q < n → DpK mk tc K d k p q) ∧ (∀ p q, p < n → q < n → (p < i ∨ (p = i ∧ q < j)) → DpK mk tc K d (k + 1) p q)) (fun x _ => n - (intOf x).toNat)
              case atStart => exact ⟨0, d1, by omega, rfl, hd1.out, ha1.out, fun p q hp hq hh => hb1.out p q (by omega) hq⟩
              case round =>
                obtain ⟨j, d, hj, rfl, hd2, ha2, hb2⟩ := hrel
                replace hd2 := hidZ hd2
                replace ha2 := hidZ ha2
                replace hb2 := hidZ hb2
                clear hd1 ha1 hb1
                by_cases hlj : j < n
                · have HF1 : Hid (∀ p q, p < n → q < n → DpK mk tc K (fun p q => if p = i ∧ q = j then (d i j || tellB mk tc K d i j) else d p q) k p q) := fun p q hp hq hh => by
                    have h1 := ha2.out p q hp hq hh
                    by_cases e : p = i ∧ q = j
                    · obtain ⟨rfl, rfl⟩ := e
                      simp only [and_self, if_true, h1, Bool.true_or]
                    · simp only [if_neg e]; exact h1
                  have HF2 : Hid (∀ p q, p < n → q < n → (p < i ∨ (p = i ∧ q < j + 1)) → DpK mk tc K (fun p q => if p = i ∧ q = j then (d i j || tellB mk tc K d i j) else d p q) (k + 1) p q) := fun p q hp hq hor hh => by
                    by_cases e : p = i ∧ q = j
                    · obtain ⟨rfl, rfl⟩ := e
                      simp only [and_self, if_true]
                      exact DpK.step HR.out hp hq ha2.out rfl hh
                    · simp only [if_neg e]; exact hb2.out p q hp hq (by omega) hh
                  have hiI : (0 : Int) ≤ (i : Int) ∧ (i : Int) < (n : Int) := by omega
                  have hjI : (0 : Int) ≤ (j : Int) ∧ (j : Int) < (n : Int) := by omega
                  have r0 := hd2.out.da.r i hli
                  have x0 := hd2.out.da.c i j hli hlj
                  have f0 := hd2.out.fz i j hli
                  have c0' := (hd2.out.bl.cell (p := ⟨w.heap.size, 0, none⟩) hsz).trans HC0.out
                  have c1' := (hd2.out.bl.cell (p := ⟨w.heap.size, 1, none⟩) hsz).trans HC1.out
                  obtain ⟨v, ev⟩ : ∃ v, d i j = v := ⟨_, rfl⟩
                  rw [ev] at x0
                  replace ev := hidZ ev
                  obtain ⟨ri, eri⟩ : ∃ v, db i = v := ⟨_, rfl⟩
                  rw [eri] at x0 r0 f0
                  replace eri := hidZ eri
                  go_upto_region 16 with fail
                  cases v with
                  | true =>
                    have HN : Hid (DB W (wr.drew.setCell ⟨ri, j, none⟩ (.bool true)) dg n db (fun p q => if p = i ∧ q = j then (d i j || tellB mk tc K d i j) else d p q)) := by
                      have := hd2.out.drew.set hli hlj true
                      rw [eri.out] at this
                      unfold Hid
                      rw [ev.out, Bool.true_or]
                      exact this
                    go_big_region
                    all_goals
                      go_wp2
                      go_roundw
                      case rel => exact ⟨j + 1, _, hlj, by go_num, HN.out, HF1.out, HF2.out⟩
                      case measure => simp [intOf]; omega
                  | false =>
                    have hld : loadsTab wr.drew (.pointer (some ⟨w.heap.size, 0, none⟩)) := ⟨w.heap.size, _, _, rfl, c0', c1'⟩
                    have hic : tabOf wr.drew (.pointer (some ⟨w.heap.size, 0, none⟩)) = .agg #[.slice (some ⟨g1, 0, none⟩) n cap1, .slice (some ⟨g2, 0, none⟩) n cap2] := tabOf_eq c0' c1'
                    go_region_with (go_at_call 45; refine (ktells_any _ _ n K g1 cap1 g2 cap2 gr cr mk tc dg dcap db d i j wr.drew (HT.out.below hd2.out.drew.bl (Nat.le_refl _)) hd2.out.drew.da hli hlj hK hn HR.out HM.out).mono ?_; rintro e w5 ⟨rfl, hb5⟩; have HD5 := hidZ (hd2.out.drew.below hb5); have r5 := HD5.out.da.r i hli; have x5 := HD5.out.da.c i j hli hlj; have f5 := HD5.out.fz i j hli; rw [eri.out] at r5 x5 f5; clear hb5)
                    all_goals
                      go_wp2
                      go_roundw
                      case rel =>
                        refine ⟨j + 1, _, hlj, by go_num, ?_, HF1.out, HF2.out⟩
                        have := HD5.out.set hli hlj (tellB mk tc K d i j)
                        rw [eri.out] at this
                        rw [ev.out, Bool.false_or]
                        exact this
                      case measure => simp [intOf]; omega
                · have e : j = n := by omega
                  subst e
                  go_wp2
                  go_roundw
                  case rel => exact ⟨i + 1, d, hli, by go_num, hd2.out, ha2.out, fun p q hp hq => hb2.out p q (by omega) hq (by omega)⟩
                  case measure => simp [intOf]; omega
            · have e : i = n := by omega
              subst e
              go_wp2
              go_roundw
              case rel => exact ⟨k + 1, d1, by omega, by go_num, hd1.out, hb1.out⟩
              case measure => simp [intOf]; omega
        · have e : k = n + 1 := by omega
          have dk : decide ((k : Int) ≤ (n : Int)) = false := by simp; omega
          replace ha0 : Hid (∀ p q, p < n → q < n → DpK mk tc K d0 (n + 1) p q) := by rw [← e]; exact ha0
          clear e
          go_wp2
          go_meet
          case rel => exact ⟨d0, hd0.out, ha0.out⟩
    case rest =>
      obtain ⟨d, hd, ha⟩ := hcut
      replace hd := hidZ hd
      have HA : Hid (∀ p q, p < n → q < n → p ≠ q → d p q = true) := fun p q hp hq hne => ha p q hp hq (HAP.out p q hp hq hne)
      clear ha hdb
      go_wp2
      go_loopw [9] (fun x wr => ∃ i q : Nat, i ≤ n ∧ x = .int .i64 (i : Int) ∧ wr = wc.drewN q) (fun x _ => n - (intOf x).toNat)
      case atStart => exact ⟨0, 0, by omega, rfl, rfl⟩
      case round =>
        obtain ⟨i, q, hi, rfl, rfl⟩ := hrel
        by_cases hli : i < n
        · have hiI : (0 : Int) ≤ (i : Int) ∧ (i : Int) < (n : Int) := by omega
          have r0 := hd.out.da.r i hli
          go_wp2
          go_loopw [10] (fun x wr => ∃ j q : Nat, j ≤ i ∧ x = .int .i64 (j : Int) ∧ wr = wc.drewN q) (fun x _ => i - (intOf x).toNat)
          case atStart => exact ⟨0, q, by omega, rfl, rfl⟩
          case round =>
            obtain ⟨j, q, hj, rfl, rfl⟩ := hrel
            by_cases hlj : j < i
            · have hjI : (0 : Int) ≤ (j : Int) ∧ (j : Int) < (n : Int) := by omega
              have x0 := hd.out.da.c i j hli (by omega)
              rw [HA.out i j hli (by omega) (by omega)] at x0
              go_wp2
              go_roundw
              case rel => exact ⟨j + 1, _, hlj, by go_num, rfl⟩
              case measure => simp [intOf]; omega
            · have e : j = i := by omega
              subst e
              go_wp2
              go_roundw
              case rel => exact ⟨j + 1, _, hli, by go_num, rfl⟩
              case measure => simp [intOf]; omega
        · have e : i = n := by omega
          subst e
          have HB2 := hidZ (HB0.out.trans (hd.out.bl.mono (Nat.le_of_lt hsz)))
          go_wp2
          go_ret
          exact ⟨by simp, HB2.out.os, HB2.out.tape, HB2.out.output, HB2.out.size, HB2.out.block⟩
end Go.Proofs.Ytgjgjgihceijnaa

/- stencilkeep.told: a walk. -/
namespace Go.Stn
/-- So many classes are known when b bytes are seen. -/
structure KN (K : Nat) (fb : Nat → Nat) (b kn : Nat) : Prop where
  le : kn ≤ K
  sn : ∀ j, j < K → (j < kn ↔ fb j < b)
theorem KN.start {K : Nat} {fb : Nat → Nat} : KN K fb 0 0 := ⟨Nat.zero_le _, fun j _ => by omega⟩
theorem KN.low {K : Nat} {fb cls : Nat → Nat} {b kn : Nat} (h : KN K fb b kn) (h2 : fb (cls b) ≤ b) (h3 : ∀ j j', j < j' → j' < K → fb j < fb j') (hc : cls b < K) : cls b ≤ kn := by
  apply Classical.byContradiction
  intro hn
  have := (h.sn kn (by omega)).2 (by have := h3 kn (cls b) (by omega) hc; omega)
  omega
theorem KN.hit {K : Nat} {fb cls : Nat → Nat} {b kn : Nat} (h : KN K fb b kn) (h2 : fb (cls b) ≤ b) (h3 : ∀ j j', j < j' → j' < K → fb j < fb j') (hc : cls b < K) (he : cls b = kn) : KN K fb (b + 1) (kn + 1) := by
  have e : fb kn = b := by
    have h4 : ¬ fb kn < b := fun hl => by have := (h.sn kn (by omega)).2 hl; omega
    rw [he] at h2; omega
  refine ⟨by omega, fun j hj => ?_⟩
  rcases Nat.lt_trichotomy j kn with e1 | e1 | e1
  · have := (h.sn j hj).1 e1; omega
  · subst e1; omega
  · have := h3 kn j e1 hj; omega
theorem KN.miss {K : Nat} {fb cls : Nat → Nat} {b kn : Nat} (h : KN K fb b kn) (h1 : ∀ j, j < K → cls (fb j) = j) (hlt : cls b < kn) : KN K fb (b + 1) kn :=
  ⟨h.le, fun j hj => ⟨fun hl => by have := (h.sn j hj).1 hl; omega, fun hl => by
    by_cases e : fb j = b
    · have := h1 j hj; rw [e] at this; omega
    · exact (h.sn j hj).2 (by omega)⟩⟩
theorem KN.done {K : Nat} {fb : Nat → Nat} {kn : Nat} (h : KN K fb 256 kn) (h1 : ∀ j, j < K → fb j < 256) : kn = K := by
  apply Classical.byContradiction
  intro hn
  have := h.le
  have := (h.sn kn (by omega)).2 (h1 kn (by omega))
  omega
end Go.Stn
namespace Go.Proofs.Ytgjgjgihceijnaa
open Go.RowKit Go.Stn

/-- Tables in memory. -/
structure TabsAt (w : World) (lg m K : Nat) (ns : Nat → Nat) (g1 cap1 g2 cap2 : Nat → Nat) (gr cr : Nat → Nat → Nat) (mk : Nat → Nat → Nat) (tc : Nat → Nat → Nat → Nat) : Prop where
  c0 : ∀ c, c < m → w.cell? ⟨lg, c * 2, none⟩ = some (.slice (some ⟨g1 c, 0, none⟩) (ns c) (cap1 c))
  c1 : ∀ c, c < m → w.cell? ⟨lg, c * 2 + 1, none⟩ = some (.slice (some ⟨g2 c, 0, none⟩) (ns c) (cap2 c))
  ta : ∀ c, c < m → TabAt w (.slice (some ⟨g1 c, 0, none⟩) (ns c) (cap1 c)) (.slice (some ⟨g2 c, 0, none⟩) (ns c) (cap2 c)) (ns c) K (g1 c) (cap1 c) (g2 c) (cap2 c) (gr c) (cr c) (mk c) (tc c)
  b0 : lg < w.heap.size
theorem TabsAt.below {w w' : World} {lg m K : Nat} {ns g1 cap1 g2 cap2 : Nat → Nat} {gr cr mk : Nat → Nat → Nat} {tc : Nat → Nat → Nat → Nat} {B : Nat} (h : TabsAt w lg m K ns g1 cap1 g2 cap2 gr cr mk tc) (hB : Below B w w') (hb : w.heap.size ≤ B) : TabsAt w' lg m K ns g1 cap1 g2 cap2 gr cr mk tc := by
  have h0 := h.b0
  have hz := hB.size
  exact ⟨fun c hc => (hB.cell (p := ⟨lg, c * 2, none⟩) (by show lg < B; omega)).trans (h.c0 c hc), fun c hc => (hB.cell (p := ⟨lg, c * 2 + 1, none⟩) (by show lg < B; omega)).trans (h.c1 c hc), fun c hc => (h.ta c hc).below hB hb, by omega⟩
theorem TabsAt.of {w : World} {P : Nat → Prop} {lg m K : Nat} {ns : Nat → Nat} {mk : Nat → Nat → Nat} {tc : Nat → Nat → Nat → Nat} {ts : List Value} (h : TabsIn w P ts m K ns mk tc) (hP : ∀ k, P k → k < w.heap.size) (hr : w.rangeAt lg 0 ts) (hb : lg < w.heap.size) :
    ∃ g1 cap1 g2 cap2 gr cr, TabsAt w lg m K ns g1 cap1 g2 cap2 gr cr mk tc := by
  have hex : ∀ c, ∃ x : Nat × Nat × Nat × Nat × (Nat → Nat) × (Nat → Nat), c < m → ts[2 * c]? = some (.slice (some ⟨x.1, 0, none⟩) (ns c) x.2.1) ∧ ts[2 * c + 1]? = some (.slice (some ⟨x.2.2.1, 0, none⟩) (ns c) x.2.2.2.1) ∧
      TabAt w (.slice (some ⟨x.1, 0, none⟩) (ns c) x.2.1) (.slice (some ⟨x.2.2.1, 0, none⟩) (ns c) x.2.2.2.1) (ns c) K x.1 x.2.1 x.2.2.1 x.2.2.2.1 x.2.2.2.2.1 x.2.2.2.2.2 (mk c) (tc c) := fun c => by
    by_cases hc : c < m
    · obtain ⟨v1, v2, h1, h2, h3⟩ := h c hc
      obtain ⟨g1, cap1, g2, cap2, gr, cr, h4⟩ := TabAt.of h3 hP
      have e1 := h4.e1
      have e2 := h4.e2
      subst e1 e2
      exact ⟨(g1, cap1, g2, cap2, gr, cr), fun _ => ⟨h1, h2, h4⟩⟩
    · exact ⟨(0, 0, 0, 0, fun _ => 0, fun _ => 0), fun hh => absurd hh hc⟩
  obtain ⟨F, hF⟩ := Classical.axiomOfChoice hex
  refine ⟨fun c => (F c).1, fun c => (F c).2.1, fun c => (F c).2.2.1, fun c => (F c).2.2.2.1, fun c => (F c).2.2.2.2.1, fun c => (F c).2.2.2.2.2, fun c hc => ?_, fun c hc => ?_, fun c hc => (hF c hc).2.2, hb⟩
  · have := hr _ _ (hF c hc).1; rw [Nat.zero_add, Nat.mul_comm] at this; exact this
  · have := hr _ _ (hF c hc).2.1; rw [Nat.zero_add, Nat.mul_comm 2 c] at this; exact this

set_option maxRecDepth 100000 in
set_option maxHeartbeats 2000000 in
theorem ktold_any (lg lcap m K : Nat) (ns g1 cap1 g2 cap2 : Nat → Nat) (gr cr : Nat → Nat → Nat) (mk : Nat → Nat → Nat) (tc : Nat → Nat → Nat → Nat) (cls fb : Nat → Nat) (og ocap : Nat) (w : World) (h : TabsAt w lg m K ns g1 cap1 g2 cap2 gr cr mk tc) (hof : w.rangeAt og 0 (natR 256 cls))
    (hm : m ≤ 100) (hK : K ≤ 256) (hn : ∀ c, c < m → ns c ≤ 100) (hcl : ∀ b, b < 256 → cls b < K) (hb : ∀ c p k, c < m → p < ns c → k < K → tc c p k ≤ 255)
    (f1 : ∀ j, j < K → fb j < 256 ∧ cls (fb j) = j) (f2 : ∀ b, b < 256 → fb (cls b) ≤ b) (f3 : ∀ j j', j < j' → j' < K → fb j < fb j')
    (hca : ∀ j j', j < K → j' < K → j ≠ j' → ∃ c p, c < m ∧ p < ns c ∧ tc c p j ≠ tc c p j') :
    Calls Try.prog 23 #[.slice (some ⟨lg, 0, none⟩) m lcap, .slice (some ⟨og, 0, none⟩) 256 ocap, .int .i64 (K : Int)] w fun e w' => e = .returned (.bool true) ∧ Below w.heap.size w w' := by
  have HT := hidZ h
  have HOF := hidZ hof
  have HNS := hidZ hn
  have HCL := hidZ hcl
  have HBB := hidZ hb
  have F1 := hidZ f1
  have F2 := hidZ f2
  have F3 := hidZ f3
  have HCA := hidZ hca
  clear h hof hn hcl hb f1 f2 f3 hca
  go_enter Try.func23, Try.ntmps23
  go_wp2
  go_loopw [7, 8] (fun x y wr => ∃ (kn b q : Nat), b ≤ 256 ∧ y = .int .i64 (b : Int) ∧ x = .int .i64 (kn : Int) ∧ KN K fb b kn ∧ wr = w.drewN q) (fun _ y _ => 256 - (intOf y).toNat)
  case atStart => exact ⟨0, 0, 0, by omega, rfl, rfl, KN.start, rfl⟩
  case round =>
    obtain ⟨kn, b, q, hb, rfl, rfl, hkn, rfl⟩ := hrel
    have hknK := hkn.le
    by_cases hltb : b < 256
    · have hcb := HCL.out b hltb
      have r2 : w.cell? ⟨og, b, none⟩ = some (.int .i64 (cls b : Int)) := by have := HOF.out b _ (natR_get hltb); rw [Nat.zero_add] at this; exact this
      have hle := hkn.low (F2.out b hltb) F3.out hcb
      have hbI : (0 : Int) ≤ (b : Int) ∧ (b : Int) < 256 := by omega
      have HH : Hid (cls b = kn → KN K fb (b + 1) (kn + 1)) := fun e => hkn.hit (F2.out b hltb) F3.out hcb e
      have HMI : Hid (cls b < kn → KN K fb (b + 1) kn) := fun e => hkn.miss (fun j hj => (F1.out j hj).2) e
      clear hkn
      generalize cls b = x at *
      have d0 : decide ((kn : Int) < (x : Int)) = false := by simp; omega
      by_cases ek : x = kn
      · have d1 : ((x : Int) == (kn : Int)) = true := by rw [ek]; simp
        have HN := hidZ (HH.out ek)
        clear ek
        go_wp2
        go_roundw
        case rel => exact ⟨kn + 1, b + 1, _, hltb, by go_num, by go_num, HN.out, rfl⟩
        case measure => simp [intOf]; omega
      · have d1 : ((x : Int) == (kn : Int)) = false := by rw [beq_eq_false_iff_ne]; omega
        have HN := hidZ (HMI.out (by omega))
        clear ek
        go_wp2
        go_roundw
        case rel => exact ⟨kn, b + 1, _, hltb, by go_num, rfl, HN.out, rfl⟩
        case measure => simp [intOf]; omega
    · have e : b = 256 := by omega
      have hkk : kn = K := by rw [e] at hkn; exact hkn.done (fun j hj => (F1.out j hj).1)
      have db : decide ((b : Int) < 256) = false := by simp; omega
      clear hkn e
      subst hkk
      go_wp2
      go_loopw [9] (fun x wr => ∃ i q : Nat, i ≤ kn ∧ x = .int .i64 (i : Int) ∧ wr = w.drewN q) (fun x _ => kn - (intOf x).toNat)
      case atStart => exact ⟨0, q, by omega, rfl, rfl⟩
      case round =>
        obtain ⟨i, q, hi, rfl, rfl⟩ := hrel
        by_cases hli : i < kn
        · go_wp2
          go_loopw [10] (fun x wr => ∃ j q : Nat, j ≤ i ∧ x = .int .i64 (j : Int) ∧ wr = w.drewN q) (fun x _ => i - (intOf x).toNat)
          case atStart => exact ⟨0, q, by omega, rfl, rfl⟩
          case round =>
            obtain ⟨j, q, hj, rfl, rfl⟩ := hrel
            by_cases hlj : j < i
            · have hiI : (0 : Int) ≤ (i : Int) ∧ (i : Int) < (kn : Int) := by omega
              have hjI : (0 : Int) ≤ (j : Int) ∧ (j : Int) < (kn : Int) := by omega
              have HD := hidZ (HCA.out i j hli (by omega) (by omega))
              go_wp2
              go_loopw [11, 12] (fun o x wr => ∃ (ob : Bool) (c q : Nat), c ≤ m ∧ o = .bool ob ∧ x = .int .i64 (c : Int) ∧ (∀ c' s', c' < c → s' < ns c' → tc c' s' i ≠ tc c' s' j → ob = true) ∧ wr = w.drewN q) (fun _ x _ => m - (intOf x).toNat)
              case atStart => exact ⟨false, 0, q, by omega, rfl, rfl, fun c' s' h => by omega, rfl⟩
              case round =>
                obtain ⟨ob, c, q, hc, rfl, rfl, hall, rfl⟩ := hrel
                replace hall := hidZ hall
                by_cases hlc : c < m
                · have hcI : (0 : Int) ≤ (c : Int) ∧ (c : Int) < (m : Int) := by omega
                  have k1 := HT.out.c1 c hlc
                  have hnc := HNS.out c hlc
                  have HTA := hidZ (HT.out.ta c hlc)
                  have HBC : Hid (∀ p k, p < ns c → k < kn → tc c p k ≤ 255) := fun p k hp hk => HBB.out c p k hlc hp hk
                  obtain ⟨N, eN⟩ : ∃ N, ns c = N := ⟨_, rfl⟩
                  obtain ⟨G2, eG⟩ : ∃ N, g2 c = N := ⟨_, rfl⟩
                  obtain ⟨C2, eC⟩ : ∃ N, cap2 c = N := ⟨_, rfl⟩
                  rw [eN, eG, eC] at k1 
                  rw [eN] at hnc HTA HBC
                  rw [eG, eC] at HTA
                  replace eN := hidZ eN
                  clear eG eC
                  go_wp2
                  go_loopw [11, 13] (fun o x wr => ∃ (ob : Bool) (p q : Nat), p ≤ N ∧ o = .bool ob ∧ x = .int .i64 (p : Int) ∧ (∀ c' s', (c' < c ∨ (c' = c ∧ s' < p)) → s' < ns c' → tc c' s' i ≠ tc c' s' j → ob = true) ∧ wr = w.drewN q) (fun _ x _ => N - (intOf x).toNat)
                  case atStart => exact ⟨ob, 0, q, by omega, rfl, rfl, fun c' s' h => hall.out c' s' (by omega), rfl⟩
                  case round =>
                    obtain ⟨ob, p, q, hp, rfl, rfl, hall2, rfl⟩ := hrel
                    replace hall2 := hidZ hall2
                    clear hall
                    by_cases hlp : p < N
                    · have hpI : (0 : Int) ≤ (p : Int) ∧ (p : Int) < (N : Int) := by omega
                      have y0 := HTA.out.r p hlp
                      have y1 := HTA.out.t p i hlp hli
                      have y2 := HTA.out.t p j hlp (by omega)
                      have b1 := HBC.out p i hlp hli
                      have b2 := HBC.out p j hlp (by omega)
                      obtain ⟨x, ex⟩ : ∃ N, tc c p i = N := ⟨_, rfl⟩
                      obtain ⟨y, ey⟩ : ∃ N, tc c p j = N := ⟨_, rfl⟩
                      obtain ⟨rg, er⟩ : ∃ N, gr c p = N := ⟨_, rfl⟩
                      obtain ⟨rc, ec⟩ : ∃ N, cr c p = N := ⟨_, rfl⟩
                      rw [ex] at y1 b1
                      rw [ey] at y2 b2
                      rw [er] at y0 y1 y2
                      rw [ec] at y0
                      replace ex := hidZ ex
                      replace ey := hidZ ey
                      clear er ec
                      have HT1 : Hid (∀ c' s', (c' < c ∨ (c' = c ∧ s' < p + 1)) → s' < ns c' → tc c' s' i ≠ tc c' s' j → true = true) := fun _ _ _ _ _ => rfl
                      cases ob with
                      | true =>
                        go_wp2
                        go_quiet (fail)
                        go_wp2
                        go_roundw
                        case rel => exact ⟨true, p + 1, _, hlp, rfl, by go_num, fun _ _ _ _ _ => rfl, rfl⟩
                        case measure => simp [intOf]; omega
                      | false =>
                        by_cases hxy : x = y
                        · have dx : ((x : Int) != (y : Int)) = false := by rw [hxy]; simp
                          have HN : Hid (∀ c' s', (c' < c ∨ (c' = c ∧ s' < p + 1)) → s' < ns c' → tc c' s' i ≠ tc c' s' j → false = true) := fun c' s' h1 h2 h3 => by
                            by_cases e : c' = c ∧ s' = p
                            · obtain ⟨rfl, rfl⟩ := e
                              exact absurd (by rw [ex.out, ey.out]; exact hxy) h3
                            · exact hall2.out c' s' (by omega) h2 h3
                          clear hxy
                          go_wp2
                          go_quiet (fail)
                          go_wp2
                          go_roundw
                          case rel => exact ⟨false, p + 1, _, hlp, rfl, by go_num, HN.out, rfl⟩
                          case measure => simp [intOf]; omega
                        · have dx : ((x : Int) != (y : Int)) = true := by rw [bne_iff_ne]; omega
                          clear hxy
                          go_wp2
                          go_quiet (fail)
                          go_wp2
                          go_roundw
                          case rel => exact ⟨true, p + 1, _, hlp, rfl, by go_num, fun _ _ _ _ _ => rfl, rfl⟩
                          case measure => simp [intOf]; omega
                    · have e : p = N := by omega
                      subst e
                      have HN : Hid (∀ c' s', c' < c + 1 → s' < ns c' → tc c' s' i ≠ tc c' s' j → ob = true) := fun c' s' h1 h2 h3 => by
                        by_cases e : c' = c
                        · subst e; exact hall2.out c' s' (.inr ⟨rfl, by rw [← eN.out]; exact h2⟩) h2 h3
                        · exact hall2.out c' s' (.inl (by omega)) h2 h3
                      clear hall2
                      go_wp2
                      go_roundw
                      case rel => exact ⟨ob, c + 1, _, hlc, rfl, by go_num, HN.out, rfl⟩
                      case measure => simp [intOf]; omega
                · have e : c = m := by omega
                  subst e
                  have hob : ob = true := by
                    obtain ⟨c', p', h1, h2, h3⟩ := HD.out
                    exact hall.out c' p' h1 h2 h3
                  clear hall
                  subst hob
                  go_wp2
                  go_roundw
                  case rel => exact ⟨j + 1, _, hlj, by go_num, rfl⟩
                  case measure => simp [intOf]; omega
            · have e : j = i := by omega
              subst e
              go_wp2
              go_roundw
              case rel => exact ⟨j + 1, _, hli, by go_num, rfl⟩
              case measure => simp [intOf]; omega
        · have e : i = kn := by omega
          subst e
          go_wp2
          go_ret
          exact ⟨by simp, rfl, rfl, rfl, Nat.le_refl _, fun _ _ => rfl⟩
end Go.Proofs.Ytgjgjgihceijnaa

