/- Texts put together: KtMade. -/
import Derived.Test.YtgjgjgihceijnaaG28
import Derived.BigRegion
namespace Go.Stn
open Go.RowKit
def madeP (k ta tb : Nat) (y x : Tr) : Nd :=
  if k = 5 then ⟨5, 0, 0, tb, 0, .many x⟩ else if k = 6 then ⟨6, 0, 0, tb, 0, .once x⟩ else if k = 7 then ⟨7, 0, 0, tb, 0, .may x⟩
  else if k = 3 then ⟨3, 0, 0, ta, tb, .row y x⟩ else ⟨4, 0, 0, ta, tb, .or2 y x⟩
/-- The rules in memory: their nodes, which of them are the rules. -/
structure RuIn (w : World) (ga gt : Nat) (all : List Nd) (tops : List Nat) : Prop where
  nd : ∀ (j : Nat) (x : Nd), all[j]? = some x → w.rangeAt ga (j * 9) x.cells
  tp : ∀ (i t : Nat), tops[i]? = some t → w.cell? ⟨gt, i, none⟩ = some (.int .i64 (t : Int))
  ok : ∀ (i t : Nat), tops[i]? = some t → t < all.length
  ba : ga < w.heap.size
  bt : gt < w.heap.size
theorem RuIn.below {w w' : World} {ga gt : Nat} {all : List Nd} {tops : List Nat} (h : RuIn w ga gt all tops) (hB : Below w.heap.size w w') : RuIn w' ga gt all tops :=
  ⟨fun j x hx => rangeAt_below (h.nd j x hx) hB h.ba, fun i t ht => (hB.cell (p := ⟨gt, i, none⟩) h.bt).trans (h.tp i t ht), h.ok, Nat.lt_of_lt_of_le h.ba hB.size, Nat.lt_of_lt_of_le h.bt hB.size⟩
end Go.Stn
namespace Go.Stn
theorem made5 (ta tb : Nat) (y x : Tr) : [Value.int .i64 5, .int .u8 0, .int .u8 0, .int .i64 (tb : Int), .int .i64 0, .string (⟨#[40]⟩ ++ bA x.txt ++ ⟨#[41, 42]⟩), .string (⟨#[40, 40]⟩ ++ bA x.oth ++ ⟨#[41, 42, 41, 42]⟩), .int .i64 (x.pls : Int), .int .i64 (x.mor : Int)] = (madeP 5 ta tb y x).cells := by
  have a1 : (⟨#[40]⟩ : ByteArray) = bA [40] := rfl
  have a2 : (⟨#[41, 42]⟩ : ByteArray) = bA [41, 42] := rfl
  have a3 : (⟨#[40, 40]⟩ : ByteArray) = bA [40, 40] := rfl
  have a4 : (⟨#[41, 42, 41, 42]⟩ : ByteArray) = bA [41, 42, 41, 42] := rfl
  simp only [a1, a2, a3, a4, bA_app]
  rfl
theorem made6 (ta tb : Nat) (y x : Tr) : [Value.int .i64 6, .int .u8 0, .int .u8 0, .int .i64 (tb : Int), .int .i64 0, .string (⟨#[40]⟩ ++ bA x.txt ++ ⟨#[41, 43]⟩), .string (⟨#[40]⟩ ++ bA x.oth ++ ⟨#[41, 40]⟩ ++ bA x.oth ++ ⟨#[41, 42]⟩), .int .i64 (x.pls : Int), .int .i64 (2 * (x.mor : Int))] = (madeP 6 ta tb y x).cells := by
  have a1 : (⟨#[40]⟩ : ByteArray) = bA [40] := rfl
  have a2 : (⟨#[41, 43]⟩ : ByteArray) = bA [41, 43] := rfl
  have a3 : (⟨#[41, 40]⟩ : ByteArray) = bA [41, 40] := rfl
  have a4 : (⟨#[41, 42]⟩ : ByteArray) = bA [41, 42] := rfl
  have e1 : [40] ++ x.oth ++ [41, 40] ++ x.oth ++ [41, 42] = (Tr.once x).oth := by simp [Tr.oth]
  have e2 : 2 * (x.mor : Int) = ((2 * x.mor : Nat) : Int) := by omega
  simp only [a1, a2, a3, a4, bA_app, e1, e2]
  rfl
theorem made7 (ta tb : Nat) (y x : Tr) : [Value.int .i64 7, .int .u8 0, .int .u8 0, .int .i64 (tb : Int), .int .i64 0, .string (⟨#[40]⟩ ++ bA x.txt ++ ⟨#[41, 63]⟩), .string (⟨#[40, 40]⟩ ++ bA x.oth ++ ⟨#[41, 63, 41, 63]⟩), .int .i64 (x.pls : Int), .int .i64 (x.mor : Int)] = (madeP 7 ta tb y x).cells := by
  have a1 : (⟨#[40]⟩ : ByteArray) = bA [40] := rfl
  have a2 : (⟨#[41, 63]⟩ : ByteArray) = bA [41, 63] := rfl
  have a3 : (⟨#[40, 40]⟩ : ByteArray) = bA [40, 40] := rfl
  have a4 : (⟨#[41, 63, 41, 63]⟩ : ByteArray) = bA [41, 63, 41, 63] := rfl
  simp only [a1, a2, a3, a4, bA_app]
  rfl
end Go.Stn
namespace Go.Proofs.Ytgjgjgihceijnaa
open Go.RowKit Go.Stn
def node0 : Array Value := #[.int .i64 0, .int .u8 0, .int .u8 0, .int .i64 0, .int .i64 0, .string ⟨#[]⟩, .string ⟨#[]⟩, .int .i64 0, .int .i64 0]
/-- What a node's load brings. -/
def nodeOf (X : World) : Value → Value
  | .pointer (some a) => .agg #[(X.cell? ⟨a.block, a.off, none⟩).getD undef, (X.cell? ⟨a.block, a.off + 1, none⟩).getD undef, (X.cell? ⟨a.block, a.off + 2, none⟩).getD undef, (X.cell? ⟨a.block, a.off + 3, none⟩).getD undef, (X.cell? ⟨a.block, a.off + 4, none⟩).getD undef, (X.cell? ⟨a.block, a.off + 5, none⟩).getD undef, (X.cell? ⟨a.block, a.off + 6, none⟩).getD undef, (X.cell? ⟨a.block, a.off + 7, none⟩).getD undef, (X.cell? ⟨a.block, a.off + 8, none⟩).getD undef]
  | _ => undef
def loadsNode (X : World) (v : Value) : Prop := ∃ (B o : Nat) (x : Nd), v = .pointer (some ⟨B, o, none⟩) ∧ X.rangeAt B o x.cells
theorem nodeOf_eq {X : World} {B o : Nat} {x : Nd} (h : X.rangeAt B o x.cells) : nodeOf X (.pointer (some ⟨B, o, none⟩)) = .agg x.cells.toArray := by
  have g := fun j v (hj : x.cells[j]? = some v) => h j v hj
  have g0 := g 0 _ rfl
  have g1 := g 1 _ rfl
  have g2 := g 2 _ rfl
  have g3 := g 3 _ rfl
  have g4 := g 4 _ rfl
  have g5 := g 5 _ rfl
  have g6 := g 6 _ rfl
  have g7 := g 7 _ rfl
  have g8 := g 8 _ rfl
  rw [Nat.add_zero] at g0
  unfold nodeOf
  simp only [g0, g1, g2, g3, g4, g5, g6, g7, g8, Option.getD_some]
  rfl
theorem Try.wpLoadNode {d : Option Tmp} {x : Operand} {ty : TypeId} {p : String} {af : Array Edge} {gd : Option (Nat × Bool)} {a : Act} {X : World} {K : Act → World → Prop} {Q : Exit → Act → World → Prop}
    (h : loadsNode X (a.eval x)) :
    Oper.wp Try.prog { dst := d, op := .load 109 x, type := ty, pos := p, after := af, guard := gd } a X K Q = K (a.put d (nodeOf X (a.eval x))) X := by
  obtain ⟨B, o, n, hx, hb⟩ := h
  have hr := run_loadVar_mid (P := Try.prog) X B o 109 n.cells _ hb Try.underlying109 rfl Try.knodeSize
  unfold Oper.wp execOp
  simp only [hx, Instr.loadAt, Instr.sureAddr, Sem.run_bind, Sem.run_pure, Result.andThen_ok, hr, nodeOf_eq hb]
  rfl
attribute [local go_sem ↓] Go.wp_at_zero Go.wp_at_succ Try.wpLoadNode

set_option maxRecDepth 100000 in
set_option maxHeartbeats 2000000 in
theorem kmade5 (k : Nat) (hk : 5 ≤ k) (hk7 : k ≤ 7) (ga gt ca ct tb n m : Nat) (x : Nd) (y : Tr) (ta : Nat) (w : World) (hn : n ≤ 2000000) (_hm : m ≤ 2000000) (htb : tb < m)
    (hx : w.rangeAt ga (tb * 9) x.cells) (ht : w.cell? ⟨gt, n, none⟩ = some (.int .i64 (tb : Int))) (ba : ga < w.heap.size) (bt : gt < w.heap.size) (_hp : x.tr.pls ≤ 1000) (hq : x.tr.mor ≤ 1000) (hs1 : (bA x.tr.txt).size ≤ 1000000000000) (hs2 : (bA x.tr.oth).size ≤ 1000000000000) :
    Calls Try.prog 51 #[.agg #[.slice (some ⟨ga, 0, none⟩) m ca, .slice (some ⟨gt, 0, none⟩) (n + 1) ct], .int .i64 (k : Int)] w fun e w' => e = .returned (.agg (madeP k ta tb y x.tr).cells.toArray) ∧ Below w.heap.size w w' := by
  have HB : Hid (Below w.heap.size w ((w.alloc (.cells #[.slice (some ⟨ga, 0, none⟩) m ca, .slice (some ⟨gt, 0, none⟩) (n + 1) ct] 49)).alloc (.cells node0 109))) := ((Below.refl _ _).alloc (Nat.le_refl _) _).alloc (by simp) _
  have c0 : ((w.alloc (.cells #[.slice (some ⟨ga, 0, none⟩) m ca, .slice (some ⟨gt, 0, none⟩) (n + 1) ct] 49)).alloc (.cells node0 109)).cell? ⟨w.heap.size, 0, none⟩ = some (.slice (some ⟨ga, 0, none⟩) m ca) := by
    exact ((((Below.refl (w.heap.size + 1) (w.alloc _)).alloc (by simp) _).cell (p := ⟨w.heap.size, 0, none⟩) (by show w.heap.size < w.heap.size + 1; omega)).trans (World.cell?_alloc_at _ _ _ 0 rfl)).trans rfl
  have c1 : ((w.alloc (.cells #[.slice (some ⟨ga, 0, none⟩) m ca, .slice (some ⟨gt, 0, none⟩) (n + 1) ct] 49)).alloc (.cells node0 109)).cell? ⟨w.heap.size, 1, none⟩ = some (.slice (some ⟨gt, 0, none⟩) (n + 1) ct) := by
    exact ((((Below.refl (w.heap.size + 1) (w.alloc _)).alloc (by simp) _).cell (p := ⟨w.heap.size, 1, none⟩) (by show w.heap.size < w.heap.size + 1; omega)).trans (World.cell?_alloc_at _ _ _ 1 rfl)).trans rfl
  have HT : Hid (((w.alloc (.cells #[.slice (some ⟨ga, 0, none⟩) m ca, .slice (some ⟨gt, 0, none⟩) (n + 1) ct] 49)).alloc (.cells node0 109)).there (w.heap.size + 1) 0 9) := there_newA _ _ _ _ _ rfl (by simp)
  have hsz : w.heap.size + 2 = ((w.alloc (.cells #[.slice (some ⟨ga, 0, none⟩) m ca, .slice (some ⟨gt, 0, none⟩) (n + 1) ct] 49)).alloc (.cells node0 109)).heap.size := by simp
  have hx0 := rangeAt_below hx HB.out ba
  have ht0 := (HB.out.cell (p := ⟨gt, n, none⟩) bt).trans ht
  clear hx ht
  unfold node0 at *
  go_enter Try.func51, Try.ntmps51
  go_upto_region 2 with fail
  generalize (w.alloc (.cells #[.slice (some ⟨ga, 0, none⟩) m ca, .slice (some ⟨gt, 0, none⟩) (n + 1) ct] 49)).alloc (.cells #[.int .i64 0, .int .u8 0, .int .u8 0, .int .i64 0, .int .i64 0, .string ⟨#[]⟩, .string ⟨#[]⟩, .int .i64 0, .int .i64 0] 109) = W at *
  have HBW : Hid (Below (w.heap.size + 2) W (W.alloc (.cells #[.int .i64 0, .int .u8 0, .int .u8 0, .int .i64 0, .int .i64 0, .string ⟨#[]⟩, .string ⟨#[]⟩, .int .i64 0, .int .i64 0] 109))) := (Below.refl _ _).alloc (by omega) _
  have c0' := (HBW.out.cell (p := ⟨w.heap.size, 0, none⟩) (by show w.heap.size < w.heap.size + 2; omega)).trans c0
  have c1' := (HBW.out.cell (p := ⟨w.heap.size, 1, none⟩) (by show w.heap.size < w.heap.size + 2; omega)).trans c1
  have ht0' := (HBW.out.cell (p := ⟨gt, n, none⟩) (by show gt < w.heap.size + 2; omega)).trans ht0
  have HX' := hidK (rangeAt_below hx0 HBW.out (by omega))
  have l1 : loadsNode W (.pointer (some ⟨ga, tb * 9, none⟩)) := ⟨ga, tb * 9, x, rfl, hx0⟩
  have l2 : loadsNode (W.alloc (.cells #[.int .i64 0, .int .u8 0, .int .u8 0, .int .i64 0, .int .i64 0, .string ⟨#[]⟩, .string ⟨#[]⟩, .int .i64 0, .int .i64 0] 109)) (.pointer (some ⟨ga, tb * 9, none⟩)) := ⟨ga, tb * 9, x, rfl, HX'.out⟩
  have l3 : loadsNode W.drew (.pointer (some ⟨ga, tb * 9, none⟩)) := ⟨ga, tb * 9, x, rfl, hx0⟩
  have l4 : loadsNode (W.alloc (.cells #[.int .i64 0, .int .u8 0, .int .u8 0, .int .i64 0, .int .i64 0, .string ⟨#[]⟩, .string ⟨#[]⟩, .int .i64 0, .int .i64 0] 109)).drew (.pointer (some ⟨ga, tb * 9, none⟩)) := ⟨ga, tb * 9, x, rfl, HX'.out⟩
  have e1 := nodeOf_eq hx0
  have e2 := nodeOf_eq HX'.out
  have e3 := nodeOf_eq (X := W.drew) hx0
  have e4 := nodeOf_eq (X := (W.alloc (.cells #[.int .i64 0, .int .u8 0, .int .u8 0, .int .i64 0, .int .i64 0, .string ⟨#[]⟩, .string ⟨#[]⟩, .int .i64 0, .int .i64 0] 109)).drew) HX'.out
  have wn : IntKind.i64.wrap (n : Int) = (n : Int) := IntWalk.i64_in _ (by omega)
  have ec : x.cells.toArray = #[.int .i64 (x.k : Int), .int .u8 (x.a : Int), .int .u8 (x.b : Int), .int .i64 (x.l : Int), .int .i64 (x.r : Int), .string (bA x.tr.txt), .string (bA x.tr.oth), .int .i64 (x.tr.pls : Int), .int .i64 (x.tr.mor : Int)] := rfl
  rw [ec] at e1 e2 e3 e4
  have hn1 : (n : Int) < (n : Int) + 1 := by omega
  have htbI : (0 : Int) ≤ (tb : Int) ∧ (tb : Int) < (m : Int) := by omega
  have hnI : (0 : Int) ≤ (n : Int) ∧ (n : Int) < ((n + 1 : Nat) : Int) := by omega
  have HX := hidK hx0
  clear hx0
  go_region
  have HB2 : Hid (Below (w.heap.size + 2) W (W.alloc (.cells #[.int .i64 (x.k : Int), .int .u8 (x.a : Int), .int .u8 (x.b : Int), .int .i64 (x.l : Int), .int .i64 (x.r : Int), .string (bA x.tr.txt), .string (bA x.tr.oth), .int .i64 (x.tr.pls : Int), .int .i64 (x.tr.mor : Int)] 109)).drew) := bdN ((Below.refl _ _).alloc (by omega) _) 1
  have hg : ∀ i v, x.cells[i]? = some v → (W.alloc (.cells #[.int .i64 (x.k : Int), .int .u8 (x.a : Int), .int .u8 (x.b : Int), .int .i64 (x.l : Int), .int .i64 (x.r : Int), .string (bA x.tr.txt), .string (bA x.tr.oth), .int .i64 (x.tr.pls : Int), .int .i64 (x.tr.mor : Int)] 109)).drew.cell? ⟨W.heap.size, i, none⟩ = some v := fun i v hv => by
    have := rangeAt_newL W x.cells 109 i v hv
    rw [Nat.zero_add] at this
    exact this
  have p5 := hg 5 _ rfl
  have p6 := hg 6 _ rfl
  have p7 := hg 7 _ rfl
  have p8 := hg 8 _ rfl
  have hz2 : W.heap.size + 1 = (W.alloc (.cells #[.int .i64 (x.k : Int), .int .u8 (x.a : Int), .int .u8 (x.b : Int), .int .i64 (x.l : Int), .int .i64 (x.r : Int), .string (bA x.tr.txt), .string (bA x.tr.oth), .int .i64 (x.tr.pls : Int), .int .i64 (x.tr.mor : Int)] 109)).drew.heap.size := by simp
  clear hg e1 e2 e3 e4 l1 l2 l3 l4 c0' c1' ht0' HX' HBW
  generalize (W.alloc (.cells #[.int .i64 (x.k : Int), .int .u8 (x.a : Int), .int .u8 (x.b : Int), .int .i64 (x.l : Int), .int .i64 (x.r : Int), .string (bA x.tr.txt), .string (bA x.tr.oth), .int .i64 (x.tr.pls : Int), .int .i64 (x.tr.mor : Int)] 109)).drew = W2 at *
  have d0 := (HB2.out.cell (p := ⟨w.heap.size, 0, none⟩) (by show w.heap.size < w.heap.size + 2; omega)).trans c0
  have d1 := (HB2.out.cell (p := ⟨w.heap.size, 1, none⟩) (by show w.heap.size < w.heap.size + 2; omega)).trans c1
  have dt := (HB2.out.cell (p := ⟨gt, n, none⟩) (by show gt < w.heap.size + 2; omega)).trans ht0
  have HT2 := hidK (there_below HT.out HB2.out (by omega))
  have HBX := hidK (HB.out.trans (HB2.out.mono (by omega)))
  clear HT HB2 c0 c1 ht0 HX HB
  generalize W.heap.size = B2 at *
  have HBW : Hid (Below (w.heap.size + 3) W2 (W2.alloc (.cells #[.int .i64 0, .int .u8 0, .int .u8 0, .int .i64 0, .int .i64 0, .string ⟨#[]⟩, .string ⟨#[]⟩, .int .i64 0, .int .i64 0] 109))) := (Below.refl _ _).alloc (by omega) _
  have d1' := (HBW.out.cell (p := ⟨w.heap.size, 1, none⟩) (by show w.heap.size < w.heap.size + 3; omega)).trans d1
  have dt' := (HBW.out.cell (p := ⟨gt, n, none⟩) (by show gt < w.heap.size + 3; omega)).trans dt
  have p7' := (HBW.out.cell (p := ⟨B2, 7, none⟩) (by show B2 < w.heap.size + 3; omega)).trans p7
  have p8' := (HBW.out.cell (p := ⟨B2, 8, none⟩) (by show B2 < w.heap.size + 3; omega)).trans p8
  go_upto_region 3 with fail
  go_region
  have HB3 : Hid (Below (w.heap.size + 3) W2 (W2.alloc (.cells #[.int .i64 (k : Int), .int .u8 0, .int .u8 0, .int .i64 (tb : Int), .int .i64 0, .string ⟨#[]⟩, .string ⟨#[]⟩, .int .i64 (x.tr.pls : Int), .int .i64 (x.tr.mor : Int)] 109)).drew) := bdN ((Below.refl _ _).alloc (by omega) _) 1
  have hg : ∀ i v, ([.int .i64 (k : Int), .int .u8 0, .int .u8 0, .int .i64 (tb : Int), .int .i64 0, .string ⟨#[]⟩, .string ⟨#[]⟩, .int .i64 (x.tr.pls : Int), .int .i64 (x.tr.mor : Int)] : List Value)[i]? = some v → (W2.alloc (.cells #[.int .i64 (k : Int), .int .u8 0, .int .u8 0, .int .i64 (tb : Int), .int .i64 0, .string ⟨#[]⟩, .string ⟨#[]⟩, .int .i64 (x.tr.pls : Int), .int .i64 (x.tr.mor : Int)] 109)).drew.cell? ⟨W2.heap.size, i, none⟩ = some v := fun i v hv => by
    have := rangeAt_newL W2 [.int .i64 (k : Int), .int .u8 0, .int .u8 0, .int .i64 (tb : Int), .int .i64 0, .string ⟨#[]⟩, .string ⟨#[]⟩, .int .i64 (x.tr.pls : Int), .int .i64 (x.tr.mor : Int)] 109 i v hv
    rw [Nat.zero_add] at this
    exact this
  have hfz : ∀ i, (W2.alloc (.cells #[.int .i64 (k : Int), .int .u8 0, .int .u8 0, .int .i64 (tb : Int), .int .i64 0, .string ⟨#[]⟩, .string ⟨#[]⟩, .int .i64 (x.tr.pls : Int), .int .i64 (x.tr.mor : Int)] 109)).drew.frozen? ⟨W2.heap.size, i, none⟩ = false := fun i => by
    show (W2.alloc _).frozen? _ = false
    rw [World.frozen?_alloc_new]
  have q0 := hg 0 _ rfl
  have q1 := hg 1 _ rfl
  have q2 := hg 2 _ rfl
  have q3 := hg 3 _ rfl
  have q4 := hg 4 _ rfl
  have q5 := hg 5 _ rfl
  have q6 := hg 6 _ rfl
  have q7 := hg 7 _ rfl
  have q8 := hg 8 _ rfl
  have f5 := hfz 5
  have f6 := hfz 6
  have f8 := hfz 8
  have hz3 : W2.heap.size + 1 = (W2.alloc (.cells #[.int .i64 (k : Int), .int .u8 0, .int .u8 0, .int .i64 (tb : Int), .int .i64 0, .string ⟨#[]⟩, .string ⟨#[]⟩, .int .i64 (x.tr.pls : Int), .int .i64 (x.tr.mor : Int)] 109)).drew.heap.size := by simp
  clear hg hfz d1' dt' p7' p8' HBW
  generalize (W2.alloc (.cells #[.int .i64 (k : Int), .int .u8 0, .int .u8 0, .int .i64 (tb : Int), .int .i64 0, .string ⟨#[]⟩, .string ⟨#[]⟩, .int .i64 (x.tr.pls : Int), .int .i64 (x.tr.mor : Int)] 109)).drew = W3 at *
  have g5 := (HB3.out.cell (p := ⟨B2, 5, none⟩) (by show B2 < w.heap.size + 3; omega)).trans p5
  have g6 := (HB3.out.cell (p := ⟨B2, 6, none⟩) (by show B2 < w.heap.size + 3; omega)).trans p6
  have g8 := (HB3.out.cell (p := ⟨B2, 8, none⟩) (by show B2 < w.heap.size + 3; omega)).trans p8
  have HT3 := hidK (there_below HT2.out HB3.out (by omega))
  have HBY := hidK (HBX.out.trans (HB3.out.mono (by omega)))
  clear HT2 HBX HB3 d0 d1 dt p5 p6 p7 p8
  generalize W2.heap.size = B3 at *
  have hB23 : B2 ≠ B3 := by omega
  have hB3 : Hid (w.heap.size ≤ B3) := by unfold Hid; omega
  have hB31 : Hid (w.heap.size + 1 < B3) := by unfold Hid; omega
  clear hsz hz2 hz3
  have hk3 : k = 5 ∨ k = 6 ∨ k = 7 := by omega
  rcases hk3 with rfl | rfl | rfl
  · go_upto_region 16 with fail
    go_wp2_with (first | (refine wpList_store_mid rfl 109 (.tmp 4) (.tmp 81) rfl (w.heap.size + 1) 0 _ rfl rfl ?_ ?_ ?_ ?_; exact there_set (there_set HT3.out _ _) _ _; exact Try.knodeSize; simp [Value.oneCell']))
    refine ret_cell1 Try.results51 (w.heap.size + 1) 0 (madeP 5 ta tb y x.tr).cells _ rfl ?_ Try.underlying109 rfl Try.knodeSize rfl ⟨rfl, below_setCells _ _ _ _ ((HBY.out.setCell (p := ⟨B3, 5, none⟩) hB3.out _).setCell (p := ⟨B3, 6, none⟩) hB3.out _) (by omega)⟩
    rw [← made5 ta tb y x.tr]
    exact World.rangeAt_setCells_same _ _ _ _ (there_set (there_set HT3.out _ _) _ _)
  · go_upto_region 16 with fail
    go_wp2_with (first | (refine wpList_store_mid rfl 109 (.tmp 4) (.tmp 81) rfl (w.heap.size + 1) 0 _ rfl rfl ?_ ?_ ?_ ?_; exact there_set (there_set (there_set HT3.out _ _) _ _) _ _; exact Try.knodeSize; simp [Value.oneCell']))
    refine ret_cell1 Try.results51 (w.heap.size + 1) 0 (madeP 6 ta tb y x.tr).cells _ rfl ?_ Try.underlying109 rfl Try.knodeSize rfl ⟨rfl, below_setCells _ _ _ _ (((HBY.out.setCell (p := ⟨B3, 5, none⟩) hB3.out _).setCell (p := ⟨B3, 6, none⟩) hB3.out _).setCell (p := ⟨B3, 8, none⟩) hB3.out _) (by omega)⟩
    rw [← made6 ta tb y x.tr]
    exact World.rangeAt_setCells_same _ _ _ _ (there_set (there_set (there_set HT3.out _ _) _ _) _ _)
  · go_upto_region 16 with fail
    go_wp2_with (first | (refine wpList_store_mid rfl 109 (.tmp 4) (.tmp 81) rfl (w.heap.size + 1) 0 _ rfl rfl ?_ ?_ ?_ ?_; exact there_set (there_set HT3.out _ _) _ _; exact Try.knodeSize; simp [Value.oneCell']))
    refine ret_cell1 Try.results51 (w.heap.size + 1) 0 (madeP 7 ta tb y x.tr).cells _ rfl ?_ Try.underlying109 rfl Try.knodeSize rfl ⟨rfl, below_setCells _ _ _ _ ((HBY.out.setCell (p := ⟨B3, 5, none⟩) hB3.out _).setCell (p := ⟨B3, 6, none⟩) hB3.out _) (by omega)⟩
    rw [← made7 ta tb y x.tr]
    exact World.rangeAt_setCells_same _ _ _ _ (there_set (there_set HT3.out _ _) _ _)
end Go.Proofs.Ytgjgjgihceijnaa

