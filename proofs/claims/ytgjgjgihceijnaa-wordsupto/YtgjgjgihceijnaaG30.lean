/- Texts put together: KtMade2. -/
import Derived.Test.YtgjgjgihceijnaaG29
namespace Go.Proofs.Ytgjgjgihceijnaa
open Go.RowKit Go.Stn
theorem made_range (w : World) (o1 o3 o4 o5 : Obj) (C : List Value) (t : TypeId) : ((((((w.alloc o1).alloc (.cells C.toArray t)).alloc o3).alloc o4).alloc o5).drew.drew.drew).rangeAt (w.heap.size + 1) 0 C := by
  have h1 : ((w.alloc o1).alloc (.cells C.toArray t)).rangeAt (w.heap.size + 1) 0 C := by
    have := rangeAt_newL (w.alloc o1) C t
    rw [show (w.alloc o1).heap.size = w.heap.size + 1 by simp] at this
    exact this
  have hb : Below (w.heap.size + 2) ((w.alloc o1).alloc (.cells C.toArray t)) (((((w.alloc o1).alloc (.cells C.toArray t)).alloc o3).alloc o4).alloc o5) := (((Below.refl _ _).alloc (by simp) o3).alloc (by simp) o4).alloc (by simp) o5
  exact rangeAt_below h1 (bdN hb 3) (by omega)
theorem made_below (w : World) (o1 o2 o3 o4 o5 : Obj) : Below w.heap.size w ((((((w.alloc o1).alloc o2).alloc o3).alloc o4).alloc o5).drew.drew.drew) :=
  bdN ((((((Below.refl w.heap.size w).alloc (Nat.le_refl _) o1).alloc (by simp) o2).alloc (by simp; omega) o3).alloc (by simp; omega) o4).alloc (by simp; omega) o5) 3
theorem made3L (ta tb : Nat) (y x : Tr) : [Value.int .i64 3, .int .u8 0, .int .u8 0, .int .i64 (ta : Int), .int .i64 (tb : Int), .string (⟨#[40]⟩ ++ bA y.txt ++ bA x.txt ++ ⟨#[41]⟩), .string (⟨#[40]⟩ ++ bA y.oth ++ ⟨#[41, 40]⟩ ++ bA x.oth ++ ⟨#[41]⟩), .int .i64 ((y.pls : Int) + (x.pls : Int)), .int .i64 ((y.mor : Int) + (x.mor : Int))] = (madeP 3 ta tb y x).cells := by
  have a1 : (⟨#[40]⟩ : ByteArray) = bA [40] := rfl
  have a2 : (⟨#[41]⟩ : ByteArray) = bA [41] := rfl
  have a3 : (⟨#[41, 40]⟩ : ByteArray) = bA [41, 40] := rfl
  have e0 : [40] ++ y.txt ++ x.txt ++ [41] = (Tr.row y x).txt := by simp [Tr.txt]
  have e1 : [40] ++ y.oth ++ [41, 40] ++ x.oth ++ [41] = (Tr.row y x).oth := by simp [Tr.oth]
  have e2 : (y.mor : Int) + (x.mor : Int) = ((y.mor + x.mor : Nat) : Int) := by omega
  have e3 : (y.pls : Int) + (x.pls : Int) = ((y.pls + x.pls : Nat) : Int) := by omega
  simp only [a1, a2, a3, bA_app, e0, e1, e2, e3]
  rfl
theorem made4L (ta tb : Nat) (y x : Tr) : [Value.int .i64 4, .int .u8 0, .int .u8 0, .int .i64 (ta : Int), .int .i64 (tb : Int), .string (⟨#[40]⟩ ++ bA y.txt ++ ⟨#[124]⟩ ++ bA x.txt ++ ⟨#[41]⟩), .string (⟨#[40]⟩ ++ bA x.oth ++ ⟨#[124]⟩ ++ bA y.oth ++ ⟨#[124]⟩ ++ bA x.oth ++ ⟨#[41]⟩), .int .i64 ((y.pls : Int) + (x.pls : Int)), .int .i64 ((y.mor : Int) + (x.mor : Int) + (x.mor : Int))] = (madeP 4 ta tb y x).cells := by
  have a1 : (⟨#[40]⟩ : ByteArray) = bA [40] := rfl
  have a2 : (⟨#[41]⟩ : ByteArray) = bA [41] := rfl
  have a3 : (⟨#[124]⟩ : ByteArray) = bA [124] := rfl
  have e0 : [40] ++ y.txt ++ [124] ++ x.txt ++ [41] = (Tr.or2 y x).txt := by simp [Tr.txt]
  have e1 : [40] ++ x.oth ++ [124] ++ y.oth ++ [124] ++ x.oth ++ [41] = (Tr.or2 y x).oth := by simp [Tr.oth]
  have e2 : (y.mor : Int) + (x.mor : Int) + (x.mor : Int) = ((y.mor + x.mor + x.mor : Nat) : Int) := by omega
  have e3 : (y.pls : Int) + (x.pls : Int) = ((y.pls + x.pls : Nat) : Int) := by omega
  simp only [a1, a2, a3, bA_app, e0, e1, e2, e3]
  rfl
attribute [local go_sem ↓] Go.wp_at_zero Go.wp_at_succ Try.wpLoadNode

set_option maxRecDepth 100000 in
set_option maxHeartbeats 2000000 in
theorem kmade3 (k : Nat) (hk : 3 ≤ k) (hk7 : k ≤ 4) (ga gt ca ct tb L p1 p2 m : Nat) (hL1' : p1 + 1 = L) (hL2' : p2 + 2 = L) (x y : Nd) (ta : Nat) (w : World) (hn : L ≤ 2000000) (_hm : m ≤ 2000000) (htb : tb < m)
    (hx : w.rangeAt ga (tb * 9) x.cells) (ht : w.cell? ⟨gt, p1, none⟩ = some (.int .i64 (tb : Int))) (hta : ta < m) (hy : w.rangeAt ga (ta * 9) y.cells) (hu : w.cell? ⟨gt, p2, none⟩ = some (.int .i64 (ta : Int))) (ba : ga < w.heap.size) (bt : gt < w.heap.size) (hp : x.tr.pls ≤ 1000) (hq : x.tr.mor ≤ 1000) (hs1 : (bA x.tr.txt).size ≤ 1000000000000) (hs2 : (bA x.tr.oth).size ≤ 1000000000000) (hp' : y.tr.pls ≤ 1000000000000) (hq' : y.tr.mor ≤ 1000000000000) (hs1' : (bA y.tr.txt).size ≤ 1000000000000) (hs2' : (bA y.tr.oth).size ≤ 1000000000000) :
    Calls Try.prog 51 #[.agg #[.slice (some ⟨ga, 0, none⟩) m ca, .slice (some ⟨gt, 0, none⟩) L ct], .int .i64 (k : Int)] w fun e w' => e = .returned (.agg (madeP k ta tb y.tr x.tr).cells.toArray) ∧ Below w.heap.size w w' := by
  have ec : x.cells.toArray = #[.int .i64 (x.k : Int), .int .u8 (x.a : Int), .int .u8 (x.b : Int), .int .i64 (x.l : Int), .int .i64 (x.r : Int), .string (bA x.tr.txt), .string (bA x.tr.oth), .int .i64 (x.tr.pls : Int), .int .i64 (x.tr.mor : Int)] := rfl
  have ec2 : y.cells.toArray = #[.int .i64 (y.k : Int), .int .u8 (y.a : Int), .int .u8 (y.b : Int), .int .i64 (y.l : Int), .int .i64 (y.r : Int), .string (bA y.tr.txt), .string (bA y.tr.oth), .int .i64 (y.tr.pls : Int), .int .i64 (y.tr.mor : Int)] := rfl
  have HBa : Hid (Below w.heap.size w ((w.alloc (.cells #[.slice (some ⟨ga, 0, none⟩) m ca, .slice (some ⟨gt, 0, none⟩) L ct] 49)).alloc (.cells #[.int .i64 0, .int .u8 0, .int .u8 0, .int .i64 0, .int .i64 0, .string ⟨#[]⟩, .string ⟨#[]⟩, .int .i64 0, .int .i64 0] 109))) := ((Below.refl w.heap.size w).alloc (Nat.le_refl _) _).alloc (by simp) _
  have tta := (HBa.out.cell (p := ⟨gt, p1, none⟩) bt).trans ht
  have uua := (HBa.out.cell (p := ⟨gt, p2, none⟩) bt).trans hu
  have HBb : Hid (Below w.heap.size w (((w.alloc (.cells #[.slice (some ⟨ga, 0, none⟩) m ca, .slice (some ⟨gt, 0, none⟩) L ct] 49)).alloc (.cells #[.int .i64 0, .int .u8 0, .int .u8 0, .int .i64 0, .int .i64 0, .string ⟨#[]⟩, .string ⟨#[]⟩, .int .i64 0, .int .i64 0] 109)).alloc (.cells #[.int .i64 0, .int .u8 0, .int .u8 0, .int .i64 0, .int .i64 0, .string ⟨#[]⟩, .string ⟨#[]⟩, .int .i64 0, .int .i64 0] 109))) := (((Below.refl w.heap.size w).alloc (Nat.le_refl _) _).alloc (by simp) _).alloc (by simp; omega) _
  have ttb := (HBb.out.cell (p := ⟨gt, p1, none⟩) bt).trans ht
  have uub := (HBb.out.cell (p := ⟨gt, p2, none⟩) bt).trans hu
  have HBc : Hid (Below w.heap.size w (((w.alloc (.cells #[.slice (some ⟨ga, 0, none⟩) m ca, .slice (some ⟨gt, 0, none⟩) L ct] 49)).alloc (.cells #[.int .i64 0, .int .u8 0, .int .u8 0, .int .i64 0, .int .i64 0, .string ⟨#[]⟩, .string ⟨#[]⟩, .int .i64 0, .int .i64 0] 109)).alloc (.cells #[.int .i64 (x.k : Int), .int .u8 (x.a : Int), .int .u8 (x.b : Int), .int .i64 (x.l : Int), .int .i64 (x.r : Int), .string (bA x.tr.txt), .string (bA x.tr.oth), .int .i64 (x.tr.pls : Int), .int .i64 (x.tr.mor : Int)] 109))) := (((Below.refl w.heap.size w).alloc (Nat.le_refl _) _).alloc (by simp) _).alloc (by simp; omega) _
  have ttc := (HBc.out.cell (p := ⟨gt, p1, none⟩) bt).trans ht
  have uuc := (HBc.out.cell (p := ⟨gt, p2, none⟩) bt).trans hu
  have HBd : Hid (Below w.heap.size w ((((w.alloc (.cells #[.slice (some ⟨ga, 0, none⟩) m ca, .slice (some ⟨gt, 0, none⟩) L ct] 49)).alloc (.cells #[.int .i64 0, .int .u8 0, .int .u8 0, .int .i64 0, .int .i64 0, .string ⟨#[]⟩, .string ⟨#[]⟩, .int .i64 0, .int .i64 0] 109)).alloc (.cells #[.int .i64 (x.k : Int), .int .u8 (x.a : Int), .int .u8 (x.b : Int), .int .i64 (x.l : Int), .int .i64 (x.r : Int), .string (bA x.tr.txt), .string (bA x.tr.oth), .int .i64 (x.tr.pls : Int), .int .i64 (x.tr.mor : Int)] 109)).alloc (.cells #[.int .i64 0, .int .u8 0, .int .u8 0, .int .i64 0, .int .i64 0, .string ⟨#[]⟩, .string ⟨#[]⟩, .int .i64 0, .int .i64 0] 109))) := ((((Below.refl w.heap.size w).alloc (Nat.le_refl _) _).alloc (by simp) _).alloc (by simp; omega) _).alloc (by simp; omega) _
  have ttd := (HBd.out.cell (p := ⟨gt, p1, none⟩) bt).trans ht
  have uud := (HBd.out.cell (p := ⟨gt, p2, none⟩) bt).trans hu
  have HBe : Hid (Below w.heap.size w ((((w.alloc (.cells #[.slice (some ⟨ga, 0, none⟩) m ca, .slice (some ⟨gt, 0, none⟩) L ct] 49)).alloc (.cells #[.int .i64 0, .int .u8 0, .int .u8 0, .int .i64 0, .int .i64 0, .string ⟨#[]⟩, .string ⟨#[]⟩, .int .i64 0, .int .i64 0] 109)).alloc (.cells #[.int .i64 (x.k : Int), .int .u8 (x.a : Int), .int .u8 (x.b : Int), .int .i64 (x.l : Int), .int .i64 (x.r : Int), .string (bA x.tr.txt), .string (bA x.tr.oth), .int .i64 (x.tr.pls : Int), .int .i64 (x.tr.mor : Int)] 109)).alloc (.cells #[.int .i64 (k : Int), .int .u8 0, .int .u8 0, .int .i64 (tb : Int), .int .i64 0, .string ⟨#[]⟩, .string ⟨#[]⟩, .int .i64 (x.tr.pls : Int), .int .i64 (x.tr.mor : Int)] 109))) := ((((Below.refl w.heap.size w).alloc (Nat.le_refl _) _).alloc (by simp) _).alloc (by simp; omega) _).alloc (by simp; omega) _
  have tte := (HBe.out.cell (p := ⟨gt, p1, none⟩) bt).trans ht
  have uue := (HBe.out.cell (p := ⟨gt, p2, none⟩) bt).trans hu
  have HBf : Hid (Below w.heap.size w (((((w.alloc (.cells #[.slice (some ⟨ga, 0, none⟩) m ca, .slice (some ⟨gt, 0, none⟩) L ct] 49)).alloc (.cells #[.int .i64 0, .int .u8 0, .int .u8 0, .int .i64 0, .int .i64 0, .string ⟨#[]⟩, .string ⟨#[]⟩, .int .i64 0, .int .i64 0] 109)).alloc (.cells #[.int .i64 (x.k : Int), .int .u8 (x.a : Int), .int .u8 (x.b : Int), .int .i64 (x.l : Int), .int .i64 (x.r : Int), .string (bA x.tr.txt), .string (bA x.tr.oth), .int .i64 (x.tr.pls : Int), .int .i64 (x.tr.mor : Int)] 109)).alloc (.cells #[.int .i64 (k : Int), .int .u8 0, .int .u8 0, .int .i64 (tb : Int), .int .i64 0, .string ⟨#[]⟩, .string ⟨#[]⟩, .int .i64 (x.tr.pls : Int), .int .i64 (x.tr.mor : Int)] 109)).alloc (.cells #[.int .i64 0, .int .u8 0, .int .u8 0, .int .i64 0, .int .i64 0, .string ⟨#[]⟩, .string ⟨#[]⟩, .int .i64 0, .int .i64 0] 109))) := (((((Below.refl w.heap.size w).alloc (Nat.le_refl _) _).alloc (by simp) _).alloc (by simp; omega) _).alloc (by simp; omega) _).alloc (by simp; omega) _
  have ttf := (HBf.out.cell (p := ⟨gt, p1, none⟩) bt).trans ht
  have uuf := (HBf.out.cell (p := ⟨gt, p2, none⟩) bt).trans hu
  have HBg : Hid (Below w.heap.size w (((((w.alloc (.cells #[.slice (some ⟨ga, 0, none⟩) m ca, .slice (some ⟨gt, 0, none⟩) L ct] 49)).alloc (.cells #[.int .i64 0, .int .u8 0, .int .u8 0, .int .i64 0, .int .i64 0, .string ⟨#[]⟩, .string ⟨#[]⟩, .int .i64 0, .int .i64 0] 109)).alloc (.cells #[.int .i64 (x.k : Int), .int .u8 (x.a : Int), .int .u8 (x.b : Int), .int .i64 (x.l : Int), .int .i64 (x.r : Int), .string (bA x.tr.txt), .string (bA x.tr.oth), .int .i64 (x.tr.pls : Int), .int .i64 (x.tr.mor : Int)] 109)).alloc (.cells #[.int .i64 (k : Int), .int .u8 0, .int .u8 0, .int .i64 (tb : Int), .int .i64 0, .string ⟨#[]⟩, .string ⟨#[]⟩, .int .i64 (x.tr.pls : Int), .int .i64 (x.tr.mor : Int)] 109)).alloc (.cells #[.int .i64 (y.k : Int), .int .u8 (y.a : Int), .int .u8 (y.b : Int), .int .i64 (y.l : Int), .int .i64 (y.r : Int), .string (bA y.tr.txt), .string (bA y.tr.oth), .int .i64 (y.tr.pls : Int), .int .i64 (y.tr.mor : Int)] 109))) := (((((Below.refl w.heap.size w).alloc (Nat.le_refl _) _).alloc (by simp) _).alloc (by simp; omega) _).alloc (by simp; omega) _).alloc (by simp; omega) _
  have HBh : Hid (Below w.heap.size w (((((w.alloc (.cells #[.slice (some ⟨ga, 0, none⟩) m ca, .slice (some ⟨gt, 0, none⟩) L ct] 49)).alloc (.cells #[.int .i64 0, .int .u8 0, .int .u8 0, .int .i64 0, .int .i64 0, .string ⟨#[]⟩, .string ⟨#[]⟩, .int .i64 0, .int .i64 0] 109)).alloc (.cells #[.int .i64 (x.k : Int), .int .u8 (x.a : Int), .int .u8 (x.b : Int), .int .i64 (x.l : Int), .int .i64 (x.r : Int), .string (bA x.tr.txt), .string (bA x.tr.oth), .int .i64 (x.tr.pls : Int), .int .i64 (x.tr.mor : Int)] 109)).alloc (.cells #[.int .i64 (k : Int), .int .u8 0, .int .u8 0, .int .i64 (ta : Int), .int .i64 0, .string ⟨#[]⟩, .string ⟨#[]⟩, .int .i64 (x.tr.pls : Int), .int .i64 (x.tr.mor : Int)] 109)).alloc (.cells #[.int .i64 (y.k : Int), .int .u8 (y.a : Int), .int .u8 (y.b : Int), .int .i64 (y.l : Int), .int .i64 (y.r : Int), .string (bA y.tr.txt), .string (bA y.tr.oth), .int .i64 (y.tr.pls : Int), .int .i64 (y.tr.mor : Int)] 109))) := (((((Below.refl w.heap.size w).alloc (Nat.le_refl _) _).alloc (by simp) _).alloc (by simp; omega) _).alloc (by simp; omega) _).alloc (by simp; omega) _
  have tth := (HBh.out.cell (p := ⟨gt, p1, none⟩) bt).trans ht
  have ttg := (HBg.out.cell (p := ⟨gt, p1, none⟩) bt).trans ht
  have uug := (HBg.out.cell (p := ⟨gt, p2, none⟩) bt).trans hu
  have lxa : loadsNode ((w.alloc (.cells #[.slice (some ⟨ga, 0, none⟩) m ca, .slice (some ⟨gt, 0, none⟩) L ct] 49)).alloc (.cells #[.int .i64 0, .int .u8 0, .int .u8 0, .int .i64 0, .int .i64 0, .string ⟨#[]⟩, .string ⟨#[]⟩, .int .i64 0, .int .i64 0] 109)) (.pointer (some ⟨ga, tb * 9, none⟩)) := ⟨ga, tb * 9, x, rfl, rangeAt_below hx HBa.out ba⟩
  have lxda : loadsNode ((w.alloc (.cells #[.slice (some ⟨ga, 0, none⟩) m ca, .slice (some ⟨gt, 0, none⟩) L ct] 49)).alloc (.cells #[.int .i64 0, .int .u8 0, .int .u8 0, .int .i64 0, .int .i64 0, .string ⟨#[]⟩, .string ⟨#[]⟩, .int .i64 0, .int .i64 0] 109)).drew (.pointer (some ⟨ga, tb * 9, none⟩)) := ⟨ga, tb * 9, x, rfl, rangeAt_below hx (bdN HBa.out 1) ba⟩
  have exa := nodeOf_eq (rangeAt_below hx HBa.out ba)
  have exda := nodeOf_eq (X := ((w.alloc (.cells #[.slice (some ⟨ga, 0, none⟩) m ca, .slice (some ⟨gt, 0, none⟩) L ct] 49)).alloc (.cells #[.int .i64 0, .int .u8 0, .int .u8 0, .int .i64 0, .int .i64 0, .string ⟨#[]⟩, .string ⟨#[]⟩, .int .i64 0, .int .i64 0] 109)).drew) (rangeAt_below hx (bdN HBa.out 1) ba)
  rw [ec] at exa exda
  have lxb : loadsNode (((w.alloc (.cells #[.slice (some ⟨ga, 0, none⟩) m ca, .slice (some ⟨gt, 0, none⟩) L ct] 49)).alloc (.cells #[.int .i64 0, .int .u8 0, .int .u8 0, .int .i64 0, .int .i64 0, .string ⟨#[]⟩, .string ⟨#[]⟩, .int .i64 0, .int .i64 0] 109)).alloc (.cells #[.int .i64 0, .int .u8 0, .int .u8 0, .int .i64 0, .int .i64 0, .string ⟨#[]⟩, .string ⟨#[]⟩, .int .i64 0, .int .i64 0] 109)) (.pointer (some ⟨ga, tb * 9, none⟩)) := ⟨ga, tb * 9, x, rfl, rangeAt_below hx HBb.out ba⟩
  have lxdb : loadsNode (((w.alloc (.cells #[.slice (some ⟨ga, 0, none⟩) m ca, .slice (some ⟨gt, 0, none⟩) L ct] 49)).alloc (.cells #[.int .i64 0, .int .u8 0, .int .u8 0, .int .i64 0, .int .i64 0, .string ⟨#[]⟩, .string ⟨#[]⟩, .int .i64 0, .int .i64 0] 109)).alloc (.cells #[.int .i64 0, .int .u8 0, .int .u8 0, .int .i64 0, .int .i64 0, .string ⟨#[]⟩, .string ⟨#[]⟩, .int .i64 0, .int .i64 0] 109)).drew (.pointer (some ⟨ga, tb * 9, none⟩)) := ⟨ga, tb * 9, x, rfl, rangeAt_below hx (bdN HBb.out 1) ba⟩
  have exb := nodeOf_eq (rangeAt_below hx HBb.out ba)
  have exdb := nodeOf_eq (X := (((w.alloc (.cells #[.slice (some ⟨ga, 0, none⟩) m ca, .slice (some ⟨gt, 0, none⟩) L ct] 49)).alloc (.cells #[.int .i64 0, .int .u8 0, .int .u8 0, .int .i64 0, .int .i64 0, .string ⟨#[]⟩, .string ⟨#[]⟩, .int .i64 0, .int .i64 0] 109)).alloc (.cells #[.int .i64 0, .int .u8 0, .int .u8 0, .int .i64 0, .int .i64 0, .string ⟨#[]⟩, .string ⟨#[]⟩, .int .i64 0, .int .i64 0] 109)).drew) (rangeAt_below hx (bdN HBb.out 1) ba)
  rw [ec] at exb exdb
  have lye : loadsNode ((((w.alloc (.cells #[.slice (some ⟨ga, 0, none⟩) m ca, .slice (some ⟨gt, 0, none⟩) L ct] 49)).alloc (.cells #[.int .i64 0, .int .u8 0, .int .u8 0, .int .i64 0, .int .i64 0, .string ⟨#[]⟩, .string ⟨#[]⟩, .int .i64 0, .int .i64 0] 109)).alloc (.cells #[.int .i64 (x.k : Int), .int .u8 (x.a : Int), .int .u8 (x.b : Int), .int .i64 (x.l : Int), .int .i64 (x.r : Int), .string (bA x.tr.txt), .string (bA x.tr.oth), .int .i64 (x.tr.pls : Int), .int .i64 (x.tr.mor : Int)] 109)).alloc (.cells #[.int .i64 (k : Int), .int .u8 0, .int .u8 0, .int .i64 (tb : Int), .int .i64 0, .string ⟨#[]⟩, .string ⟨#[]⟩, .int .i64 (x.tr.pls : Int), .int .i64 (x.tr.mor : Int)] 109)) (.pointer (some ⟨ga, ta * 9, none⟩)) := ⟨ga, ta * 9, y, rfl, rangeAt_below hy HBe.out ba⟩
  have ly2e : loadsNode ((((w.alloc (.cells #[.slice (some ⟨ga, 0, none⟩) m ca, .slice (some ⟨gt, 0, none⟩) L ct] 49)).alloc (.cells #[.int .i64 0, .int .u8 0, .int .u8 0, .int .i64 0, .int .i64 0, .string ⟨#[]⟩, .string ⟨#[]⟩, .int .i64 0, .int .i64 0] 109)).alloc (.cells #[.int .i64 (x.k : Int), .int .u8 (x.a : Int), .int .u8 (x.b : Int), .int .i64 (x.l : Int), .int .i64 (x.r : Int), .string (bA x.tr.txt), .string (bA x.tr.oth), .int .i64 (x.tr.pls : Int), .int .i64 (x.tr.mor : Int)] 109)).alloc (.cells #[.int .i64 (k : Int), .int .u8 0, .int .u8 0, .int .i64 (tb : Int), .int .i64 0, .string ⟨#[]⟩, .string ⟨#[]⟩, .int .i64 (x.tr.pls : Int), .int .i64 (x.tr.mor : Int)] 109)).drew.drew (.pointer (some ⟨ga, ta * 9, none⟩)) := ⟨ga, ta * 9, y, rfl, rangeAt_below hy (bdN HBe.out 2) ba⟩
  have ly3e : loadsNode ((((w.alloc (.cells #[.slice (some ⟨ga, 0, none⟩) m ca, .slice (some ⟨gt, 0, none⟩) L ct] 49)).alloc (.cells #[.int .i64 0, .int .u8 0, .int .u8 0, .int .i64 0, .int .i64 0, .string ⟨#[]⟩, .string ⟨#[]⟩, .int .i64 0, .int .i64 0] 109)).alloc (.cells #[.int .i64 (x.k : Int), .int .u8 (x.a : Int), .int .u8 (x.b : Int), .int .i64 (x.l : Int), .int .i64 (x.r : Int), .string (bA x.tr.txt), .string (bA x.tr.oth), .int .i64 (x.tr.pls : Int), .int .i64 (x.tr.mor : Int)] 109)).alloc (.cells #[.int .i64 (k : Int), .int .u8 0, .int .u8 0, .int .i64 (tb : Int), .int .i64 0, .string ⟨#[]⟩, .string ⟨#[]⟩, .int .i64 (x.tr.pls : Int), .int .i64 (x.tr.mor : Int)] 109)).drew.drew.drew (.pointer (some ⟨ga, ta * 9, none⟩)) := ⟨ga, ta * 9, y, rfl, rangeAt_below hy (bdN HBe.out 3) ba⟩
  have eye := nodeOf_eq (rangeAt_below hy HBe.out ba)
  have ey2e := nodeOf_eq (X := ((((w.alloc (.cells #[.slice (some ⟨ga, 0, none⟩) m ca, .slice (some ⟨gt, 0, none⟩) L ct] 49)).alloc (.cells #[.int .i64 0, .int .u8 0, .int .u8 0, .int .i64 0, .int .i64 0, .string ⟨#[]⟩, .string ⟨#[]⟩, .int .i64 0, .int .i64 0] 109)).alloc (.cells #[.int .i64 (x.k : Int), .int .u8 (x.a : Int), .int .u8 (x.b : Int), .int .i64 (x.l : Int), .int .i64 (x.r : Int), .string (bA x.tr.txt), .string (bA x.tr.oth), .int .i64 (x.tr.pls : Int), .int .i64 (x.tr.mor : Int)] 109)).alloc (.cells #[.int .i64 (k : Int), .int .u8 0, .int .u8 0, .int .i64 (tb : Int), .int .i64 0, .string ⟨#[]⟩, .string ⟨#[]⟩, .int .i64 (x.tr.pls : Int), .int .i64 (x.tr.mor : Int)] 109)).drew.drew) (rangeAt_below hy (bdN HBe.out 2) ba)
  have ey3e := nodeOf_eq (X := ((((w.alloc (.cells #[.slice (some ⟨ga, 0, none⟩) m ca, .slice (some ⟨gt, 0, none⟩) L ct] 49)).alloc (.cells #[.int .i64 0, .int .u8 0, .int .u8 0, .int .i64 0, .int .i64 0, .string ⟨#[]⟩, .string ⟨#[]⟩, .int .i64 0, .int .i64 0] 109)).alloc (.cells #[.int .i64 (x.k : Int), .int .u8 (x.a : Int), .int .u8 (x.b : Int), .int .i64 (x.l : Int), .int .i64 (x.r : Int), .string (bA x.tr.txt), .string (bA x.tr.oth), .int .i64 (x.tr.pls : Int), .int .i64 (x.tr.mor : Int)] 109)).alloc (.cells #[.int .i64 (k : Int), .int .u8 0, .int .u8 0, .int .i64 (tb : Int), .int .i64 0, .string ⟨#[]⟩, .string ⟨#[]⟩, .int .i64 (x.tr.pls : Int), .int .i64 (x.tr.mor : Int)] 109)).drew.drew.drew) (rangeAt_below hy (bdN HBe.out 3) ba)
  rw [ec2] at eye ey2e ey3e
  have lyf : loadsNode (((((w.alloc (.cells #[.slice (some ⟨ga, 0, none⟩) m ca, .slice (some ⟨gt, 0, none⟩) L ct] 49)).alloc (.cells #[.int .i64 0, .int .u8 0, .int .u8 0, .int .i64 0, .int .i64 0, .string ⟨#[]⟩, .string ⟨#[]⟩, .int .i64 0, .int .i64 0] 109)).alloc (.cells #[.int .i64 (x.k : Int), .int .u8 (x.a : Int), .int .u8 (x.b : Int), .int .i64 (x.l : Int), .int .i64 (x.r : Int), .string (bA x.tr.txt), .string (bA x.tr.oth), .int .i64 (x.tr.pls : Int), .int .i64 (x.tr.mor : Int)] 109)).alloc (.cells #[.int .i64 (k : Int), .int .u8 0, .int .u8 0, .int .i64 (tb : Int), .int .i64 0, .string ⟨#[]⟩, .string ⟨#[]⟩, .int .i64 (x.tr.pls : Int), .int .i64 (x.tr.mor : Int)] 109)).alloc (.cells #[.int .i64 0, .int .u8 0, .int .u8 0, .int .i64 0, .int .i64 0, .string ⟨#[]⟩, .string ⟨#[]⟩, .int .i64 0, .int .i64 0] 109)) (.pointer (some ⟨ga, ta * 9, none⟩)) := ⟨ga, ta * 9, y, rfl, rangeAt_below hy HBf.out ba⟩
  have ly2f : loadsNode (((((w.alloc (.cells #[.slice (some ⟨ga, 0, none⟩) m ca, .slice (some ⟨gt, 0, none⟩) L ct] 49)).alloc (.cells #[.int .i64 0, .int .u8 0, .int .u8 0, .int .i64 0, .int .i64 0, .string ⟨#[]⟩, .string ⟨#[]⟩, .int .i64 0, .int .i64 0] 109)).alloc (.cells #[.int .i64 (x.k : Int), .int .u8 (x.a : Int), .int .u8 (x.b : Int), .int .i64 (x.l : Int), .int .i64 (x.r : Int), .string (bA x.tr.txt), .string (bA x.tr.oth), .int .i64 (x.tr.pls : Int), .int .i64 (x.tr.mor : Int)] 109)).alloc (.cells #[.int .i64 (k : Int), .int .u8 0, .int .u8 0, .int .i64 (tb : Int), .int .i64 0, .string ⟨#[]⟩, .string ⟨#[]⟩, .int .i64 (x.tr.pls : Int), .int .i64 (x.tr.mor : Int)] 109)).alloc (.cells #[.int .i64 0, .int .u8 0, .int .u8 0, .int .i64 0, .int .i64 0, .string ⟨#[]⟩, .string ⟨#[]⟩, .int .i64 0, .int .i64 0] 109)).drew.drew (.pointer (some ⟨ga, ta * 9, none⟩)) := ⟨ga, ta * 9, y, rfl, rangeAt_below hy (bdN HBf.out 2) ba⟩
  have ly3f : loadsNode (((((w.alloc (.cells #[.slice (some ⟨ga, 0, none⟩) m ca, .slice (some ⟨gt, 0, none⟩) L ct] 49)).alloc (.cells #[.int .i64 0, .int .u8 0, .int .u8 0, .int .i64 0, .int .i64 0, .string ⟨#[]⟩, .string ⟨#[]⟩, .int .i64 0, .int .i64 0] 109)).alloc (.cells #[.int .i64 (x.k : Int), .int .u8 (x.a : Int), .int .u8 (x.b : Int), .int .i64 (x.l : Int), .int .i64 (x.r : Int), .string (bA x.tr.txt), .string (bA x.tr.oth), .int .i64 (x.tr.pls : Int), .int .i64 (x.tr.mor : Int)] 109)).alloc (.cells #[.int .i64 (k : Int), .int .u8 0, .int .u8 0, .int .i64 (tb : Int), .int .i64 0, .string ⟨#[]⟩, .string ⟨#[]⟩, .int .i64 (x.tr.pls : Int), .int .i64 (x.tr.mor : Int)] 109)).alloc (.cells #[.int .i64 0, .int .u8 0, .int .u8 0, .int .i64 0, .int .i64 0, .string ⟨#[]⟩, .string ⟨#[]⟩, .int .i64 0, .int .i64 0] 109)).drew.drew.drew (.pointer (some ⟨ga, ta * 9, none⟩)) := ⟨ga, ta * 9, y, rfl, rangeAt_below hy (bdN HBf.out 3) ba⟩
  have eyf := nodeOf_eq (rangeAt_below hy HBf.out ba)
  have ey2f := nodeOf_eq (X := (((((w.alloc (.cells #[.slice (some ⟨ga, 0, none⟩) m ca, .slice (some ⟨gt, 0, none⟩) L ct] 49)).alloc (.cells #[.int .i64 0, .int .u8 0, .int .u8 0, .int .i64 0, .int .i64 0, .string ⟨#[]⟩, .string ⟨#[]⟩, .int .i64 0, .int .i64 0] 109)).alloc (.cells #[.int .i64 (x.k : Int), .int .u8 (x.a : Int), .int .u8 (x.b : Int), .int .i64 (x.l : Int), .int .i64 (x.r : Int), .string (bA x.tr.txt), .string (bA x.tr.oth), .int .i64 (x.tr.pls : Int), .int .i64 (x.tr.mor : Int)] 109)).alloc (.cells #[.int .i64 (k : Int), .int .u8 0, .int .u8 0, .int .i64 (tb : Int), .int .i64 0, .string ⟨#[]⟩, .string ⟨#[]⟩, .int .i64 (x.tr.pls : Int), .int .i64 (x.tr.mor : Int)] 109)).alloc (.cells #[.int .i64 0, .int .u8 0, .int .u8 0, .int .i64 0, .int .i64 0, .string ⟨#[]⟩, .string ⟨#[]⟩, .int .i64 0, .int .i64 0] 109)).drew.drew) (rangeAt_below hy (bdN HBf.out 2) ba)
  have ey3f := nodeOf_eq (X := (((((w.alloc (.cells #[.slice (some ⟨ga, 0, none⟩) m ca, .slice (some ⟨gt, 0, none⟩) L ct] 49)).alloc (.cells #[.int .i64 0, .int .u8 0, .int .u8 0, .int .i64 0, .int .i64 0, .string ⟨#[]⟩, .string ⟨#[]⟩, .int .i64 0, .int .i64 0] 109)).alloc (.cells #[.int .i64 (x.k : Int), .int .u8 (x.a : Int), .int .u8 (x.b : Int), .int .i64 (x.l : Int), .int .i64 (x.r : Int), .string (bA x.tr.txt), .string (bA x.tr.oth), .int .i64 (x.tr.pls : Int), .int .i64 (x.tr.mor : Int)] 109)).alloc (.cells #[.int .i64 (k : Int), .int .u8 0, .int .u8 0, .int .i64 (tb : Int), .int .i64 0, .string ⟨#[]⟩, .string ⟨#[]⟩, .int .i64 (x.tr.pls : Int), .int .i64 (x.tr.mor : Int)] 109)).alloc (.cells #[.int .i64 0, .int .u8 0, .int .u8 0, .int .i64 0, .int .i64 0, .string ⟨#[]⟩, .string ⟨#[]⟩, .int .i64 0, .int .i64 0] 109)).drew.drew.drew) (rangeAt_below hy (bdN HBf.out 3) ba)
  rw [ec2] at eyf ey2f ey3f
  have wn1 : IntKind.i64.wrap (p1 : Int) = (p1 : Int) := IntWalk.i64_in _ (by omega)
  have wn2 : IntKind.i64.wrap (p2 : Int) = (p2 : Int) := IntWalk.i64_in _ (by omega)
  have hL1 : (L : Int) - 1 = (p1 : Int) := by omega
  have hL2 : (L : Int) - 2 = (p2 : Int) := by omega
  have hp1I : (0 : Int) ≤ (p1 : Int) ∧ (p1 : Int) < (L : Int) := by omega
  have hp2I : (0 : Int) ≤ (p2 : Int) ∧ (p2 : Int) < (L : Int) := by omega
  have htaI : (0 : Int) ≤ (ta : Int) ∧ (ta : Int) < (m : Int) := by omega
  have htbI : (0 : Int) ≤ (tb : Int) ∧ (tb : Int) < (m : Int) := by omega
  have HL1 := hidK hL1'
  have HL2 := hidK hL2'
  have HX := hidK hx
  have HY := hidK hy
  clear hL1' hL2' hx hy ht hu
  have dk5 : ((k : Int) == 5) = false := by rw [beq_eq_false_iff_ne]; omega
  have dk6 : ((k : Int) == 6) = false := by rw [beq_eq_false_iff_ne]; omega
  have dk7 : ((k : Int) == 7) = false := by rw [beq_eq_false_iff_ne]; omega
  have dk8 : decide ((5 : Int) ≤ (k : Int)) = false := by simp; omega
  go_enter Try.func51, Try.ntmps51
  go_upto_region 2 with fail
  go_region
  as_aux_lemma =>
  go_upto_region 3 with fail
  go_region
  as_aux_lemma =>
  go_upto_region 17 with fail
  go_region
  as_aux_lemma =>
  go_upto_region 19 with fail
  as_aux_lemma =>
  go_upto_region 20 with fail
  as_aux_lemma =>
  go_upto_region 22 with fail
  as_aux_lemma =>
  have hk3 : k = 3 ∨ k = 4 := by omega
  rcases hk3 with rfl | rfl
  · as_aux_lemma =>
    go_upto_region 24 with fail
    as_aux_lemma =>
    go_upto_region 28 with fail
    as_aux_lemma =>
    go_wp2_with fail
    refine ret_cell1 Try.results51 (w.heap.size + 1) 0 (madeP 3 ta tb y.tr x.tr).cells _ rfl ?_ Try.underlying109 rfl Try.knodeSize rfl ⟨rfl, made_below _ _ _ _ _ _⟩
    rw [← made3L ta tb y.tr x.tr]
    exact made_range _ _ _ _ _ _ _
  · as_aux_lemma =>
    go_upto_region 26 with fail
    as_aux_lemma =>
    go_upto_region 27 with fail
    as_aux_lemma =>
    go_upto_region 28 with fail
    as_aux_lemma =>
    go_wp2_with fail
    refine ret_cell1 Try.results51 (w.heap.size + 1) 0 (madeP 4 ta tb y.tr x.tr).cells _ rfl ?_ Try.underlying109 rfl Try.knodeSize rfl ⟨rfl, made_below _ _ _ _ _ _⟩
    rw [← made4L ta tb y.tr x.tr]
    exact made_range _ _ _ _ _ _ _
end Go.Proofs.Ytgjgjgihceijnaa

