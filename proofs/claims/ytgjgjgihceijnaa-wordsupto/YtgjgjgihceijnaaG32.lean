/- Texts put together: KtSpell, KtBuiltP. -/
import Derived.Test.YtgjgjgihceijnaaG30
import Derived.Test.YtgjgjgihceijnaaG31
namespace Go.Stn
def nd0 : Nd := ⟨0, 0, 0, 0, 0, .any⟩
/-- The trees of the rules. -/
def treesOf (all : List Nd) (tops : List Nat) : List Tr := tops.map fun t => (all.getD t nd0).tr
theorem treesOf_len (all : List Nd) (tops : List Nat) : (treesOf all tops).length = tops.length := by unfold treesOf; simp
/-- The text of the first k rules. -/
def txtK (o : Bool) (rs : List Tr) (k : Nat) : List Nat := fileTx ((rs.take k).map (Tr.sp o))
def sumK (o : Bool) (rs : List Tr) (k : Nat) : Nat := sumC o (rs.take k)
theorem txtK_zero (o : Bool) (rs : List Tr) : txtK o rs 0 = [] := by simp [txtK, fileTx]
theorem txtK_one {o : Bool} {rs : List Tr} {r : Tr} (h : rs[0]? = some r) : txtK o rs 1 = ruleTx (r.sp o) := by
  cases rs with
  | nil => cases h
  | cons x l =>
    have e : x = r := by simpa using h
    subst e
    simp [txtK, fileTx, tailTx]
theorem take_snoc {α : Type} {l : List α} {k : Nat} {r : α} (h : l[k]? = some r) : l.take (k + 1) = l.take k ++ [r] := by
  rw [List.take_add_one, h]; rfl
theorem txtK_succ {o : Bool} {rs : List Tr} {k : Nat} {r : Tr} (h : rs[k]? = some r) (hk : 0 < k) : txtK o rs (k + 1) = txtK o rs k ++ (10 :: ruleTx (r.sp o)) := by
  unfold txtK
  rw [take_snoc h, List.map_append, List.map_cons, List.map_nil, fileTx_snoc]
  intro e
  have hl := congrArg List.length e
  have := (List.getElem?_eq_some_iff.1 h).1
  rw [List.length_map, List.length_take, List.length_nil] at hl
  omega
theorem sumK_succ {o : Bool} {rs : List Tr} {k : Nat} {r : Tr} (h : rs[k]? = some r) : sumK o rs (k + 1) = sumK o rs k + r.cnt o := by
  unfold sumK; rw [take_snoc h, sumC_snoc]
theorem tailTx_app : ∀ (l m : List (List Nat)), tailTx (l ++ m) = tailTx l ++ tailTx m
  | [], m => rfl
  | e :: l, m => by simp [tailTx, tailTx_app l m]
theorem fileTx_app_le : ∀ (l m : List (List Nat)), (fileTx l).length ≤ (fileTx (l ++ m)).length
  | [], m => Nat.zero_le _
  | e :: l, m => by simp [fileTx, tailTx_app]
theorem txtK_le (o : Bool) (rs : List Tr) (k : Nat) : (txtK o rs k).length ≤ (fileTx (rs.map (Tr.sp o))).length := by
  have e : rs.map (Tr.sp o) = (rs.take k).map (Tr.sp o) ++ (rs.drop k).map (Tr.sp o) := by rw [← List.map_append, List.take_append_drop]
  rw [e]
  exact fileTx_app_le _ _
theorem sumC_app (o : Bool) : ∀ (l m : List Tr), sumC o (l ++ m) = sumC o l + sumC o m
  | [], m => by simp [sumC]
  | r :: l, m => by simp only [List.cons_append, sumC, sumC_app o l m]; omega
theorem sumK_le (o : Bool) (rs : List Tr) (k : Nat) : sumK o rs k ≤ sumC o rs := by
  have e : sumC o rs = sumC o (rs.take k) + sumC o (rs.drop k) := by rw [← sumC_app, List.take_append_drop]
  unfold sumK; omega
theorem txtK_all (o : Bool) (rs : List Tr) : txtK o rs rs.length = fileTx (rs.map (Tr.sp o)) := by unfold txtK; rw [List.take_length]
theorem sumK_all (o : Bool) (rs : List Tr) : sumK o rs rs.length = sumC o rs := by unfold sumK; rw [List.take_length]
theorem sumK_zero (o : Bool) (rs : List Tr) : sumK o rs 0 = 0 := by simp [sumK, sumC]
end Go.Stn
namespace Go.Stn
theorem treesOf_get {all : List Nd} {tops : List Nat} {i t : Nat} {x : Nd} (h1 : tops[i]? = some t) (h2 : all[t]? = some x) : (treesOf all tops)[i]? = some x.tr := by
  unfold treesOf
  rw [List.getElem?_map, h1]
  simp [List.getD_eq_getElem?_getD, h2]
theorem str_one (u v : List Nat) : bA u ++ ⟨#[65, 32]⟩ ++ bA v ++ ⟨#[32, 46]⟩ = bA (u ++ ruleTx v) := by
  have a1 : (⟨#[65, 32]⟩ : ByteArray) = bA [65, 32] := rfl
  have a2 : (⟨#[32, 46]⟩ : ByteArray) = bA [32, 46] := rfl
  rw [a1, a2, bA_app, bA_app, bA_app]
  congr 1
  simp [ruleTx]
theorem str_two (u v : List Nat) : bA u ++ ⟨#[10]⟩ ++ ⟨#[65, 32]⟩ ++ bA v ++ ⟨#[32, 46]⟩ = bA (u ++ (10 :: ruleTx v)) := by
  have a0 : (⟨#[10]⟩ : ByteArray) = bA [10] := rfl
  rw [a0, bA_app, str_one]
  congr 1
  simp
end Go.Stn
namespace Go.Proofs.Ytgjgjgihceijnaa
open Go.RowKit Go.Stn
attribute [local go_sem ↓] Try.wpLoadNode
set_option maxRecDepth 100000 in
set_option maxHeartbeats 2000000 in
theorem kspelledF (ga gt ca ct : Nat) (all : List Nd) (tops : List Nat) (w : World) (h : RuIn w ga gt all tops) (_hm : all.length ≤ 2000000) (hn : tops.length ≤ 2000000)
    (hlen : (fileTx ((treesOf all tops).map (Tr.sp false))).length ≤ 1000000000000) (hsum : sumC false (treesOf all tops) ≤ 1000000000000) :
    Calls Try.prog 29 #[.agg #[.slice (some ⟨ga, 0, none⟩) all.length ca, .slice (some ⟨gt, 0, none⟩) tops.length ct], .bool false] w fun e w' => e = .returned (.tuple #[.string (bA (fileTx ((treesOf all tops).map (Tr.sp false)))), .int .i64 (sumC false (treesOf all tops) : Int)]) ∧ Below w.heap.size w w' := by
  have HE1 : Hid (txtK false (treesOf all tops) tops.length = fileTx ((treesOf all tops).map (Tr.sp false))) := by unfold Hid; rw [← treesOf_len all tops]; exact txtK_all _ _
  have HE2 : Hid (sumK false (treesOf all tops) tops.length = sumC false (treesOf all tops)) := by unfold Hid; rw [← treesOf_len all tops]; exact sumK_all _ _
  have HL : Hid (∀ k, (txtK false (treesOf all tops) k).length ≤ 1000000000000) := fun k => Nat.le_trans (txtK_le _ _ k) hlen
  have HS : Hid (∀ k, sumK false (treesOf all tops) k ≤ 1000000000000) := fun k => Nat.le_trans (sumK_le _ _ k) hsum
  have HH := hidK h
  have HB0 : Hid (Below w.heap.size w (w.alloc (.cells #[.slice (some ⟨ga, 0, none⟩) all.length ca, .slice (some ⟨gt, 0, none⟩) tops.length ct] 49))) := (Below.refl _ _).alloc (Nat.le_refl _) _
  have HW := hidK (h.below HB0.out)
  have HC0 : Hid ((w.alloc (.cells #[.slice (some ⟨ga, 0, none⟩) all.length ca, .slice (some ⟨gt, 0, none⟩) tops.length ct] 49)).cell? ⟨w.heap.size, 0, none⟩ = some (.slice (some ⟨ga, 0, none⟩) all.length ca)) := (World.cell?_alloc_at _ _ _ 0 rfl).trans rfl
  have HC1 : Hid ((w.alloc (.cells #[.slice (some ⟨ga, 0, none⟩) all.length ca, .slice (some ⟨gt, 0, none⟩) tops.length ct] 49)).cell? ⟨w.heap.size, 1, none⟩ = some (.slice (some ⟨gt, 0, none⟩) tops.length ct)) := (World.cell?_alloc_at _ _ _ 1 rfl).trans rfl
  have hsz : w.heap.size + 1 = (w.alloc (.cells #[.slice (some ⟨ga, 0, none⟩) all.length ca, .slice (some ⟨gt, 0, none⟩) tops.length ct] 49)).heap.size := by simp
  clear h hlen hsum
  go_enter Try.func29, Try.ntmps29
  go_upto_region 3 with fail
  generalize w.alloc (.cells #[.slice (some ⟨ga, 0, none⟩) all.length ca, .slice (some ⟨gt, 0, none⟩) tops.length ct] 49) = W at *
  go_wp2
  go_loopw [6, 7, 8] (fun s nn ii wr => ∃ k : Nat, k ≤ tops.length ∧ ii = .int .i64 (k : Int) ∧ s = .string (bA (txtK false (treesOf all tops) k)) ∧ nn = .int .i64 (sumK false (treesOf all tops) k : Int) ∧ Below W.heap.size W wr) (fun _ _ ii _ => tops.length - (intOf ii).toNat)
  case atStart => exact ⟨0, by omega, rfl, by rw [txtK_zero]; rfl, by rw [sumK_zero]; rfl, Below.refl _ _⟩
  case round =>
    obtain ⟨k, hk, rfl, rfl, rfl, hb⟩ := hrel
    have c0 := (hb.cell (p := ⟨w.heap.size, 0, none⟩) (by show w.heap.size < W.heap.size; omega)).trans HC0.out
    have c1 := (hb.cell (p := ⟨w.heap.size, 1, none⟩) (by show w.heap.size < W.heap.size; omega)).trans HC1.out
    have HR := hidK (HW.out.below hb)
    have hwr : W.heap.size ≤ wr.heap.size := hb.size
    have HBB := hidK hb
    clear hb
    by_cases hlt : k < tops.length
    · obtain ⟨t, ht⟩ : ∃ t, tops[k]? = some t := ⟨_, List.getElem?_eq_getElem hlt⟩
      have hta := HR.out.ok k t ht
      obtain ⟨x, hx⟩ : ∃ x, all[t]? = some x := ⟨_, List.getElem?_eq_getElem hta⟩
      have hrs := treesOf_get ht hx
      have tc := HR.out.tp k t ht
      have hxr := HR.out.nd t x hx
      have HBZ : Hid (Below wr.heap.size wr (wr.alloc (.cells #[.int .i64 0, .int .u8 0, .int .u8 0, .int .i64 0, .int .i64 0, .string ⟨#[]⟩, .string ⟨#[]⟩, .int .i64 0, .int .i64 0] 109))) := (Below.refl _ _).alloc (Nat.le_refl _) _
      have c0' := (HBZ.out.cell (p := ⟨w.heap.size, 0, none⟩) (by show w.heap.size < wr.heap.size; omega)).trans c0
      have c1' := (HBZ.out.cell (p := ⟨w.heap.size, 1, none⟩) (by show w.heap.size < wr.heap.size; omega)).trans c1
      have tc' := (HBZ.out.cell (p := ⟨gt, k, none⟩) HR.out.bt).trans tc
      have l1 : loadsNode wr (.pointer (some ⟨ga, t * 9, none⟩)) := ⟨ga, t * 9, x, rfl, hxr⟩
      have l2 : loadsNode (wr.alloc (.cells #[.int .i64 0, .int .u8 0, .int .u8 0, .int .i64 0, .int .i64 0, .string ⟨#[]⟩, .string ⟨#[]⟩, .int .i64 0, .int .i64 0] 109)) (.pointer (some ⟨ga, t * 9, none⟩)) := ⟨ga, t * 9, x, rfl, rangeAt_below hxr HBZ.out HR.out.ba⟩
      have l3 : loadsNode wr.drew (.pointer (some ⟨ga, t * 9, none⟩)) := ⟨ga, t * 9, x, rfl, hxr⟩
      have l4 : loadsNode (wr.alloc (.cells #[.int .i64 0, .int .u8 0, .int .u8 0, .int .i64 0, .int .i64 0, .string ⟨#[]⟩, .string ⟨#[]⟩, .int .i64 0, .int .i64 0] 109)).drew (.pointer (some ⟨ga, t * 9, none⟩)) := ⟨ga, t * 9, x, rfl, rangeAt_below hxr (bdN HBZ.out 1) HR.out.ba⟩
      have ec : x.cells.toArray = #[.int .i64 (x.k : Int), .int .u8 (x.a : Int), .int .u8 (x.b : Int), .int .i64 (x.l : Int), .int .i64 (x.r : Int), .string (bA x.tr.txt), .string (bA x.tr.oth), .int .i64 (x.tr.pls : Int), .int .i64 (x.tr.mor : Int)] := rfl
      have e1 := nodeOf_eq hxr
      have e2 := nodeOf_eq (rangeAt_below hxr HBZ.out HR.out.ba)
      have e3 := nodeOf_eq (X := wr.drew) hxr
      have e4 := nodeOf_eq (X := (wr.alloc (.cells #[.int .i64 0, .int .u8 0, .int .u8 0, .int .i64 0, .int .i64 0, .string ⟨#[]⟩, .string ⟨#[]⟩, .int .i64 0, .int .i64 0] 109)).drew) (rangeAt_below hxr (bdN HBZ.out 1) HR.out.ba)
      rw [ec] at e1 e2 e3 e4
      have htI : (0 : Int) ≤ (t : Int) ∧ (t : Int) < (all.length : Int) := by omega
      have hkI : (0 : Int) ≤ (k : Int) ∧ (k : Int) < (tops.length : Int) := by omega
      have HL1 := HL.out (k + 1)
      have HS1 := HS.out (k + 1)
      rw [sumK_succ hrs] at HS1
      have HX := hidK hxr
      have HNB : Hid (Below W.heap.size W (wr.alloc (.cells #[.int .i64 (x.k : Int), .int .u8 (x.a : Int), .int .u8 (x.b : Int), .int .i64 (x.l : Int), .int .i64 (x.r : Int), .string (bA x.tr.txt), .string (bA x.tr.oth), .int .i64 (x.tr.pls : Int), .int .i64 (x.tr.mor : Int)] 109)).drew) := bdN (HBB.out.alloc hwr _) 1
      have HSK : Hid (sumK false (treesOf all tops) (k + 1) = sumK false (treesOf all tops) k + x.tr.pls) := sumK_succ hrs
      clear hxr
      by_cases h0 : 0 < k
      · have d0 : decide ((0 : Int) < (k : Int)) = true := by simp; omega
        have HT : Hid (bA (txtK false (treesOf all tops) k) ++ ⟨#[10]⟩ ++ ⟨#[65, 32]⟩ ++ bA x.tr.txt ++ ⟨#[32, 46]⟩ = bA (txtK false (treesOf all tops) (k + 1))) := by
          unfold Hid; rw [str_two, txtK_succ hrs h0]; rfl
        have hsz2 := congrArg List.length (txtK_succ (o := false) hrs h0)
        rw [List.length_append, List.length_cons, ruleTx_len] at hsz2
        have hl1 : (bA (txtK false (treesOf all tops) k)).size ≤ 1000000000000 := by rw [bA_size]; omega
        have hl2 : (bA x.tr.txt).size ≤ 1000000000000 := by rw [bA_size]; have e : (x.tr.sp false).length = x.tr.txt.length := rfl; omega
        have HS2 : x.tr.pls ≤ 1000000000000 := by have e : x.tr.cnt false = x.tr.pls := rfl; omega
        have HS3 : sumK false (treesOf all tops) k ≤ 1000000000000 := by omega
        clear hsz2 HL1 HS1 hrs
        generalize sumK false (treesOf all tops) k = SK at *
        generalize bA (txtK false (treesOf all tops) k) = ST at *
        go_upto_region 6 with fail
        go_region
        go_wp2
        go_roundw
        case rel => exact ⟨k + 1, hlt, by go_num, by rw [← HT.out], by rw [HSK.out]; go_num, HNB.out⟩
        case measure => simp [intOf]; omega
      · have d0 : decide ((0 : Int) < (k : Int)) = false := by simp; omega
        have hk0 : k = 0 := by omega
        have HT : Hid (bA (txtK false (treesOf all tops) k) ++ ⟨#[65, 32]⟩ ++ bA x.tr.txt ++ ⟨#[32, 46]⟩ = bA (txtK false (treesOf all tops) (k + 1))) := by
          unfold Hid; rw [str_one]; rw [hk0] at hrs ⊢; rw [txtK_zero, Nat.zero_add, txtK_one hrs]; rfl
        have hsz2 : (txtK false (treesOf all tops) (k + 1)).length = (x.tr.sp false).length + 4 := by rw [hk0] at hrs ⊢; rw [Nat.zero_add, txtK_one hrs, ruleTx_len]
        have hl1 : (bA (txtK false (treesOf all tops) k)).size ≤ 1000000000000 := by rw [bA_size]; exact HL.out k
        have hl2 : (bA x.tr.txt).size ≤ 1000000000000 := by rw [bA_size]; have e : (x.tr.sp false).length = x.tr.txt.length := rfl; omega
        have HS2 : x.tr.pls ≤ 1000000000000 := by have e : x.tr.cnt false = x.tr.pls := rfl; omega
        have HS3 : sumK false (treesOf all tops) k ≤ 1000000000000 := by omega
        have hk0' := hidK hk0
        clear hsz2 HL1 HS1 hrs hk0
        generalize sumK false (treesOf all tops) k = SK at *
        generalize bA (txtK false (treesOf all tops) k) = ST at *
        go_upto_region 6 with fail
        go_region
        go_wp2
        go_roundw
        case rel => exact ⟨k + 1, hlt, by go_num, by rw [← HT.out], by rw [HSK.out]; go_num, HNB.out⟩
        case measure => simp [intOf]; omega
    · have e : k = tops.length := by omega
      subst e
      go_wp2
      go_ret2
      exact ⟨by rw [HE1.out, HE2.out]; rfl, HB0.out.trans (HBB.out.mono (by omega))⟩
set_option maxRecDepth 100000 in
set_option maxHeartbeats 2000000 in
theorem kspelledT (ga gt ca ct : Nat) (all : List Nd) (tops : List Nat) (w : World) (h : RuIn w ga gt all tops) (_hm : all.length ≤ 2000000) (hn : tops.length ≤ 2000000)
    (hlen : (fileTx ((treesOf all tops).map (Tr.sp true))).length ≤ 1000000000000) (hsum : sumC true (treesOf all tops) ≤ 1000000000000) :
    Calls Try.prog 29 #[.agg #[.slice (some ⟨ga, 0, none⟩) all.length ca, .slice (some ⟨gt, 0, none⟩) tops.length ct], .bool true] w fun e w' => e = .returned (.tuple #[.string (bA (fileTx ((treesOf all tops).map (Tr.sp true)))), .int .i64 (sumC true (treesOf all tops) : Int)]) ∧ Below w.heap.size w w' := by
  have HE1 : Hid (txtK true (treesOf all tops) tops.length = fileTx ((treesOf all tops).map (Tr.sp true))) := by unfold Hid; rw [← treesOf_len all tops]; exact txtK_all _ _
  have HE2 : Hid (sumK true (treesOf all tops) tops.length = sumC true (treesOf all tops)) := by unfold Hid; rw [← treesOf_len all tops]; exact sumK_all _ _
  have HL : Hid (∀ k, (txtK true (treesOf all tops) k).length ≤ 1000000000000) := fun k => Nat.le_trans (txtK_le _ _ k) hlen
  have HS : Hid (∀ k, sumK true (treesOf all tops) k ≤ 1000000000000) := fun k => Nat.le_trans (sumK_le _ _ k) hsum
  have HH := hidK h
  have HB0 : Hid (Below w.heap.size w (w.alloc (.cells #[.slice (some ⟨ga, 0, none⟩) all.length ca, .slice (some ⟨gt, 0, none⟩) tops.length ct] 49))) := (Below.refl _ _).alloc (Nat.le_refl _) _
  have HW := hidK (h.below HB0.out)
  have HC0 : Hid ((w.alloc (.cells #[.slice (some ⟨ga, 0, none⟩) all.length ca, .slice (some ⟨gt, 0, none⟩) tops.length ct] 49)).cell? ⟨w.heap.size, 0, none⟩ = some (.slice (some ⟨ga, 0, none⟩) all.length ca)) := (World.cell?_alloc_at _ _ _ 0 rfl).trans rfl
  have HC1 : Hid ((w.alloc (.cells #[.slice (some ⟨ga, 0, none⟩) all.length ca, .slice (some ⟨gt, 0, none⟩) tops.length ct] 49)).cell? ⟨w.heap.size, 1, none⟩ = some (.slice (some ⟨gt, 0, none⟩) tops.length ct)) := (World.cell?_alloc_at _ _ _ 1 rfl).trans rfl
  have hsz : w.heap.size + 1 = (w.alloc (.cells #[.slice (some ⟨ga, 0, none⟩) all.length ca, .slice (some ⟨gt, 0, none⟩) tops.length ct] 49)).heap.size := by simp
  clear h hlen hsum
  go_enter Try.func29, Try.ntmps29
  go_upto_region 3 with fail
  generalize w.alloc (.cells #[.slice (some ⟨ga, 0, none⟩) all.length ca, .slice (some ⟨gt, 0, none⟩) tops.length ct] 49) = W at *
  go_wp2
  go_loopw [6, 7, 8] (fun s nn ii wr => ∃ k : Nat, k ≤ tops.length ∧ ii = .int .i64 (k : Int) ∧ s = .string (bA (txtK true (treesOf all tops) k)) ∧ nn = .int .i64 (sumK true (treesOf all tops) k : Int) ∧ Below W.heap.size W wr) (fun _ _ ii _ => tops.length - (intOf ii).toNat)
  case atStart => exact ⟨0, by omega, rfl, by rw [txtK_zero]; rfl, by rw [sumK_zero]; rfl, Below.refl _ _⟩
  case round =>
    obtain ⟨k, hk, rfl, rfl, rfl, hb⟩ := hrel
    have c0 := (hb.cell (p := ⟨w.heap.size, 0, none⟩) (by show w.heap.size < W.heap.size; omega)).trans HC0.out
    have c1 := (hb.cell (p := ⟨w.heap.size, 1, none⟩) (by show w.heap.size < W.heap.size; omega)).trans HC1.out
    have HR := hidK (HW.out.below hb)
    have hwr : W.heap.size ≤ wr.heap.size := hb.size
    have HBB := hidK hb
    clear hb
    by_cases hlt : k < tops.length
    · obtain ⟨t, ht⟩ : ∃ t, tops[k]? = some t := ⟨_, List.getElem?_eq_getElem hlt⟩
      have hta := HR.out.ok k t ht
      obtain ⟨x, hx⟩ : ∃ x, all[t]? = some x := ⟨_, List.getElem?_eq_getElem hta⟩
      have hrs := treesOf_get ht hx
      have tc := HR.out.tp k t ht
      have hxr := HR.out.nd t x hx
      have HBZ : Hid (Below wr.heap.size wr (wr.alloc (.cells #[.int .i64 0, .int .u8 0, .int .u8 0, .int .i64 0, .int .i64 0, .string ⟨#[]⟩, .string ⟨#[]⟩, .int .i64 0, .int .i64 0] 109))) := (Below.refl _ _).alloc (Nat.le_refl _) _
      have c0' := (HBZ.out.cell (p := ⟨w.heap.size, 0, none⟩) (by show w.heap.size < wr.heap.size; omega)).trans c0
      have c1' := (HBZ.out.cell (p := ⟨w.heap.size, 1, none⟩) (by show w.heap.size < wr.heap.size; omega)).trans c1
      have tc' := (HBZ.out.cell (p := ⟨gt, k, none⟩) HR.out.bt).trans tc
      have l1 : loadsNode wr (.pointer (some ⟨ga, t * 9, none⟩)) := ⟨ga, t * 9, x, rfl, hxr⟩
      have l2 : loadsNode (wr.alloc (.cells #[.int .i64 0, .int .u8 0, .int .u8 0, .int .i64 0, .int .i64 0, .string ⟨#[]⟩, .string ⟨#[]⟩, .int .i64 0, .int .i64 0] 109)) (.pointer (some ⟨ga, t * 9, none⟩)) := ⟨ga, t * 9, x, rfl, rangeAt_below hxr HBZ.out HR.out.ba⟩
      have l3 : loadsNode wr.drew (.pointer (some ⟨ga, t * 9, none⟩)) := ⟨ga, t * 9, x, rfl, hxr⟩
      have l4 : loadsNode (wr.alloc (.cells #[.int .i64 0, .int .u8 0, .int .u8 0, .int .i64 0, .int .i64 0, .string ⟨#[]⟩, .string ⟨#[]⟩, .int .i64 0, .int .i64 0] 109)).drew (.pointer (some ⟨ga, t * 9, none⟩)) := ⟨ga, t * 9, x, rfl, rangeAt_below hxr (bdN HBZ.out 1) HR.out.ba⟩
      have ec : x.cells.toArray = #[.int .i64 (x.k : Int), .int .u8 (x.a : Int), .int .u8 (x.b : Int), .int .i64 (x.l : Int), .int .i64 (x.r : Int), .string (bA x.tr.txt), .string (bA x.tr.oth), .int .i64 (x.tr.pls : Int), .int .i64 (x.tr.mor : Int)] := rfl
      have e1 := nodeOf_eq hxr
      have e2 := nodeOf_eq (rangeAt_below hxr HBZ.out HR.out.ba)
      have e3 := nodeOf_eq (X := wr.drew) hxr
      have e4 := nodeOf_eq (X := (wr.alloc (.cells #[.int .i64 0, .int .u8 0, .int .u8 0, .int .i64 0, .int .i64 0, .string ⟨#[]⟩, .string ⟨#[]⟩, .int .i64 0, .int .i64 0] 109)).drew) (rangeAt_below hxr (bdN HBZ.out 1) HR.out.ba)
      rw [ec] at e1 e2 e3 e4
      have htI : (0 : Int) ≤ (t : Int) ∧ (t : Int) < (all.length : Int) := by omega
      have hkI : (0 : Int) ≤ (k : Int) ∧ (k : Int) < (tops.length : Int) := by omega
      have HL1 := HL.out (k + 1)
      have HS1 := HS.out (k + 1)
      rw [sumK_succ hrs] at HS1
      have HX := hidK hxr
      have HNB : Hid (Below W.heap.size W (wr.alloc (.cells #[.int .i64 (x.k : Int), .int .u8 (x.a : Int), .int .u8 (x.b : Int), .int .i64 (x.l : Int), .int .i64 (x.r : Int), .string (bA x.tr.txt), .string (bA x.tr.oth), .int .i64 (x.tr.pls : Int), .int .i64 (x.tr.mor : Int)] 109)).drew) := bdN (HBB.out.alloc hwr _) 1
      have HSK : Hid (sumK true (treesOf all tops) (k + 1) = sumK true (treesOf all tops) k + x.tr.mor) := sumK_succ hrs
      clear hxr
      by_cases h0 : 0 < k
      · have d0 : decide ((0 : Int) < (k : Int)) = true := by simp; omega
        have HT : Hid (bA (txtK true (treesOf all tops) k) ++ ⟨#[10]⟩ ++ ⟨#[65, 32]⟩ ++ bA x.tr.oth ++ ⟨#[32, 46]⟩ = bA (txtK true (treesOf all tops) (k + 1))) := by
          unfold Hid; rw [str_two, txtK_succ hrs h0]; rfl
        have hsz2 := congrArg List.length (txtK_succ (o := true) hrs h0)
        rw [List.length_append, List.length_cons, ruleTx_len] at hsz2
        have hl1 : (bA (txtK true (treesOf all tops) k)).size ≤ 1000000000000 := by rw [bA_size]; omega
        have hl2 : (bA x.tr.oth).size ≤ 1000000000000 := by rw [bA_size]; have e : (x.tr.sp true).length = x.tr.oth.length := rfl; omega
        have HS2 : x.tr.mor ≤ 1000000000000 := by have e : x.tr.cnt true = x.tr.mor := rfl; omega
        have HS3 : sumK true (treesOf all tops) k ≤ 1000000000000 := by omega
        clear hsz2 HL1 HS1 hrs
        generalize sumK true (treesOf all tops) k = SK at *
        generalize bA (txtK true (treesOf all tops) k) = ST at *
        go_upto_region 6 with fail
        go_region
        go_wp2
        go_roundw
        case rel => exact ⟨k + 1, hlt, by go_num, by rw [← HT.out], by rw [HSK.out]; go_num, HNB.out⟩
        case measure => simp [intOf]; omega
      · have d0 : decide ((0 : Int) < (k : Int)) = false := by simp; omega
        have hk0 : k = 0 := by omega
        have HT : Hid (bA (txtK true (treesOf all tops) k) ++ ⟨#[65, 32]⟩ ++ bA x.tr.oth ++ ⟨#[32, 46]⟩ = bA (txtK true (treesOf all tops) (k + 1))) := by
          unfold Hid; rw [str_one]; rw [hk0] at hrs ⊢; rw [txtK_zero, Nat.zero_add, txtK_one hrs]; rfl
        have hsz2 : (txtK true (treesOf all tops) (k + 1)).length = (x.tr.sp true).length + 4 := by rw [hk0] at hrs ⊢; rw [Nat.zero_add, txtK_one hrs, ruleTx_len]
        have hl1 : (bA (txtK true (treesOf all tops) k)).size ≤ 1000000000000 := by rw [bA_size]; exact HL.out k
        have hl2 : (bA x.tr.oth).size ≤ 1000000000000 := by rw [bA_size]; have e : (x.tr.sp true).length = x.tr.oth.length := rfl; omega
        have HS2 : x.tr.mor ≤ 1000000000000 := by have e : x.tr.cnt true = x.tr.mor := rfl; omega
        have HS3 : sumK true (treesOf all tops) k ≤ 1000000000000 := by omega
        have hk0' := hidK hk0
        clear hsz2 HL1 HS1 hrs hk0
        generalize sumK true (treesOf all tops) k = SK at *
        generalize bA (txtK true (treesOf all tops) k) = ST at *
        go_upto_region 6 with fail
        go_region
        go_wp2
        go_roundw
        case rel => exact ⟨k + 1, hlt, by go_num, by rw [← HT.out], by rw [HSK.out]; go_num, HNB.out⟩
        case measure => simp [intOf]; omega
    · have e : k = tops.length := by omega
      subst e
      go_wp2
      go_ret2
      exact ⟨by rw [HE1.out, HE2.out]; rfl, HB0.out.trans (HBB.out.mono (by omega))⟩
end Go.Proofs.Ytgjgjgihceijnaa

namespace Go.Stn
abbrev PB := List Nd × List Nat
def ndA (s : PB) (i : Nat) : Nd := s.1.getD (s.2.getD i 0) nd0
def need0 (k : Nat) : Nat := if 5 ≤ k then 1 else if 3 ≤ k then 2 else 0
def longB (s : PB) (o : OpK) : Bool := decide (0 < need0 (pickN o.kind 8) ∧ need0 (pickN o.kind 8) ≤ s.2.length ∧ 200 < (ndA s (s.2.length - 1)).tr.oth.length)
def needP (s : PB) (o : OpK) : Nat := if s.2.length < need0 (pickN o.kind 8) ∨ longB s o = true then 0 else need0 (pickN o.kind 8)
def newP (s : PB) (o : OpK) : Nd := if 0 < needP s o then madeP (pickN o.kind 8) (s.2.getD (s.2.length - 2) 0) (s.2.getD (s.2.length - 1) 0) (ndA s (s.2.length - 2)).tr (ndA s (s.2.length - 1)).tr else leafP o
def stepP (s : PB) (o : OpK) : PB := (s.1 ++ [newP s o], s.2.take (s.2.length - needP s o) ++ [s.1.length])
def buildK (ops : List OpK) (k : Nat) : PB := (ops.take k).foldl stepP ([], [])
def builtP (ops : List OpK) : PB := if (buildK ops ops.length).2.length = 0 then ((buildK ops ops.length).1 ++ [leafP ⟨0, 0, 0⟩], [0]) else buildK ops ops.length
theorem buildK_zero (ops : List OpK) : buildK ops 0 = ([], []) := by simp [buildK]
theorem buildK_succ {ops : List OpK} {k : Nat} {o : OpK} (h : ops[k]? = some o) : buildK ops (k + 1) = stepP (buildK ops k) o := by
  unfold buildK; rw [take_snoc h, List.foldl_append]; rfl
/-- How long the pile is, by the other spelling. -/
def pileL : List Tr → Nat
  | [] => 0
  | r :: l => r.oth.length + pileL l
theorem pileL_app : ∀ (l m : List Tr), pileL (l ++ m) = pileL l + pileL m
  | [], m => by simp [pileL]
  | r :: l, m => by simp only [List.cons_append, pileL, pileL_app l m]; omega
theorem oth_pos : ∀ r : Tr, 0 < r.oth.length
  | .let1 _ => by simp [Tr.oth]
  | .two _ _ => by simp [Tr.oth]
  | .any => by simp [Tr.oth]
  | .row _ _ => by simp [Tr.oth]
  | .or2 _ _ => by simp [Tr.oth]
  | .many _ => by simp [Tr.oth]
  | .once _ => by simp [Tr.oth]
  | .may _ => by simp [Tr.oth]
theorem txt_le : ∀ r : Tr, r.txt.length ≤ r.oth.length ∧ r.pls ≤ r.txt.length ∧ r.mor ≤ r.oth.length
  | .let1 _ => by simp [Tr.oth, Tr.txt, Tr.pls, Tr.mor]
  | .two _ _ => by simp [Tr.oth, Tr.txt, Tr.pls, Tr.mor]
  | .any => by simp [Tr.oth, Tr.txt, Tr.pls, Tr.mor]
  | .row a b => by have := txt_le a; have := txt_le b; simp only [Tr.oth, Tr.txt, Tr.pls, Tr.mor, List.length_cons, List.length_append, List.length_nil]; omega
  | .or2 a b => by have := txt_le a; have := txt_le b; simp only [Tr.oth, Tr.txt, Tr.pls, Tr.mor, List.length_cons, List.length_append, List.length_nil]; omega
  | .many a => by have := txt_le a; simp only [Tr.oth, Tr.txt, Tr.pls, Tr.mor, List.length_cons, List.length_append, List.length_nil]; omega
  | .once a => by have := txt_le a; simp only [Tr.oth, Tr.txt, Tr.pls, Tr.mor, List.length_cons, List.length_append, List.length_nil]; omega
  | .may a => by have := txt_le a; simp only [Tr.oth, Tr.txt, Tr.pls, Tr.mor, List.length_cons, List.length_append, List.length_nil]; omega
/-- What the pile keeps to. -/
structure PBok (s : PB) (i : Nat) : Prop where
  al : s.1.length = i
  tl : s.2.length ≤ i
  ok : ∀ (j t : Nat), s.2[j]? = some t → t < s.1.length
  g : ∀ x ∈ s.1, x.tr.good
  pl : pileL (treesOf s.1 s.2) ≤ 500 * i
theorem pile_mem : ∀ (l : List Tr) (r : Tr), r ∈ l → r.oth.length ≤ pileL l
  | [], _, h => absurd h List.not_mem_nil
  | x :: l, r, h => by
    rcases List.mem_cons.1 h with e | e
    · rw [e, pileL]; omega
    · have := pile_mem l r e; rw [pileL]; omega
theorem PBok.top {s : PB} {i : Nat} (h : PBok s i) {j : Nat} (hj : j < s.2.length) : ∃ x, s.2[j]? = some (s.2.getD j 0) ∧ s.1[s.2.getD j 0]? = some x ∧ ndA s j = x ∧ x.tr.oth.length ≤ 500 * i := by
  have e1 : s.2[j]? = some (s.2.getD j 0) := by rw [List.getD_eq_getElem?_getD, List.getElem?_eq_getElem hj]; rfl
  have h2 := h.ok j _ e1
  refine ⟨s.1[s.2.getD j 0], e1, List.getElem?_eq_getElem h2, ?_, ?_⟩
  · unfold ndA; rw [List.getD_eq_getElem?_getD (l := s.1), List.getElem?_eq_getElem h2]; rfl
  · have := List.mem_of_getElem? (treesOf_get e1 (List.getElem?_eq_getElem h2))
    exact Nat.le_trans (pile_mem _ _ this) h.pl
theorem treesOf_more {all : List Nd} {tops : List Nat} (h : ∀ t ∈ tops, t < all.length) (x : Nd) : treesOf (all ++ [x]) tops = treesOf all tops := by
  unfold treesOf
  exact List.map_congr_left (fun t ht => by rw [List.getD_eq_getElem?_getD, List.getElem?_append_left (h t ht), ← List.getD_eq_getElem?_getD])
theorem treesOf_app (all : List Nd) (a b : List Nat) : treesOf all (a ++ b) = treesOf all a ++ treesOf all b := by unfold treesOf; simp
theorem need0_le (k : Nat) : need0 k ≤ 2 := by
  unfold need0
  split
  · omega
  · split <;> omega
theorem needP_le (s : PB) (o : OpK) : needP s o ≤ s.2.length ∧ needP s o ≤ 2 := by
  have := need0_le (pickN o.kind 8)
  unfold needP
  split
  · exact ⟨Nat.zero_le _, by omega⟩
  · rename_i h
    have : ¬ s.2.length < need0 (pickN o.kind 8) := fun hh => h (.inl hh)
    omega
theorem leafP_len (o : OpK) : (leafP o).tr.oth.length ≤ 8 := by
  unfold leafP
  split
  · simp [Tr.oth]
  · split <;> simp [Tr.oth]
theorem take_last {α : Type} {l : List α} {j : Nat} {a : α} (hj : l[j]? = some a) (hl : j + 1 = l.length) : l = l.take j ++ [a] := by
  have := take_snoc hj
  rw [hl, List.take_length] at this
  exact this
theorem PBok.step {s : PB} {i : Nat} (h : PBok s i) (o : OpK) : PBok (stepP s o) (i + 1) := by
  have hmem : ∀ t ∈ s.2, t < s.1.length := fun t ht => by obtain ⟨j, hj, e⟩ := List.getElem_of_mem ht; exact h.ok j t (by rw [List.getElem?_eq_getElem hj, e])
  obtain ⟨n1, n2⟩ := needP_le s o
  have hnew : (newP s o).tr.good ∧ pileL (treesOf s.1 (s.2.take (s.2.length - needP s o))) + (newP s o).tr.oth.length ≤ 500 * (i + 1) := by
    unfold newP
    split
    · rename_i h0
      have hn0 : needP s o = need0 (pickN o.kind 8) ∧ ¬ (s.2.length < need0 (pickN o.kind 8) ∨ longB s o = true) := by
        unfold needP at h0 ⊢
        split at h0
        · omega
        · rename_i hh; rw [if_neg hh]; exact ⟨rfl, hh⟩
      obtain ⟨e0, hno⟩ := hn0
      have hlen : 1 ≤ s.2.length := by omega
      obtain ⟨x, x1, x2, x3, x4⟩ := h.top (j := s.2.length - 1) (by omega)
      have hx200 : x.tr.oth.length ≤ 200 := by
        apply Classical.byContradiction
        intro hc
        apply hno
        right
        unfold longB
        rw [decide_eq_true_eq, x3]
        exact ⟨by omega, by omega, by omega⟩
      have hxg := h.g x (List.mem_of_getElem? x2)
      have hk8 := pickN_lt o.kind (n := 8) (by omega)
      have e1 := take_last x1 (by omega)
      have hp := h.pl
      rw [x3]
      generalize pickN o.kind 8 = k at *
      by_cases h5 : 5 ≤ k
      · have en : needP s o = 1 := by rw [e0]; unfold need0; rw [if_pos h5]
        rw [en]
        rw [e1, treesOf_app, pileL_app] at hp
        have e2 : pileL (treesOf s.1 [s.2.getD (s.2.length - 1) 0]) = x.tr.oth.length := by
          show pileL [(s.1.getD _ nd0).tr] = _
          rw [List.getD_eq_getElem?_getD, x2]; rfl
        rw [e2] at hp
        unfold madeP
        have hk : k = 5 ∨ k = 6 ∨ k = 7 := by omega
        rcases hk with rfl | rfl | rfl
        · refine ⟨hxg, ?_⟩
          show _ + (Tr.many x.tr).oth.length ≤ _
          simp only [Tr.oth, List.length_cons, List.length_append, List.length_nil]; omega
        · refine ⟨hxg, ?_⟩
          show _ + (Tr.once x.tr).oth.length ≤ _
          simp only [Tr.oth, List.length_cons, List.length_append, List.length_nil]; omega
        · refine ⟨hxg, ?_⟩
          show _ + (Tr.may x.tr).oth.length ≤ _
          simp only [Tr.oth, List.length_cons, List.length_append, List.length_nil]; omega
      · have h3 : 3 ≤ k := by
          apply Classical.byContradiction
          intro hc
          have : need0 k = 0 := by unfold need0; rw [if_neg h5, if_neg hc]
          omega
        have en : needP s o = 2 := by rw [e0]; unfold need0; rw [if_neg h5, if_pos h3]
        obtain ⟨y, y1, y2, y3, y4⟩ := h.top (j := s.2.length - 2) (by omega)
        have hyg := h.g y (List.mem_of_getElem? y2)
        rw [en, y3]
        have e3 : s.2.take (s.2.length - 1) = s.2.take (s.2.length - 2) ++ [s.2.getD (s.2.length - 2) 0] := by
          have := take_snoc y1
          rw [show s.2.length - 2 + 1 = s.2.length - 1 by omega] at this
          exact this
        rw [e1, e3, treesOf_app, treesOf_app, pileL_app, pileL_app] at hp
        have e2 : pileL (treesOf s.1 [s.2.getD (s.2.length - 1) 0]) = x.tr.oth.length := by
          show pileL [(s.1.getD _ nd0).tr] = _
          rw [List.getD_eq_getElem?_getD, x2]; rfl
        have e4 : pileL (treesOf s.1 [s.2.getD (s.2.length - 2) 0]) = y.tr.oth.length := by
          show pileL [(s.1.getD _ nd0).tr] = _
          rw [List.getD_eq_getElem?_getD, y2]; rfl
        rw [e2, e4] at hp
        unfold madeP
        have hk : k = 3 ∨ k = 4 := by omega
        rcases hk with rfl | rfl
        · refine ⟨⟨hyg, hxg⟩, ?_⟩
          show _ + (Tr.row y.tr x.tr).oth.length ≤ _
          simp only [Tr.oth, List.length_cons, List.length_append, List.length_nil]; omega
        · refine ⟨⟨hyg, hxg⟩, ?_⟩
          show _ + (Tr.or2 y.tr x.tr).oth.length ≤ _
          simp only [Tr.oth, List.length_cons, List.length_append, List.length_nil]; omega
    · rename_i h0
      have en : needP s o = 0 := by omega
      rw [en, Nat.sub_zero, List.take_length]
      have := leafP_len o
      have := h.pl
      exact ⟨leafP_good o, by omega⟩
  refine ⟨by show (s.1 ++ [_]).length = _; simp [h.al], ?_, fun j t ht => ?_, fun x hx => ?_, ?_⟩
  · show (s.2.take _ ++ [_]).length ≤ _
    have := h.tl
    simp; omega
  · show t < (s.1 ++ [_]).length
    have ht : (s.2.take (s.2.length - needP s o) ++ [s.1.length])[j]? = some t := ht
    have hm := List.mem_of_getElem? ht
    rw [List.length_append]
    rcases List.mem_append.1 hm with e | e
    · have := hmem t (List.mem_of_mem_take e); simp; omega
    · simp at e; simp; omega
  · have hx : x ∈ s.1 ++ [newP s o] := hx
    rcases List.mem_append.1 hx with e | e
    · exact h.g x e
    · simp at e; rw [e]; exact hnew.1
  · show pileL (treesOf (s.1 ++ [newP s o]) (s.2.take (s.2.length - needP s o) ++ [s.1.length])) ≤ _
    rw [treesOf_app, pileL_app, treesOf_more (fun t ht => hmem t (List.mem_of_mem_take ht))]
    have e : pileL (treesOf (s.1 ++ [newP s o]) [s.1.length]) = (newP s o).tr.oth.length := by
      show pileL [((s.1 ++ [newP s o]).getD s.1.length nd0).tr] = _
      rw [List.getD_eq_getElem?_getD, List.getElem?_concat_length]; rfl
    rw [e]
    exact hnew.2
theorem buildK_ok (ops : List OpK) : ∀ k, k ≤ ops.length → PBok (buildK ops k) k := by
  intro k
  induction k with
  | zero => intro _; rw [buildK_zero]; exact ⟨rfl, Nat.le_refl _, fun j t h => by simp at h, fun x hx => absurd hx List.not_mem_nil, Nat.le_refl _⟩
  | succ k ih =>
    intro hk
    rw [buildK_succ (List.getElem?_eq_getElem (show k < ops.length by omega))]
    exact (ih (by omega)).step _
end Go.Stn

