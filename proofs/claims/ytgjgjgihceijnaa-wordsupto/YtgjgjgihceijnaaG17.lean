/- Texts put together: PlConds, PlBegin, PlGroup. -/
import Derived.Test.YtgjgjgihceijnaaG16
import Derived.Test.YtgjgjgihceijnaaG13
namespace Go.Stn
open Go.RowKit
theorem addr_add (g i : Nat) : (⟨g, 0, none⟩ : Addr).add i = ⟨g, i, none⟩ := by
  by_cases h : i = 0
  · subst h; simp [Addr.add]
  · simp [Addr.add, h]
/-- Rules that can be read. -/
def RulesIn (w : World) (g : Nat) (rules : List ((Nat → Bool) × Int × Int)) : Prop := ∀ k x, rules[k]? = some x → w.rangeAt g (k * 6) (ruleC x)
theorem RulesIn.below {w w' : World} {g B : Nat} {rules : List ((Nat → Bool) × Int × Int)} (h : RulesIn w g rules) (hB : Below B w w') (hg : g < B) : RulesIn w' g rules := fun k x hk => rangeAt_block (h k x hk) (hB.block g hg)

/-- The conditions up to letter k that a rule names. -/
def cntC (f : Nat → Bool) : Nat → Nat → Nat
  | 0, c => c
  | k + 1, c => if f k = true ∧ cntC f k c < k + 1 then k + 1 else cntC f k c
def cntR (x : (Nat → Bool) × Int × Int) (c : Nat) : Nat := if ((cntC x.1 4 c : Nat) : Int) < x.2.1 - 1 then (x.2.1 - 1).toNat else cntC x.1 4 c
def fileConds : List ((Nat → Bool) × Int × Int) → Nat → Nat
  | [], c => c
  | x :: r, c => fileConds r (cntR x c)
theorem fileConds_drop {rules : List ((Nat → Bool) × Int × Int)} {k : Nat} {x : (Nat → Bool) × Int × Int} (h : rules[k]? = some x) (c : Nat) : fileConds (rules.drop k) c = fileConds (rules.drop (k + 1)) (cntR x c) := by
  have e : rules.drop k = x :: rules.drop (k + 1) := by
    obtain ⟨hk, he⟩ := List.getElem?_eq_some_iff.1 h
    rw [List.drop_eq_getElem_cons hk, he]
  rw [e, fileConds]
end Go.Stn
namespace Go.Proofs.Ytgjgjgihceijnaa
open Go.RowKit Go.Stn

theorem Try.ruleSize : (Try.prog.info? 151).map (·.size) = some 6 := by kernel_rfl
theorem Try.condsSize : (Try.prog.info? 149).map (·.size) = some 4 := by kernel_rfl
theorem Try.runIndex40 (a b c d : Bool) (w : World) : (Instr.index 149 (.agg #[.bool a, .bool b, .bool c, .bool d]) (.int .i64 0)).run Try.prog w = .ok (.bool a) w := by kernel_rfl
theorem Try.runIndex41 (a b c d : Bool) (w : World) : (Instr.index 149 (.agg #[.bool a, .bool b, .bool c, .bool d]) (.int .i64 1)).run Try.prog w = .ok (.bool b) w := by kernel_rfl
theorem Try.runIndex42 (a b c d : Bool) (w : World) : (Instr.index 149 (.agg #[.bool a, .bool b, .bool c, .bool d]) (.int .i64 2)).run Try.prog w = .ok (.bool c) w := by kernel_rfl
theorem Try.runIndex43 (a b c d : Bool) (w : World) : (Instr.index 149 (.agg #[.bool a, .bool b, .bool c, .bool d]) (.int .i64 3)).run Try.prog w = .ok (.bool d) w := by kernel_rfl
theorem Try.runIndex4 (f : Nat → Bool) (j : Nat) (hj : j < 4) (w : World) : (Instr.index 149 (.agg #[.bool (f 0), .bool (f 1), .bool (f 2), .bool (f 3)]) (.int .i64 (j : Int))).run Try.prog w = .ok (.bool (f j)) w := by
  have : j = 0 ∨ j = 1 ∨ j = 2 ∨ j = 3 := by omega
  rcases this with e | e | e | e
  · rw [e]; exact Try.runIndex40 (f 0) (f 1) (f 2) (f 3) w
  · rw [e]; exact Try.runIndex41 (f 0) (f 1) (f 2) (f 3) w
  · rw [e]; exact Try.runIndex42 (f 0) (f 1) (f 2) (f 3) w
  · rw [e]; exact Try.runIndex43 (f 0) (f 1) (f 2) (f 3) w
theorem Try.wpIndex4 {ops : Array Oper} {rest : List Oper} {o : Oper} {a : Act} {w : World} {Q : Exit → Act → World → Prop} (hg : o.guard = none) (x y : Operand) (ho : o.op = .index 149 x y) (f : Nat → Bool) (j : Nat) (hj : j < 4)
    (hx : a.eval x = .agg #[.bool (f 0), .bool (f 1), .bool (f 2), .bool (f 3)]) (hy : a.eval y = .int .i64 (j : Int)) (h : wpList Try.prog ops Q rest (a.put o.dst (.bool (f j))) w) : wpList Try.prog ops Q (o :: rest) a w := by
  refine wpList_plain hg fun K hK => ?_
  have hr := Try.runIndex4 f j hj w
  unfold Oper.wp execOp
  simp only [ho, hx, hy, Sem.run_bind, hr, Result.andThen_ok]
  exact hK _ _ h

/-- A rule in a block of its own. -/
structure RuleAt (w : World) (b : Nat) (x : (Nat → Bool) × Int × Int) : Prop where
  rg : w.rangeAt b 0 (ruleC x)
  cs : w.rangeAt b 0 [.bool (x.1 0), .bool (x.1 1), .bool (x.1 2), .bool (x.1 3)]
  c4 : w.cell? ⟨b, 4, none⟩ = some (.int .i64 x.2.1)
  c5 : w.cell? ⟨b, 5, none⟩ = some (.int .i64 x.2.2)
theorem RuleAt.mk' {w : World} {b : Nat} {x : (Nat → Bool) × Int × Int} (h : w.rangeAt b 0 (ruleC x)) : RuleAt w b x := by
  refine ⟨h, fun j v hv => ?_, ?_, ?_⟩
  · refine h j v ?_
    have hj : j < 4 := (List.getElem?_eq_some_iff.1 hv).1
    have : j = 0 ∨ j = 1 ∨ j = 2 ∨ j = 3 := by omega
    rcases this with rfl | rfl | rfl | rfl <;> exact hv
  · exact h 4 _ rfl
  · exact h 5 _ rfl

set_option maxRecDepth 100000 in
set_option maxHeartbeats 1000000 in
theorem pconds_any (rules : List ((Nat → Bool) × Int × Int)) (rg rcap : Nat) (vn vp : Value) (w : World) (hn : rules.length ≤ 1000) (hbe : ∀ x ∈ rules, 0 ≤ x.2.1 ∧ x.2.1 ≤ 1000) (hr : RulesIn w rg rules) (hg : rg < w.heap.size) :
    Calls Try.prog 62 #[.agg #[.slice (some ⟨rg, 0, none⟩) rules.length rcap, vn, vp]] w fun e w' => e = .returned (.int .i64 ((fileConds rules 1 : Nat) : Int)) ∧ Below w.heap.size w w' := by
  have HR := hidZ hr
  have HBE := hidZ hbe
  clear hr hbe
  obtain ⟨n, hnn⟩ : ∃ n, rules.length = n := ⟨_, rfl⟩
  rw [hnn] at hn ⊢
  replace hnn := hidZ hnn
  have c0 : (w.alloc (.cells #[.slice (some ⟨rg, 0, none⟩) n rcap, vn, vp] 84)).cell? ⟨w.heap.size, 0, none⟩ = some (.slice (some ⟨rg, 0, none⟩) n rcap) := (World.cell?_alloc_at _ _ w.heap.size 0 rfl).trans rfl
  have HB0 : Hid (Below w.heap.size w (w.alloc (.cells #[.slice (some ⟨rg, 0, none⟩) n rcap, vn, vp] 84))) := (Below.refl _ _).alloc (Nat.le_refl _) _
  go_enter Try.func62, Try.ntmps62
  go_upto_region 2 with fail
  generalize w.alloc (.cells #[.slice (some ⟨rg, 0, none⟩) n rcap, vn, vp] 84) = W at *
  go_wp2_with fail
  clear c0
  obtain ⟨FC, EFC⟩ : ∃ c, fileConds rules 1 = c := ⟨_, rfl⟩
  replace EFC := hidZ EFC
  go_loopg [3, 11] n (fun gk cv iv wr => ∃ (k c : Nat), cv = .int .i64 (c : Int) ∧ iv = .int .i64 (k : Int) ∧ k + gk = n ∧ c ≤ 1000 ∧ FC = fileConds (rules.drop k) c ∧ Below w.heap.size w wr)
  case atStart => exact ⟨0, 1, rfl, rfl, by omega, by omega, EFC.out.symm, HB0.out⟩
  case round =>
    obtain ⟨k, c, rfl, rfl, hkn, hc, heq, hb⟩ := hrel
    have HQ := hidZ heq
    have HB := hidZ hb
    have hzw := hb.size
    clear heq hb HB0
    by_cases hlt : k < n
    · obtain ⟨d, rfl⟩ : ∃ d, gk = d + 1 := ⟨gk - 1, by omega⟩
      have hkr : k < rules.length := by rw [hnn.out]; exact hlt
      have hx : rules[k]? = some (rules[k]) := List.getElem?_eq_getElem hkr
      have HRG := hidZ ((HR.out.below HB.out hg) k _ hx)
      have HQ2 := hidZ (HQ.out.trans (fileConds_drop hx c))
      have hxb := HBE.out _ (List.getElem_mem hkr)
      generalize rules[k] = x at *
      obtain ⟨f, be, ro⟩ := x
      simp only at hxb
      have HNEW : Hid (RuleAt ((wr.alloc (.cells #[.bool false, .bool false, .bool false, .bool false, .int .i64 0, .int .i64 0] 151)).setCells wr.heap.size 0 (ruleC (f, be, ro))) wr.heap.size (f, be, ro)) :=
        RuleAt.mk' (World.rangeAt_setCells_same _ _ _ _ (there_newL wr [.bool false, .bool false, .bool false, .bool false, .int .i64 0, .int .i64 0] 151 6 rfl))
      have HBN : Hid (Below w.heap.size w ((wr.alloc (.cells #[.bool false, .bool false, .bool false, .bool false, .int .i64 0, .int .i64 0] 151)).setCells wr.heap.size 0 (ruleC (f, be, ro)))) := below_setCells _ 0 _ wr.heap.size (HB.out.alloc hzw _) hzw
      have HTN := hidZ (there_newL wr [.bool false, .bool false, .bool false, .bool false, .int .i64 0, .int .i64 0] 151 6 rfl)
      have hd1 : decide ((k : Int) < (n : Int)) = true := by simp; omega
      have hkI : (0 : Int) ≤ (k : Int) ∧ (k : Int) < (n : Int) := by omega
      clear hx hkr
      go_upto_region 5 with (first
        | (refine wpList_load_mid rfl 151 (.tmp 13) rfl rg (k * 6) rfl (ruleC (f, be, ro)) _ HRG.out Try.underlying151 rfl Try.ruleSize ?_)
        | (refine wpList_store_mid rfl 151 (.tmp 5) (.tmp 14) rfl wr.heap.size 0 (ruleC (f, be, ro)).toArray rfl rfl ?_ ?_ ?_ ?_; exact HTN.out; exact Try.ruleSize; (simp [ruleC, Value.oneCell'])))
      generalize (wr.alloc (.cells #[.bool false, .bool false, .bool false, .bool false, .int .i64 0, .int .i64 0] 151)).setCells wr.heap.size 0 (ruleC (f, be, ro)) = w5 at *
      have c4 := HNEW.out.c4
      simp only at c4
      have HCS : Hid (w5.rangeAt wr.heap.size 0 [.bool (f 0), .bool (f 1), .bool (f 2), .bool (f 3)]) := HNEW.out.cs
      have HCR : Hid (cntR (f, be, ro) c = if ((cntC f 4 c : Nat) : Int) < be - 1 then (be - 1).toNat else cntC f 4 c) := rfl
      clear HNEW HTN HRG HB
      go_wp2_with (first | (refine wpList_load_mid rfl 149 (.tmp 15) rfl wr.heap.size 0 rfl [.bool (f 0), .bool (f 1), .bool (f 2), .bool (f 3)] _ HCS.out Try.underlying149 rfl Try.condsSize ?_) | fail)
      go_loopg [3, 17] 4 (fun gj cv iv wj => ∃ (j cc : Nat), cv = .int .i64 (cc : Int) ∧ iv = .int .i64 (j : Int) ∧ j + gj = 4 ∧ cc = cntC f j c ∧ cc ≤ 1000 ∧ wj = w5)
      case atStart => exact ⟨0, c, rfl, rfl, rfl, rfl, hc, rfl⟩
      case round =>
        obtain ⟨j, cc, rfl, rfl, hj4, hcc, hcb, rfl⟩ := hrel
        have HCC := hidZ hcc
        clear hcc
        by_cases hj : j < 4
        · obtain ⟨g, rfl⟩ : ∃ g, gk = g + 1 := ⟨gk - 1, by omega⟩
          have HST : Hid (cntC f (j + 1) c = if f j = true ∧ cc < j + 1 then j + 1 else cc) := by unfold Hid; rw [cntC, ← HCC.out]
          have hd4 : decide ((j : Int) < 4) = true := by simp; omega
          by_cases hq : f j = true ∧ cc < j + 1
          · have HS2 : Hid (cntC f (j + 1) c = j + 1) := by unfold Hid; rw [HST.out, if_pos hq]
            have hfj := hq.1
            have hd2 : decide ((cc : Int) < (j : Int) + 1) = true := by simp; omega
            clear HST HCC hq
            go_wp2_with (first | (refine Try.wpIndex4 rfl (.tmp 16) (.tmp 17) rfl f j hj rfl rfl ?_; rw [hfj]) | fail)
            go_roundg g
            case measure => omega
            case rel => exact ⟨j + 1, j + 1, by go_num, by go_num, by omega, HS2.out.symm, by omega, rfl⟩
          · have HS2 : Hid (cntC f (j + 1) c = cc) := by unfold Hid; rw [HST.out, if_neg hq]
            cases hfj : f j with
            | true =>
              have hd2 : decide ((cc : Int) < (j : Int) + 1) = false := by rw [decide_eq_false_iff_not]; exact fun h => hq ⟨hfj, by omega⟩
              clear HST HCC hq
              go_wp2_with (first | (refine Try.wpIndex4 rfl (.tmp 16) (.tmp 17) rfl f j hj rfl rfl ?_; rw [hfj]) | fail)
              go_roundg g
              case measure => omega
              case rel => exact ⟨j + 1, cc, rfl, by go_num, by omega, HS2.out.symm, hcb, rfl⟩
            | false =>
              clear HST HCC hq
              go_wp2_with (first | (refine Try.wpIndex4 rfl (.tmp 16) (.tmp 17) rfl f j hj rfl rfl ?_; rw [hfj]) | fail)
              go_roundg g
              case measure => omega
              case rel => exact ⟨j + 1, cc, rfl, by go_num, by omega, HS2.out.symm, hcb, rfl⟩
        · have ej : j = 4 := by omega
          have HC4 : Hid (cntC f 4 c = cc) := by unfold Hid; rw [HCC.out, ej]
          have hd4 : decide ((j : Int) < 4) = false := by simp; omega
          clear ej HCC
          by_cases hbe : (cc : Int) < be - 1
          · have HS2 : Hid (cntR (f, be, ro) c = (be - 1).toNat) := by unfold Hid; rw [HCR.out, HC4.out, if_pos hbe]
            have hd5 : decide ((cc : Int) < be - 1) = true := decide_eq_true hbe
            go_wp2
            go_roundg d
            case measure => omega
            case rel => exact ⟨k + 1, (be - 1).toNat, by simp; omega, by go_num, by omega, by omega, by rw [HQ2.out, HS2.out], HBN.out⟩
          · have HS2 : Hid (cntR (f, be, ro) c = cc) := by unfold Hid; rw [HCR.out, HC4.out, if_neg hbe]
            have hd5 : decide ((cc : Int) < be - 1) = false := decide_eq_false hbe
            go_wp2
            go_roundg d
            case measure => omega
            case rel => exact ⟨k + 1, cc, rfl, by go_num, by omega, hcb, by rw [HQ2.out, HS2.out], HBN.out⟩
    · have e : gk = 0 := by omega
      subst e
      have HE : Hid (FC = c) := by unfold Hid; rw [HQ.out, show k = rules.length by rw [hnn.out]; omega, List.drop_length]; rfl
      have hd1 : decide ((k : Int) < (n : Int)) = false := by simp; omega
      go_wp2
      go_ret
      exact ⟨by rw [EFC.out, HE.out]; rfl, HB.out⟩
end Go.Proofs.Ytgjgjgihceijnaa

namespace Go.Stn
open Go.RowKit
def begC (f : Nat → Bool) (fr : Int) (cond : Nat) : Nat → Int → Int
  | 0, b => b
  | k + 1, b => if f k = true ∧ k = cond then orI (begC f fr cond k b) fr else begC f fr cond k b
/-- Where the texts of a condition may begin; the rules from number r on. -/
def beginL (fi : Nat → Int) (cond : Nat) : List ((Nat → Bool) × Int × Int) → Nat → Int → Int
  | [], _, b => b
  | x :: l, r, b => beginL fi cond l (r + 1) (begC x.1 (fi r) cond 4 b)
theorem beginL_drop {fi : Nat → Int} {cond : Nat} {rules : List ((Nat → Bool) × Int × Int)} {k : Nat} {x : (Nat → Bool) × Int × Int} (h : rules[k]? = some x) (b : Int) : beginL fi cond (rules.drop k) k b = beginL fi cond (rules.drop (k + 1)) (k + 1) (begC x.1 (fi k) cond 4 b) := by
  have e : rules.drop k = x :: rules.drop (k + 1) := by
    obtain ⟨hk, he⟩ := List.getElem?_eq_some_iff.1 h
    rw [List.drop_eq_getElem_cons hk, he]
  rw [e, beginL]
end Go.Stn
namespace Go.Proofs.Ytgjgjgihceijnaa
open Go.RowKit Go.Stn

set_option maxRecDepth 100000 in
set_option maxHeartbeats 1000000 in
theorem pbegin_any (rules : List ((Nat → Bool) × Int × Int)) (rg rcap nb fg fcap cond : Nat) (fi : Nat → Int) (vn vp : Value) (w : World) (hn : rules.length ≤ 1000) (hr : RulesIn w rg rules) (hg : rg < w.heap.size)
    (hnb : nb < w.heap.size) (hvf : w.cell? ⟨nb, 0, none⟩ = some (.slice (some ⟨fg, 0, none⟩) rules.length fcap)) (hfi : NIn w fg rules.length fi) (hfg : fg < w.heap.size) :
    Calls Try.prog 63 #[.pointer (some ⟨nb, 0, none⟩), .agg #[.slice (some ⟨rg, 0, none⟩) rules.length rcap, vn, vp], .int .i64 cond] w fun e w' => e = .returned (.int .i64 (beginL fi cond rules 0 0)) ∧ Below w.heap.size w w' := by
  have HR := hidZ hr
  have HVF := hidZ hvf
  have HFI := hidZ hfi
  clear hr hvf hfi
  obtain ⟨n, hnn⟩ : ∃ n, rules.length = n := ⟨_, rfl⟩
  rw [hnn] at hn HVF HFI ⊢
  replace hnn := hidZ hnn
  have c0 : (w.alloc (.cells #[.slice (some ⟨rg, 0, none⟩) n rcap, vn, vp] 84)).cell? ⟨w.heap.size, 0, none⟩ = some (.slice (some ⟨rg, 0, none⟩) n rcap) := (World.cell?_alloc_at _ _ w.heap.size 0 rfl).trans rfl
  have HB0 : Hid (Below w.heap.size w (w.alloc (.cells #[.slice (some ⟨rg, 0, none⟩) n rcap, vn, vp] 84))) := (Below.refl _ _).alloc (Nat.le_refl _) _
  go_enter Try.func63, Try.ntmps63
  go_upto_region 2 with fail
  generalize w.alloc (.cells #[.slice (some ⟨rg, 0, none⟩) n rcap, vn, vp] 84) = W at *
  go_wp2_with fail
  clear c0
  obtain ⟨FC, EFC⟩ : ∃ c, beginL fi cond rules 0 0 = c := ⟨_, rfl⟩
  replace EFC := hidZ EFC
  go_loopg [7, 15] n (fun gk cv iv wr => ∃ (k : Nat) (b : Int), cv = .int .i64 b ∧ iv = .int .i64 (k : Int) ∧ k + gk = n ∧ FC = beginL fi cond (rules.drop k) k b ∧ Below w.heap.size w wr)
  case atStart => exact ⟨0, 0, rfl, rfl, by omega, EFC.out.symm, HB0.out⟩
  case round =>
    obtain ⟨k, b, rfl, rfl, hkn, heq, hb⟩ := hrel
    have HQ := hidZ heq
    have HB := hidZ hb
    have hzw := hb.size
    clear heq hb HB0
    by_cases hlt : k < n
    · obtain ⟨d, rfl⟩ : ∃ d, gk = d + 1 := ⟨gk - 1, by omega⟩
      have hkr : k < rules.length := by rw [hnn.out]; exact hlt
      have hx : rules[k]? = some (rules[k]) := List.getElem?_eq_getElem hkr
      have HRG := hidZ ((HR.out.below HB.out hg) k _ hx)
      have HQ2 := hidZ (HQ.out.trans (beginL_drop hx b))
      generalize rules[k] = x at *
      obtain ⟨f, be, ro⟩ := x
      have HNEW : Hid (RuleAt ((wr.alloc (.cells #[.bool false, .bool false, .bool false, .bool false, .int .i64 0, .int .i64 0] 151)).setCells wr.heap.size 0 (ruleC (f, be, ro))) wr.heap.size (f, be, ro)) :=
        RuleAt.mk' (World.rangeAt_setCells_same _ _ _ _ (there_newL wr [.bool false, .bool false, .bool false, .bool false, .int .i64 0, .int .i64 0] 151 6 rfl))
      have HBN : Hid (Below w.heap.size w ((wr.alloc (.cells #[.bool false, .bool false, .bool false, .bool false, .int .i64 0, .int .i64 0] 151)).setCells wr.heap.size 0 (ruleC (f, be, ro)))) := below_setCells _ 0 _ wr.heap.size (HB.out.alloc hzw _) hzw
      have HTN := hidZ (there_newL wr [.bool false, .bool false, .bool false, .bool false, .int .i64 0, .int .i64 0] 151 6 rfl)
      have hd1 : decide ((k : Int) < (n : Int)) = true := by simp; omega
      have hkI : (0 : Int) ≤ (k : Int) ∧ (k : Int) < (n : Int) := by omega
      clear hx hkr
      go_upto_region 5 with (first
        | (refine wpList_load_mid rfl 151 (.tmp 18) rfl rg (k * 6) rfl (ruleC (f, be, ro)) _ HRG.out Try.underlying151 rfl Try.ruleSize ?_)
        | (refine wpList_store_mid rfl 151 (.tmp 9) (.tmp 19) rfl wr.heap.size 0 (ruleC (f, be, ro)).toArray rfl rfl ?_ ?_ ?_ ?_; exact HTN.out; exact Try.ruleSize; (simp [ruleC, Value.oneCell'])))
      generalize (wr.alloc (.cells #[.bool false, .bool false, .bool false, .bool false, .int .i64 0, .int .i64 0] 151)).setCells wr.heap.size 0 (ruleC (f, be, ro)) = w5 at *
      have HCS : Hid (w5.rangeAt wr.heap.size 0 [.bool (f 0), .bool (f 1), .bool (f 2), .bool (f 3)]) := HNEW.out.cs
      have v0 := (HBN.out.cell (p := ⟨nb, 0, none⟩) hnb).trans HVF.out
      have v1 := (HBN.out.cell (p := ⟨fg, k, none⟩) hfg).trans (HFI.out k hlt)
      simp only at HQ2
      generalize fi k = fr at *
      clear HNEW HTN HRG HB
      go_wp2_with (first | (refine wpList_load_mid rfl 149 (.tmp 20) rfl wr.heap.size 0 rfl [.bool (f 0), .bool (f 1), .bool (f 2), .bool (f 3)] _ HCS.out Try.underlying149 rfl Try.condsSize ?_) | fail)
      go_loopg [7, 22] 4 (fun gj cv iv wj => ∃ (j : Nat) (bb : Int), cv = .int .i64 bb ∧ iv = .int .i64 (j : Int) ∧ j + gj = 4 ∧ bb = begC f fr cond j b ∧ wj = w5)
      case atStart => exact ⟨0, b, rfl, rfl, rfl, rfl, rfl⟩
      case round =>
        obtain ⟨j, bb, rfl, rfl, hj4, hbb, rfl⟩ := hrel
        have HBB := hidZ hbb
        clear hbb
        by_cases hj : j < 4
        · obtain ⟨g, rfl⟩ : ∃ g, gk = g + 1 := ⟨gk - 1, by omega⟩
          have HST : Hid (begC f fr cond (j + 1) b = if f j = true ∧ j = cond then orI bb fr else bb) := by unfold Hid; rw [begC, ← HBB.out]
          have hd4 : decide ((j : Int) < 4) = true := by simp; omega
          by_cases hq : f j = true ∧ j = cond
          · have HS2 : Hid (begC f fr cond (j + 1) b = orI bb fr) := by unfold Hid; rw [HST.out, if_pos hq]
            have hfj := hq.1
            have hd2 : ((j : Int) == (cond : Int)) = true := by rw [hq.2]; simp
            clear HST HBB hq
            go_wp2_with (first | (refine Try.wpIndex4 rfl (.tmp 21) (.tmp 22) rfl f j hj rfl rfl ?_; rw [hfj]) | fail)
            go_roundg g
            case measure => omega
            case rel => exact ⟨j + 1, orI bb fr, rfl, by go_num, by omega, HS2.out.symm, rfl⟩
          · have HS2 : Hid (begC f fr cond (j + 1) b = bb) := by unfold Hid; rw [HST.out, if_neg hq]
            cases hfj : f j with
            | true =>
              have hd2 : ((j : Int) == (cond : Int)) = false := by rw [beq_eq_false_iff_ne]; exact fun h => hq ⟨hfj, by omega⟩
              clear HST HBB hq
              go_wp2_with (first | (refine Try.wpIndex4 rfl (.tmp 21) (.tmp 22) rfl f j hj rfl rfl ?_; rw [hfj]) | fail)
              go_roundg g
              case measure => omega
              case rel => exact ⟨j + 1, bb, rfl, by go_num, by omega, HS2.out.symm, rfl⟩
            | false =>
              clear HST HBB hq
              go_wp2_with (first | (refine Try.wpIndex4 rfl (.tmp 21) (.tmp 22) rfl f j hj rfl rfl ?_; rw [hfj]) | fail)
              go_roundg g
              case measure => omega
              case rel => exact ⟨j + 1, bb, rfl, by go_num, by omega, HS2.out.symm, rfl⟩
        · have ej : j = 4 := by omega
          have HC4 : Hid (begC f fr cond 4 b = bb) := by unfold Hid; rw [HBB.out, ej]
          have hd4 : decide ((j : Int) < 4) = false := by simp; omega
          clear ej HBB
          go_wp2
          go_roundg d
          case measure => omega
          case rel => exact ⟨k + 1, bb, rfl, by go_num, by omega, by rw [HQ2.out, HC4.out], HBN.out⟩
    · have e : gk = 0 := by omega
      subst e
      have HE : Hid (FC = b) := by unfold Hid; rw [HQ.out, show rules.drop k = [] by rw [List.drop_eq_nil_iff, hnn.out]; omega]; rfl
      have hd1 : decide ((k : Int) < (n : Int)) = false := by simp; omega
      go_wp2
      go_ret
      exact ⟨by rw [EFC.out, HE.out]; rfl, HB.out⟩
end Go.Proofs.Ytgjgjgihceijnaa

namespace Go.Stn
open Go.RowKit
/-- Places that can be read. -/
def PlacesIn (w : World) (g : Nat) (places : List (Nat → Bool)) : Prop := ∀ k f, places[k]? = some f → w.rangeAt g (k * 256) (bitL f)
theorem PlacesIn.below {w w' : World} {g B : Nat} {places : List (Nat → Bool)} (h : PlacesIn w g places) (hB : Below B w w') (hg : g < B) : PlacesIn w' g places := fun k x hk => rangeAt_block (h k x hk) (hB.block g hg)
/-- The places from number p on that allow a byte. -/
def alwL (b : Nat) : List (Nat → Bool) → Nat → Int → Int
  | [], _, a => a
  | f :: r, p, a => alwL b r (p + 1) (if f b = true then orI a (pow2 p) else a)
def alwP (places : List (Nat → Bool)) (b : Nat) : Int := alwL b places 0 0
theorem alwL_drop {places : List (Nat → Bool)} {k b : Nat} {f : Nat → Bool} (h : places[k]? = some f) (a : Int) : alwL b (places.drop k) k a = alwL b (places.drop (k + 1)) (k + 1) (if f b = true then orI a (pow2 k) else a) := by
  have e : places.drop k = f :: places.drop (k + 1) := by
    obtain ⟨hk, he⟩ := List.getElem?_eq_some_iff.1 h
    rw [List.drop_eq_getElem_cons hk, he]
  rw [e, alwL]
/-- The groups of the bytes from b on, d of them. -/
def grpL (al : Nat → Int) : Nat → Nat → List Nat → List Int → List Nat × List Int
  | 0, _, ofs, P => (ofs, P)
  | d + 1, b, ofs, P => grpL al d (b + 1) (ofs ++ [findP P (al b)]) (if findP P (al b) = P.length then P ++ [al b] else P)
def grpP (places : List (Nat → Bool)) : List Nat × List Int := grpL (alwP places) 256 0 [] []
def grpC (ofs : List Nat) (vpl : Value) : List Value := natC ofs ++ [vpl]
theorem grpC_len (ofs : List Nat) (vpl : Value) (h : ofs.length = 256) : (grpC ofs vpl).length = 257 := by simp [grpC, natC_len, h]
theorem grpC_k (ofs : List Nat) (vpl : Value) (k : Nat) (h : k < ofs.length) : (grpC ofs vpl)[k]? = some (.int .i64 (ofs[k] : Int)) := by
  unfold grpC; rw [List.getElem?_append_left (by rw [natC_len]; exact h), natC_get _ _ h]
theorem grpC_256 (ofs : List Nat) (vpl : Value) (h : ofs.length = 256) : (grpC ofs vpl)[256]? = some vpl := by
  unfold grpC; rw [List.getElem?_append_right (by rw [natC_len, h]; exact Nat.le_refl _), natC_len, h]; rfl
theorem grpC_setk (ofs : List Nat) (vpl : Value) (k x : Nat) (h : k < ofs.length) : (grpC ofs vpl).set k (.int .i64 (x : Int)) = grpC (ofs.set k x) vpl := by
  unfold grpC
  rw [List.set_append_left _ _ (by rw [natC_len]; exact h)]
  simp [natC, List.map_set]
theorem grpC_set256 (ofs : List Nat) (vpl u : Value) (h : ofs.length = 256) : (grpC ofs vpl).set 256 u = grpC ofs u := by
  unfold grpC
  rw [List.set_append_right _ _ (by rw [natC_len, h]; exact Nat.le_refl _), natC_len, h]; rfl
theorem findP_le (P : List Int) (x : Int) : findP P x ≤ P.length := by
  by_cases h : x ∈ P
  · exact Nat.le_of_lt (findP_lt h)
  · rw [findP_none h]; exact Nat.le_refl _
end Go.Stn
namespace Go.Proofs.Ytgjgjgihceijnaa
open Go.RowKit Go.Stn

set_option maxRecDepth 100000 in
set_option maxHeartbeats 1000000 in
theorem pallow_any (places : List (Nat → Bool)) (qg qcap b : Nat) (vr vn : Value) (w : World) (hn : places.length ≤ 10) (hb : b < 256) (hp : PlacesIn w qg places) (hg : qg < w.heap.size) :
    Calls Try.prog 59 #[.agg #[vr, vn, .slice (some ⟨qg, 0, none⟩) places.length qcap], .int .i64 b] w fun e w' => e = .returned (.int .i64 (alwP places b)) ∧ Below w.heap.size w w' := by
  have HP := hidZ hp
  clear hp
  obtain ⟨n, hnn⟩ : ∃ n, places.length = n := ⟨_, rfl⟩
  rw [hnn] at hn ⊢
  replace hnn := hidZ hnn
  have c0 : (w.alloc (.cells #[vr, vn, .slice (some ⟨qg, 0, none⟩) n qcap] 84)).cell? ⟨w.heap.size, 2, none⟩ = some (.slice (some ⟨qg, 0, none⟩) n qcap) := (World.cell?_alloc_at _ _ w.heap.size 2 rfl).trans rfl
  have HB0 : Hid (Below w.heap.size w (w.alloc (.cells #[vr, vn, .slice (some ⟨qg, 0, none⟩) n qcap] 84))) := (Below.refl _ _).alloc (Nat.le_refl _) _
  go_enter Try.func59, Try.ntmps59
  go_upto_region 2 with fail
  generalize w.alloc (.cells #[vr, vn, .slice (some ⟨qg, 0, none⟩) n qcap] 84) = W at *
  go_wp2_with fail
  clear c0
  obtain ⟨FC, EFC⟩ : ∃ c, alwP places b = c := ⟨_, rfl⟩
  have HFC : Hid (alwL b places 0 0 = FC) := EFC
  replace EFC := hidZ EFC
  go_loopg [5, 11] n (fun gk cv iv wr => ∃ (k : Nat) (a : Int), cv = .int .i64 a ∧ iv = .int .i64 (k : Int) ∧ k + gk = n ∧ FC = alwL b (places.drop k) k a ∧ Below w.heap.size w wr)
  case atStart => exact ⟨0, 0, rfl, rfl, by omega, HFC.out.symm, HB0.out⟩
  case round =>
    obtain ⟨k, a, rfl, rfl, hkn, heq, hbl⟩ := hrel
    have HQ := hidZ heq
    have HB := hidZ hbl
    have hzw := hbl.size
    clear heq hbl HB0 HFC
    by_cases hlt : k < n
    · obtain ⟨d, rfl⟩ : ∃ d, gk = d + 1 := ⟨gk - 1, by omega⟩
      have hkr : k < places.length := by rw [hnn.out]; exact hlt
      have hx : places[k]? = some (places[k]) := List.getElem?_eq_getElem hkr
      have HRG := hidZ ((HP.out.below HB.out hg) k _ hx)
      have HQ2 := hidZ (HQ.out.trans (alwL_drop hx a))
      generalize places[k] = f at *
      have HTN := hidZ (there_newA wr Try.zeroCells187 187 wr.heap.size 256 Try.bytesZero rfl)
      have HNEW : Hid (((wr.alloc (.cells Try.zeroCells187 187)).setCells wr.heap.size 0 (bitL f)).rangeAt wr.heap.size 0 (bitL f)) := World.rangeAt_setCells_same _ _ _ _ (by rw [bitL_len]; exact HTN.out)
      have HBN : Hid (Below w.heap.size w ((wr.alloc (.cells Try.zeroCells187 187)).setCells wr.heap.size 0 (bitL f))) := below_setCells _ 0 _ wr.heap.size (HB.out.alloc hzw _) hzw
      have hd1 : decide ((k : Int) < (n : Int)) = true := by simp; omega
      have hkI : (0 : Int) ≤ (k : Int) ∧ (k : Int) < (n : Int) := by omega
      clear hx hkr
      go_upto_region 5 with (first
        | (refine wpList_load_bits rfl 187 (.tmp 14) rfl qg (k * 256) f _ rfl HRG.out Try.underlying187 rfl Try.bytesSize ?_)
        | (refine wpList_store_bits rfl 187 (.tmp 7) (.tmp 15) rfl wr.heap.size 0 f ?_ ?_ ?_ Try.bytesSize ?_; rfl; rfl; exact HTN.out))
      generalize (wr.alloc (.cells Try.zeroCells187 187)).setCells wr.heap.size 0 (bitL f) = w5 at *
      have cb : w5.cell? ⟨wr.heap.size, b, none⟩ = some (.bool (f b)) := by have := HNEW.out b _ (bitL_get f b hb); rw [Nat.zero_add] at this; exact this
      have hbI : (0 : Int) ≤ (b : Int) ∧ (b : Int) < 256 := by omega
      clear HNEW HTN HRG HB
      cases hfb : f b with
      | true =>
        rw [hfb] at cb HQ2
        rw [if_pos rfl] at HQ2
        go_wp2_with fail
        refine (psingle_any k (by omega) w5).mono ?_
        rintro e w6 ⟨rfl, rfl⟩
        go_wp2
        go_roundg d
        case measure => omega
        case rel => exact ⟨k + 1, orI a (pow2 k), rfl, by go_num, by omega, HQ2.out, HBN.out⟩
      | false =>
        rw [hfb] at cb HQ2
        rw [if_neg (by decide)] at HQ2
        go_wp2
        go_roundg d
        case measure => omega
        case rel => exact ⟨k + 1, a, rfl, by go_num, by omega, HQ2.out, HBN.out⟩
    · have e : gk = 0 := by omega
      subst e
      have HE : Hid (FC = a) := by unfold Hid; rw [HQ.out, show places.drop k = [] by rw [List.drop_eq_nil_iff, hnn.out]; omega]; rfl
      have hd1 : decide ((k : Int) < (n : Int)) = false := by simp; omega
      go_wp2
      go_ret
      exact ⟨by rw [EFC.out, HE.out]; rfl, HB.out⟩
end Go.Proofs.Ytgjgjgihceijnaa

