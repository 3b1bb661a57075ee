/- Texts put together: RfRules, RfParse, PlSmall, PlFind, PlBehind, PlLead. -/
import Derived.Test.YtgjgjgihceijnaaG13
import Derived.Deep.QuietTactic
import Derived.BigQuiet
/- The reader's rules: a walk. -/
namespace Go.Stn
theorem Gr.same {t : ByteArray} {a b : PSt} (h : sameL a b) (h1 : a.at_ ≤ b.at_) (h2 : b.at_ ≤ t.size) : Gr t a b := (GrS_same h h1 h2).gr
theorem Gr.step {t : ByteArray} {a : PSt} (h : a.at_ < t.size) : Gr t a (adv a) := Gr.same (sameL.adv a) (by rw [adv_at]; omega) (by rw [adv_at]; omega)
/-- How a rule goes on. -/
def Gr3 (t : ByteArray) (a b : PSt) : Prop := Gr t a b ∧ b.rules.length + a.at_ ≤ a.rules.length + b.at_
theorem ruleEnd_gr {t : ByteArray} {f : Nat → Bool} {root : Int} {st : PSt} (h : st.at_ ≤ t.size) : Gr t st (ruleEnd t f root st).2 ∧ (ruleEnd t f root st).2.rules.length ≤ st.rules.length + 1 := by
  have h1 := behindP_at h
  have h2 := Go.Proofs.Ytgjgjgihceijnaa.behindP_same t st
  have h3 := Gr.same h2 h1.1 h1.2
  have e : (behindP t st).2.2.rules.length = st.rules.length := by rw [h2.1]
  unfold ruleEnd
  split
  · exact ⟨h3, by simp only; omega⟩
  · refine ⟨h3, ?_⟩
    simp only [addR, List.length_append, List.length_singleton]; omega
theorem ruleMid_gr {t : ByteArray} {f : Nat → Bool} {st : PSt} (h : st.at_ ≤ t.size) : Gr t st (ruleMid t f st).2 ∧ ((ruleMid t f st).2.rules.length ≤ st.rules.length + 1) := by
  have h1 := exprP_ok t (t.size + 1) st h
  have h2 := Go.Proofs.Ytgjgjgihceijnaa.exprP_rules t (t.size + 1) st
  have e : (exprP t (t.size + 1) st).2.2.rules.length = st.rules.length := by rw [h2]
  unfold ruleMid
  split
  · exact ⟨h1, by simp only; omega⟩
  · split
    · exact ⟨h1, by simp only; omega⟩
    · rename_i hn
      have hlt := nextB_lt (by omega) (show nextB t 32 (exprP t (t.size + 1) st).2.2 = true by simpa using hn)
      have h3 := ruleEnd_gr (t := t) (f := f) (root := (exprP t (t.size + 1) st).1) (st := adv (exprP t (t.size + 1) st).2.2) (by rw [adv_at]; omega)
      refine ⟨(h1.trans (Gr.step hlt)).trans h3.1, ?_⟩
      have h4 := h3.2
      have e2 : (adv (exprP t (t.size + 1) st).2.2).rules = (exprP t (t.size + 1) st).2.2.rules := rfl
      rw [e2] at h4
      omega
theorem ruleP_gr {t : ByteArray} {st : PSt} (h : st.at_ ≤ t.size) : Gr3 t st (ruleP t st).2 := by
  have h1 := rcondsP_at h
  have h2 := Gr.same h1.1 h1.2.1 h1.2.2
  have e : (rcondsP t st).2.2.rules.length = st.rules.length := by rw [h1.1.1]
  unfold ruleP
  split
  · exact ⟨h2, by simp only; omega⟩
  · split
    · exact ⟨h2, by simp only; omega⟩
    · rename_i hn
      have hlt := nextB_lt (by omega) (show nextB t 32 (rcondsP t st).2.2 = true by simpa using hn)
      have h3 := ruleMid_gr (t := t) (f := (rcondsP t st).1) (st := adv (rcondsP t st).2.2) (by rw [adv_at]; omega)
      refine ⟨(h2.trans (Gr.step hlt)).trans h3.1, ?_⟩
      have h4 := h3.2
      have h5 := h3.1.1
      have e2 : (adv (rcondsP t st).2.2).rules = (rcondsP t st).2.2.rules := rfl
      rw [e2] at h4
      rw [adv_at] at h5
      omega
def rulesLoop (t : ByteArray) : Nat → Bool → PSt → Bool × PSt
  | 0, _, st => (false, st)
  | n + 1, ok, st => if ok = false then (false, st) else if nextB t 10 st = false then (true, st) else rulesLoop t n (ruleP t (adv st)).1 (ruleP t (adv st)).2
theorem rulesLoop_false (t : ByteArray) (n : Nat) (st : PSt) : rulesLoop t n false st = (false, st) := by cases n <;> rfl
theorem rulesLoop_done {t : ByteArray} {n : Nat} {st : PSt} (h : nextB t 10 st = false) : rulesLoop t (n + 1) true st = (true, st) := by rw [rulesLoop, if_neg (by decide), if_pos h]
theorem rulesLoop_more {t : ByteArray} {n : Nat} {st : PSt} (h : nextB t 10 st = true) : rulesLoop t (n + 1) true st = rulesLoop t n (ruleP t (adv st)).1 (ruleP t (adv st)).2 := by rw [rulesLoop, if_neg (by decide), if_neg (by rw [h]; decide)]
def rulesR (t : ByteArray) (st : PSt) : Bool × PSt := rulesLoop t (t.size + 1) (ruleP t st).1 (ruleP t st).2
/-- The whole text. -/
def rulesB (t : ByteArray) (x : Bool × PSt) : Bool := x.1 && (decide (x.2.at_ = t.size) && decide (x.2.rules.length ≤ 8))
end Go.Stn
namespace Go.Proofs.Ytgjgjgihceijnaa
open Go.RowKit Go.Stn

set_option maxRecDepth 100000 in
theorem rules_any (t : ByteArray) (st : PSt) (rb base : Nat) (vr vn vp : Value) (w : World) (ht : t.size ≤ 120) (hat : st.at_ ≤ t.size) (hfew : Few st) (hru : st.rules.length ≤ st.at_) (h : Rd w rb base w.heap.size t st vr vn vp) :
    Calls Try.prog 58 #[.pointer (some ⟨rb, 0, none⟩)] w fun e w' => e = .returned (.bool (rulesB t (rulesR t st))) ∧ RdOut w rb base t vr vn vp (rulesR t st).2 w' := by
  have hc1 := rule_any t st rb base vr vn vp w ht hat hfew (by omega) h
  have hg1 := ruleP_gr (t := t) hat
  have HA : Hid (rulesR t st = rulesLoop t (t.size + 1) (ruleP t st).1 (ruleP t st).2) := rfl
  generalize ruleP t st = M at *
  obtain ⟨ok1, st1⟩ := M
  simp only at hc1 hg1 HA
  have hat1 : st1.at_ ≤ t.size := hg1.1.2.1
  have HFW := hidK (hfew.gr hg1.1)
  have hru1 : st1.rules.length ≤ st1.at_ := by have := hg1.2; omega
  clear hg1 hfew
  go_enter Try.func58, Try.ntmps58
  go_wp2_with fail
  refine hc1.mono ?_
  rintro e w1 ⟨rfl, vr1, vn1, vp1, hr1, hf1⟩
  have HR1 := hidK hr1
  have HF1 := hidK hf1
  clear hf1 hc1 hr1
  go_wp2_with fail
  go_loopg [3] (t.size + 1) (fun gk y wr => ∃ (ok : Bool) (s : PSt) (vr2 vn2 vp2 : Value), y = .bool ok ∧ s.at_ ≤ t.size ∧ s.rules.length ≤ s.at_ ∧ Few s ∧ (ok = true → t.size - s.at_ < gk) ∧ rulesR t st = rulesLoop t gk ok s ∧
    Rd wr rb base wr.heap.size t s vr2 vn2 vp2 ∧ Fr w wr rb vr vn vp vr2 vn2 vp2)
  case atStart => exact ⟨ok1, st1, vr1, vn1, vp1, rfl, hat1, hru1, HFW.out, fun _ => by omega, HA.out, HR1.out, HF1.out⟩
  case round =>
    obtain ⟨ok, s, vr2, vn2, vp2, rfl, has, hrs, hfs, hfu, hal, hr, hf⟩ := hrel
    have HL := hidK hal
    have HF := hidK hf
    have HFS := hidK hfs
    have HFU := hidK hfu
    clear hal hf hfs hfu HR1 HF1 HFW HA
    cases ok with
    | false =>
      have HE : Hid (rulesR t st = (false, s)) := HL.out.trans (rulesLoop_false t gk s)
      have HR := hidK hr.drewN
      clear hr
      go_wp2_with fail
      go_quiet (fail)
      go_wp2
      go_ret
      rw [HE.out]
      exact ⟨rfl, _, _, _, (HR.out _).raise, HF.out.trans (Fr.of_grown (grown_drewN (World.grownBy.refl _ _) _))⟩
    | true =>
      obtain ⟨g', hg'⟩ : ∃ g', gk = g' + 1 := ⟨gk - 1, by have := HFU.out rfl; omega⟩
      have HGK := hidK hg'
      clear hg'
      have HUF : Hid (t.size - s.at_ < gk) := HFU.out rfl
      clear HFU
      go_wp2_with fail
      refine (skip_any t s 10 rb base vr2 vn2 vp2 _ ht has hr).mono ?_
      rintro e w3 ⟨rfl, hg3, hr3⟩
      have HF3 : Hid (Fr w w3 rb vr vn vp vr2 vn2 vp2) := HF.out.trans (Fr.of_grown hg3)
      clear hr HF hg3
      cases hp : nextB t 10 s with
      | false =>
        have HE : Hid (rulesR t st = (true, s)) := by unfold Hid; rw [HL.out, HGK.out]; exact rulesLoop_done hp
        rw [skipP_no hp] at hr3
        have HR3 := hidK hr3
        clear hr3
        have c0 := HR3.out.c0
        have c1 := HR3.out.c1
        have c2 := HR3.out.c2
        obtain ⟨a2, cap2, hsl⟩ := rowSlice HR3.out.rr
        rw [hsl] at c2
        clear hsl
        by_cases he : s.at_ = t.size
        · have hb : (((s.at_ : Nat) : Int) == ((t.size : Nat) : Int)) = true := by rw [he]; exact beq_self_eq_true _
          by_cases hm : s.rules.length ≤ 8
          · have HB : Hid (rulesB t (true, s) = true) := by unfold Hid rulesB; simp [he, hm]
            have hm' : ((s.rules.length : Nat) : Int) ≤ 8 := by omega
            clear he hm
            go_wp2_with fail
            go_quiet (fail)
            go_wp2
            go_ret
            rw [HE.out, HB.out]
            exact ⟨rfl, _, _, _, (HR3.out.drewN _).raise, HF3.out.trans (Fr.of_grown (grown_drewN (World.grownBy.refl _ _) _))⟩
          · have HB : Hid (rulesB t (true, s) = false) := by unfold Hid rulesB; simp; intro _; omega
            have hm' : decide (((s.rules.length : Nat) : Int) ≤ 8) = false := by rw [decide_eq_false_iff_not]; omega
            clear he hm
            go_wp2_with fail
            go_quiet (fail)
            go_wp2
            go_ret
            rw [HE.out, HB.out]
            exact ⟨rfl, _, _, _, (HR3.out.drewN _).raise, HF3.out.trans (Fr.of_grown (grown_drewN (World.grownBy.refl _ _) _))⟩
        · have hb : (((s.at_ : Nat) : Int) == ((t.size : Nat) : Int)) = false := beq_eq_false_iff_ne.2 (by omega)
          have HB : Hid (rulesB t (true, s) = false) := by unfold Hid rulesB; simp [he]
          clear he
          go_wp2_with fail
          go_quiet (fail)
          go_wp2
          go_ret
          rw [HE.out, HB.out]
          exact ⟨rfl, _, _, _, (HR3.out.drewN _).raise, HF3.out.trans (Fr.of_grown (grown_drewN (World.grownBy.refl _ _) _))⟩
      | true =>
        have hlt := nextB_lt (by omega) hp
        rw [skipP_yes hp] at hr3
        have hstep : rulesR t st = rulesLoop t g' (ruleP t (adv s)).1 (ruleP t (adv s)).2 := by rw [HL.out, HGK.out]; exact rulesLoop_more hp
        have hc4 := rule_any t (adv s) rb base vr2 vn2 vp2 w3 ht (adv_ok hlt) HFS.out.adv (by show s.rules.length ≤ 100000; omega) hr3
        have hgg := ruleP_gr (t := t) (adv_ok hlt)
        have HS := hidK hstep
        clear hstep
        generalize ruleP t (adv s) = M at *
        obtain ⟨ok4, st4⟩ := M
        simp only at hc4 HS hgg
        have ha4 : s.at_ + 1 ≤ st4.at_ := by have := hgg.1.1; rw [adv_at] at this; exact this
        have hat4 : st4.at_ ≤ t.size := hgg.1.2.1
        have hru4 : st4.rules.length ≤ st4.at_ := by have := hgg.2; rw [adv_at] at this; have e : (adv s).rules = s.rules := rfl; rw [e] at this; omega
        have HW4 := hidK (HFS.out.adv.gr hgg.1)
        clear hgg
        go_wp2_with fail
        refine hc4.mono ?_
        rintro e w4 ⟨rfl, vr4, vn4, vp4, hr4, hf4⟩
        have HF4 := hidK (HF3.out.trans hf4)
        have HR4 := hidK hr4
        clear hf4 hc4 hr3 HF3 hr4
        go_wp2_with fail
        go_roundg g'
        case measure => have := HGK.out; omega
        case rel =>
          refine ⟨ok4, st4, vr4, vn4, vp4, rfl, hat4, hru4, HW4.out, fun _ => ?_, HS.out, HR4.out, HF4.out⟩
          have a1 := HUF.out
          have a2 := HGK.out
          omega
end Go.Proofs.Ytgjgjgihceijnaa

/- Parse: a walk. -/
namespace Go.Stn
def st0 : PSt := { at_ := 0, rules := [], nodes := [], places := [] }
/-- What Parse reads. -/
def parsedP (t : ByteArray) : PSt := (rulesR t st0).2
/-- Parse's word. -/
def parseC (t : ByteArray) : Int :=
  if 120 < t.size then 1 else if rulesB t (rulesR t st0) = false then 2 else if 10 < (rulesR t st0).2.places.length then 3 else 0
def nilV : Value := .slice none 0 0
def fileV (a b c : Value) : Value := .agg #[a, b, c]
end Go.Stn
namespace Go.Proofs.Ytgjgjgihceijnaa
open Go.RowKit Go.Stn

/-- Three cells that may be written. -/
structure Three (w : World) (b : Nat) (x y z : Value) : Prop where
  c0 : w.cell? ⟨b, 0, none⟩ = some x
  c1 : w.cell? ⟨b, 1, none⟩ = some y
  c2 : w.cell? ⟨b, 2, none⟩ = some z
  z : ∀ i, w.frozen? ⟨b, i, none⟩ = false
theorem Three.block {w w' : World} {b : Nat} {x y z : Value} (h : Three w b x y z) (he : w'.heap[b]? = w.heap[b]?) : Three w' b x y z :=
  ⟨(World.cell?_of_block (w := w) (a := ⟨b, 0, none⟩) he).trans h.c0, (World.cell?_of_block (w := w) (a := ⟨b, 1, none⟩) he).trans h.c1, (World.cell?_of_block (w := w) (a := ⟨b, 2, none⟩) he).trans h.c2, fun i => (World.frozen?_of_block (w := w) (a := ⟨b, i, none⟩) he).trans (h.z i)⟩
theorem Three.new (w : World) (b : Nat) (ty : TypeId) (x y z : Value) (hb : b = w.heap.size) : Three (w.alloc (.cells #[x, y, z] ty)) b x y z :=
  ⟨(World.cell?_alloc_at _ _ b 0 hb).trans rfl, (World.cell?_alloc_at _ _ b 1 hb).trans rfl, (World.cell?_alloc_at _ _ b 2 hb).trans rfl, fun i => World.frozen?_alloc_at _ _ b i hb⟩
theorem Three.alloc {w : World} {b : Nat} {x y z : Value} (h : Three w b x y z) (hb : b < w.heap.size) (o : Obj) : Three (w.alloc o) b x y z :=
  ⟨(World.cell?_alloc_past o b 0 hb).trans h.c0, (World.cell?_alloc_past o b 1 hb).trans h.c1, (World.cell?_alloc_past o b 2 hb).trans h.c2, fun i => (World.frozen?_alloc_past o b i hb).trans (h.z i)⟩
theorem Three.range {w : World} {b : Nat} {x y z : Value} (h : Three w b x y z) : w.rangeAt b 0 [x, y, z] := by
  intro j v hv
  match j, hv with
  | 0, hv => cases hv; exact h.c0
  | 1, hv => cases hv; exact h.c1
  | 2, hv => cases hv; exact h.c2
theorem Three.there {w : World} {b : Nat} {x y z : Value} (h : Three w b x y z) : w.there b 0 3 := by
  intro j hj
  rw [Nat.zero_add]
  refine ⟨?_, h.z j⟩
  match j, hj with
  | 0, _ => rw [h.c0]; rfl
  | 1, _ => rw [h.c1]; rfl
  | 2, _ => rw [h.c2]; rfl
theorem Three.stored {w : World} {b : Nat} {x y z : Value} (h : Three w b x y z) (x' y' z' : Value) : Three (((w.setCell ⟨b, 0, none⟩ x').setCell ⟨b, 1, none⟩ y').setCell ⟨b, 2, none⟩ z') b x' y' z' := by
  have hr : (w.setCells b 0 [x', y', z']).rangeAt b 0 [x', y', z'] := World.rangeAt_setCells_same w b 0 [x', y', z'] h.there
  exact ⟨hr 0 _ rfl, hr 1 _ rfl, hr 2 _ rfl, fun i => by rw [World.frozen?_setCell, World.frozen?_setCell, World.frozen?_setCell]; exact h.z i⟩
theorem below_three {a w : World} {B b : Nat} (h : Below B a w) (hb : B ≤ b) (x y z : Value) : Below B a (((w.setCell ⟨b, 0, none⟩ x).setCell ⟨b, 1, none⟩ y).setCell ⟨b, 2, none⟩ z) :=
  ((h.setCell (p := ⟨b, 0, none⟩) hb x).setCell (p := ⟨b, 1, none⟩) hb y).setCell (p := ⟨b, 2, none⟩) hb z
theorem row_three {w : World} {base b : Nat} {e : TypeId} {size : Nat} {v : Value} {m : Nat} {xs : List Value} (hr : w.ownsRow base e size v m xs) (hb : b < base) (x y z : Value) :
    (((w.setCell ⟨b, 0, none⟩ x).setCell ⟨b, 1, none⟩ y).setCell ⟨b, 2, none⟩ z).ownsRow base e size v m xs :=
  ownsRow_setCell_below (ownsRow_setCell_below (ownsRow_setCell_below hr hb _) hb _) hb _

/-- The three lists of a file that was read. -/
structure FileAt (w : World) (base : Nat) (st : PSt) (vr vn vp : Value) : Prop where
  rr : w.ownsRow base 151 6 vr st.rules.length (rulesC st.rules)
  rn : w.ownsRow base 191 3 vn st.nodes.length (cells3' st.nodes)
  rp : w.ownsRow base 187 256 vp st.places.length (bitsC st.places)
  lr : ∀ k, vr.ownBlock = some k → k < w.heap.size
  ln : ∀ k, vn.ownBlock = some k → k < w.heap.size
  lp : ∀ k, vp.ownBlock = some k → k < w.heap.size

theorem Try.fileSize : (Try.prog.info? 84).map (·.size) = some 3 := by kernel_rfl

theorem rd_start (t : ByteArray) (w : World) (x y z : Value) (ty1 ty2 : TypeId) : Rd ((w.alloc (.cells #[x, y, z] ty1)).alloc (.cells #[.string t, .int .i64 0, .slice none 0 0, .slice none 0 0, .slice none 0 0] ty2)) (w.heap.size + 1) (w.heap.size + 2) ((w.alloc (.cells #[x, y, z] ty1)).alloc (.cells #[.string t, .int .i64 0, .slice none 0 0, .slice none 0 0, .slice none 0 0] ty2)).heap.size t st0 (.slice none 0 0) (.slice none 0 0) (.slice none 0 0) := by
  have hb : w.heap.size + 1 = (w.alloc (.cells #[x, y, z] ty1)).heap.size := by simp
  have ap : apartV (.slice none 0 0) (.slice none 0 0) := fun k h _ => by simp [Value.ownBlock] at h
  have no : ∀ k, (Value.slice none 0 0).ownBlock = some k → k < ((w.alloc (.cells #[x, y, z] ty1)).alloc (.cells #[.string t, .int .i64 0, .slice none 0 0, .slice none 0 0, .slice none 0 0] ty2)).heap.size := fun k h => by simp [Value.ownBlock] at h
  refine ⟨(World.cell?_alloc_at _ _ _ 0 hb).trans rfl, (World.cell?_alloc_at _ _ _ 1 hb).trans rfl, (World.cell?_alloc_at _ _ _ 2 hb).trans rfl, (World.cell?_alloc_at _ _ _ 3 hb).trans rfl, (World.cell?_alloc_at _ _ _ 4 hb).trans rfl, fun i => World.frozen?_alloc_at _ _ _ i hb, ⟨rfl, .inl ⟨rfl, rfl⟩⟩, ⟨rfl, .inl ⟨rfl, rfl⟩⟩, ⟨rfl, .inl ⟨rfl, rfl⟩⟩, by omega, ?_, Nat.le_refl _, no, no, no, ap, ap, ap⟩
  simp

set_option maxRecDepth 100000 in
theorem rparse_any (t : ByteArray) (w : World) :
    Calls Try.prog 41 #[.string t] w fun e w' => Below w.heap.size w w' ∧ ∃ vr vn vp, e = .returned (.tuple #[.agg #[vr, vn, vp], .int .i64 (parseC t)]) ∧
      (parseC t = 0 → FileAt w' (w.heap.size + 2) (parsedP t) vr vn vp) ∧ (parseC t ≠ 0 → vr = .slice none 0 0 ∧ vn = .slice none 0 0 ∧ vp = .slice none 0 0) := by
  by_cases h1 : t.size ≤ 120
  · have HR0 := hidK (rd_start t w (.slice none 0 0) (.slice none 0 0) (.slice none 0 0) 84 135)
    have HT0 := hidK ((Three.new w w.heap.size 84 (.slice none 0 0) (.slice none 0 0) (.slice none 0 0) rfl).alloc (by simp) (.cells #[.string t, .int .i64 0, .slice none 0 0, .slice none 0 0, .slice none 0 0] 135))
    have HB0 := hidK (((Below.refl w.heap.size w).alloc (Nat.le_refl _) (.cells #[.slice none 0 0, .slice none 0 0, .slice none 0 0] 84)).alloc (by simp) (.cells #[.string t, .int .i64 0, .slice none 0 0, .slice none 0 0, .slice none 0 0] 135))
    have hsz0 : ((w.alloc (.cells #[.slice none 0 0, .slice none 0 0, .slice none 0 0] 84)).alloc (.cells #[.string t, .int .i64 0, .slice none 0 0, .slice none 0 0, .slice none 0 0] 135)).heap.size = w.heap.size + 2 := by simp
    have HC : Hid (parseC t = if rulesB t (rulesR t st0) = false then 2 else if 10 < (rulesR t st0).2.places.length then 3 else 0) := by
      unfold Hid parseC; rw [if_neg (by omega)]
    go_enter Try.func41, Try.ntmps41
    go_wp2_with fail
    generalize (w.alloc (.cells #[.slice none 0 0, .slice none 0 0, .slice none 0 0] 84)).alloc (.cells #[.string t, .int .i64 0, .slice none 0 0, .slice none 0 0, .slice none 0 0] 135) = W0 at *
    refine (rules_any t st0 (w.heap.size + 1) (w.heap.size + 2) _ _ _ W0 h1 (Nat.zero_le _) ⟨Nat.zero_le _, Nat.zero_le _⟩ (Nat.zero_le _) HR0.out).mono ?_
    rintro e w1 ⟨rfl, vr, vn, vp, hr, hf⟩
    have hnm : ¬ mine (w.heap.size + 1) (.slice none 0 0) (.slice none 0 0) (.slice none 0 0) w.heap.size := by
      rintro (e | e | e | e)
      · omega
      · simp [Value.ownBlock] at e
      · simp [Value.ownBlock] at e
      · simp [Value.ownBlock] at e
    have HT1 := hidK (HT0.out.block (hf.block w.heap.size (by omega) hnm))
    have HB1 : Hid (Below w.heap.size w w1) := by
      refine ⟨hf.os.trans HB0.out.os, hf.tape.trans HB0.out.tape, hf.output.trans HB0.out.output, Nat.le_trans HB0.out.size hf.size, fun k hk => (hf.block k (by omega) ?_).trans (HB0.out.block k hk)⟩
      rintro (e | e | e | e)
      · omega
      · simp [Value.ownBlock] at e
      · simp [Value.ownBlock] at e
      · simp [Value.ownBlock] at e
    have HP : Hid (parsedP t = (rulesR t st0).2) := rfl
    clear HR0 HT0 HB0 hsz0 hf hnm
    generalize rulesB t (rulesR t st0) = ok at *
    generalize rulesR t st0 = M at *
    obtain ⟨ok', s⟩ := M
    simp only at HC hr HP
    have c0 := HT1.out.c0
    have c1 := HT1.out.c1
    have c2 := HT1.out.c2
    have z0 := HT1.out.z 0
    have z1 := HT1.out.z 1
    have z2 := HT1.out.z 2
    cases ok with
    | false =>
      have HE : Hid (parseC t = 2) := HC.out
      go_wp2
      refine ret_cell2 Try.results41 w.heap.size 0 [.slice none 0 0, .slice none 0 0, .slice none 0 0] _ (.int .i64 2) rfl rfl (HT1.out.stored _ _ _).range Try.underlying84 rfl Try.fileSize rfl ?_
      rw [HE.out]
      exact ⟨below_three HB1.out (Nat.le_refl _) _ _ _, _, _, _, rfl, fun h => by simp at h, fun _ => ⟨rfl, rfl, rfl⟩⟩
    | true =>
      have HR := hidK hr
      clear hr
      have d2 := HR.out.c2
      have d3 := HR.out.c3
      have d4 := HR.out.c4
      obtain ⟨ar, cr, er⟩ := rowSlice HR.out.rr
      obtain ⟨an, cn, en⟩ := rowSlice HR.out.rn
      obtain ⟨ap, cp, ep⟩ := rowSlice HR.out.rp
      subst er en ep
      by_cases hp : 10 < s.places.length
      · have HE : Hid (parseC t = 3) := HC.out.trans (if_pos hp)
        go_wp2
        refine ret_cell2 Try.results41 w.heap.size 0 [.slice none 0 0, .slice none 0 0, .slice none 0 0] _ (.int .i64 3) rfl rfl (HT1.out.stored _ _ _).range Try.underlying84 rfl Try.fileSize rfl ?_
        rw [HE.out]
        exact ⟨below_three HB1.out (Nat.le_refl _) _ _ _, _, _, _, rfl, fun h => by simp at h, fun _ => ⟨rfl, rfl, rfl⟩⟩
      · have HE : Hid (parseC t = 0) := HC.out.trans (if_neg hp)
        go_wp2
        refine ret_cell2 Try.results41 w.heap.size 0 [.slice ar s.rules.length cr, .slice an s.nodes.length cn, .slice ap s.places.length cp] _ (.int .i64 0) rfl rfl (HT1.out.stored _ _ _).range Try.underlying84 rfl Try.fileSize rfl ?_
        rw [HE.out]
        refine ⟨below_three HB1.out (Nat.le_refl _) _ _ _, _, _, _, rfl, fun _ => ?_, fun h => absurd rfl h⟩
        rw [HP.out]
        refine ⟨row_three HR.out.rr (by omega) _ _ _, row_three HR.out.rn (by omega) _ _ _, row_three HR.out.rp (by omega) _ _ _, ?_, ?_, ?_⟩
        · rw [World.size_setCell, World.size_setCell, World.size_setCell]; exact HR.out.lr
        · rw [World.size_setCell, World.size_setCell, World.size_setCell]; exact HR.out.ln
        · rw [World.size_setCell, World.size_setCell, World.size_setCell]; exact HR.out.lp
  · have HE : Hid (parseC t = 1) := by unfold Hid parseC; rw [if_pos (by omega)]
    have HT0 := hidK (Three.new w w.heap.size 84 (.slice none 0 0) (.slice none 0 0) (.slice none 0 0) rfl)
    have HB0 := hidK ((Below.refl w.heap.size w).alloc (Nat.le_refl _) (.cells #[.slice none 0 0, .slice none 0 0, .slice none 0 0] 84))
    go_enter Try.func41, Try.ntmps41
    go_wp2
    refine ret_cell2 Try.results41 w.heap.size 0 [.slice none 0 0, .slice none 0 0, .slice none 0 0] _ (.int .i64 1) rfl rfl HT0.out.range Try.underlying84 rfl Try.fileSize rfl ?_
    rw [HE.out]
    exact ⟨HB0.out, _, _, _, rfl, fun h => by simp at h, fun _ => ⟨rfl, rfl, rfl⟩⟩
end Go.Proofs.Ytgjgjgihceijnaa

/- The small functions of places: walks. -/
namespace Go.Stn
/-- The set of one place. -/
def pow2 (k : Nat) : Int := ((2 ^ k : Nat) : Int)
def orI (a b : Int) : Int := bits .or .i64 a b
def andI (a b : Int) : Int := bits .and .i64 a b
/-- A part of an expression, as a value. -/
def partV (p : Int × Int × Bool) : Value := .agg #[.int .i64 p.1, .int .i64 p.2.1, .bool p.2.2]
def joinedP (l r : Int × Int × Bool) : Int × Int × Bool :=
  (if l.2.2 = true then orI l.1 r.1 else l.1, if r.2.2 = true then orI r.2.1 l.2.1 else r.2.1, l.2.2 && r.2.2)
end Go.Stn
namespace Go.Proofs.Ytgjgjgihceijnaa
open Go.RowKit Go.Stn

theorem wrap_pow (k : Nat) (hk : k ≤ 10) : wrap64 (2 ^ k) = ((2 ^ k : Nat) : Int) := by
  have : ∀ j : Fin 11, wrap64 (2 ^ j.val) = ((2 ^ j.val : Nat) : Int) := by decide +kernel
  exact this ⟨k, by omega⟩
set_option maxRecDepth 100000 in
theorem psingle_any (k : Nat) (hk : k ≤ 10) (w : World) :
    Calls Try.prog 90 #[.int .i64 (k : Int)] w fun e w' => w' = w ∧ e = .returned (.int .i64 (pow2 k)) := by
  go_enter Try.func90, Try.ntmps90
  go_wp2
  go_ret
  exact ⟨rfl, by rw [wrap_pow k hk]; rfl⟩
theorem Try.partSize : (Try.prog.info? 193).map (·.size) = some 3 := by kernel_rfl
theorem Three.new3 (w : World) (o1 o2 o4 : Obj) (ty : TypeId) (x y z : Value) : Three ((((w.alloc o1).alloc o2).alloc (.cells #[x, y, z] ty)).alloc o4) (w.heap.size + 1 + 1) x y z :=
  (Three.new _ _ ty x y z (by simp)).alloc (by simp) o4
theorem below4 (w : World) (o1 o2 o3 o4 : Obj) : Below w.heap.size w ((((w.alloc o1).alloc o2).alloc o3).alloc o4) :=
  ((((Below.refl _ _).alloc (Nat.le_refl _) o1).alloc (by simp) o2).alloc (by simp; omega) o3).alloc (by simp; omega) o4
set_option maxRecDepth 100000 in
theorem pjoined_any (a b c d : Int) (x y : Bool) (w : World) :
    Calls Try.prog 119 #[partV (a, b, x), partV (c, d, y)] w fun e w' => Below w.heap.size w w' ∧ e = .returned (partV (joinedP (a, b, x) (c, d, y))) := by
  unfold partV
  cases x <;> cases y
  · go_enter Try.func119, Try.ntmps119
    go_wp2_with fail
    exact ret_cell1 Try.results119 (w.heap.size + 1 + 1) 0 _ _ rfl (Three.new3 _ _ _ _ _ _ _ _).range Try.underlying193 rfl Try.partSize rfl ⟨below4 _ _ _ _ _, rfl⟩
  · go_enter Try.func119, Try.ntmps119
    go_wp2_with fail
    exact ret_cell1 Try.results119 (w.heap.size + 1 + 1) 0 _ _ rfl (Three.new3 _ _ _ _ _ _ _ _).range Try.underlying193 rfl Try.partSize rfl ⟨below4 _ _ _ _ _, rfl⟩
  · go_enter Try.func119, Try.ntmps119
    go_wp2_with fail
    exact ret_cell1 Try.results119 (w.heap.size + 1 + 1) 0 _ _ rfl (Three.new3 _ _ _ _ _ _ _ _).range Try.underlying193 rfl Try.partSize rfl ⟨below4 _ _ _ _ _, rfl⟩
  · go_enter Try.func119, Try.ntmps119
    go_wp2_with fail
    exact ret_cell1 Try.results119 (w.heap.size + 1 + 1) 0 _ _ rfl (Three.new3 _ _ _ _ _ _ _ _).range Try.underlying193 rfl Try.partSize rfl ⟨below4 _ _ _ _ _, rfl⟩

end Go.Proofs.Ytgjgjgihceijnaa

/- places.find: a walk. -/
namespace Go.Stn
/-- Where a number stands in a list; the list's length, if nowhere. -/
def findP : List Int → Int → Nat
  | [], _ => 0
  | a :: r, x => if a = x then 0 else findP r x + 1
theorem findP_at {l : List Int} {x : Int} {k : Nat} (h : l[k]? = some x) : findP (l.drop k) x = 0 := by
  have e : l.drop k = x :: l.drop (k + 1) := by
    obtain ⟨hk, he⟩ := List.getElem?_eq_some_iff.1 h
    rw [List.drop_eq_getElem_cons hk, he]
  rw [e, findP, if_pos rfl]
theorem findP_ne {l : List Int} {a x : Int} {k : Nat} (h : l[k]? = some a) (hne : a ≠ x) : findP (l.drop k) x = findP (l.drop (k + 1)) x + 1 := by
  have e : l.drop k = a :: l.drop (k + 1) := by
    obtain ⟨hk, he⟩ := List.getElem?_eq_some_iff.1 h
    rw [List.drop_eq_getElem_cons hk, he]
  rw [e, findP, if_neg hne]
def intsC (l : List Int) : List Value := l.map fun x => .int .i64 x
/-- A row of numbers that can be read. -/
structure Row1 (w : World) (v : Value) (l : List Int) : Prop where
  sh : (v = .slice none 0 0 ∧ l = []) ∨ ∃ g cap, v = .slice (some ⟨g, 0, none⟩) l.length cap ∧ l.length ≤ cap ∧ cap ≤ maxLen ∧ ∀ k x, l[k]? = some x → w.cell? ⟨g, k, none⟩ = some (.int .i64 x)
end Go.Stn
namespace Go.Proofs.Ytgjgjgihceijnaa
open Go.RowKit Go.Stn

set_option maxRecDepth 100000 in
theorem pfind_any (l : List Int) (v : Value) (x : Int) (w : World) (hl : l.length ≤ 1000000) (hr : Row1 w v l) :
    Calls Try.prog 60 #[v, .int .i64 x] w fun e w' => w' = w ∧ e = .returned (.int .i64 (findP l x : Int)) := by
  rcases hr.sh with ⟨rfl, rfl⟩ | ⟨g, cap, rfl, h1, h2, hcells⟩
  · go_enter Try.func60, Try.ntmps60
    go_wp2_with fail
    go_loop [9] (fun i => i = .int .i64 0) (fun _ => 0)
    case atStart => rfl
    case round =>
      subst hrel
      go_wp2
      go_ret
      exact ⟨rfl, rfl⟩
  · have HC := hidK hcells
    clear hcells hr
    go_enter Try.func60, Try.ntmps60
    go_wp2_with fail
    go_loop [9] (fun i => ∃ k : Nat, k ≤ l.length ∧ i = .int .i64 (k : Int) ∧ k + findP (l.drop k) x = findP l x) (fun i => l.length - (intOf i).toNat)
    case atStart => exact ⟨0, Nat.zero_le _, rfl, by simp⟩
    case round =>
      obtain ⟨k, hk, rfl, hall⟩ := hrel
      have HA := hidK hall
      clear hall
      by_cases hlt : k < l.length
      · obtain ⟨a, hu⟩ : ∃ u, l[k]? = some u := ⟨_, List.getElem?_eq_getElem hlt⟩
        have k0 := HC.out k _ hu
        by_cases he : a = x
        · have HE : Hid (findP l x = k) := by unfold Hid; rw [← HA.out, findP_at (by rw [hu, he])]; rfl
          have hb : (a == x) = true := beq_iff_eq.2 he
          clear hu he
          go_wp2
          go_ret
          exact ⟨rfl, by rw [HE.out]; rfl⟩
        · have HN : Hid (k + 1 + findP (l.drop (k + 1)) x = findP l x) := by unfold Hid; rw [← HA.out, findP_ne hu he]; omega
          have hb : (a == x) = false := beq_eq_false_iff_ne.2 he
          clear hu he
          go_wp2
          go_round
          case rel => exact ⟨k + 1, by omega, by simp, HN.out⟩
          case measure => simp [intOf]; omega
      · have e : k = l.length := by omega
        have HE : Hid (findP l x = l.length) := by unfold Hid; rw [← HA.out, e, List.drop_length]; rfl
        clear HA
        subst e
        go_wp2
        go_ret
        exact ⟨rfl, by rw [HE.out]; rfl⟩
end Go.Proofs.Ytgjgjgihceijnaa

/- (*places.Net).Behind, lead, Token: walks. -/
namespace Go.Stn
/-- Where a text may go on behind the places. -/
def behK (next : Nat → Int) (pl : Int) : Nat → Int
  | 0 => 0
  | k + 1 => if andI pl (pow2 k) = 0 then behK next pl k else orI (behK next pl k) (next k)
def behP (next : Nat → Int) (pl : Int) : Int := behK next pl 10
end Go.Stn
namespace Go.Proofs.Ytgjgjgihceijnaa
open Go.RowKit Go.Stn

/-- A net in memory. -/
structure NetAt (w : World) (nb : Nat) (vf vl : Value) (next : Nat → Int) : Prop where
  c0 : w.cell? ⟨nb, 0, none⟩ = some vf
  c1 : w.cell? ⟨nb, 1, none⟩ = some vl
  nx : ∀ k, k < 10 → w.cell? ⟨nb, 2 + k, none⟩ = some (.int .i64 (next k))
  fz : ∀ i, w.frozen? ⟨nb, i, none⟩ = false

set_option maxRecDepth 100000 in
theorem pbehind_any (next : Nat → Int) (pl : Int) (nb : Nat) (vf vl : Value) (w : World) (h : NetAt w nb vf vl next) :
    Calls Try.prog 93 #[.pointer (some ⟨nb, 0, none⟩), .int .i64 pl] w fun e w' => w' = w ∧ e = .returned (.int .i64 (behP next pl)) := by
  have HN := hidK h.nx
  clear h
  go_enter Try.func93, Try.ntmps93
  go_wp2_with fail
  go_loop [5, 7] (fun x i => ∃ k : Nat, k ≤ 10 ∧ i = .int .i64 (k : Int) ∧ x = .int .i64 (behK next pl k)) (fun _ i => 10 - (intOf i).toNat)
  case atStart => exact ⟨0, Nat.zero_le _, rfl, rfl⟩
  case round =>
    obtain ⟨k, hk, rfl, rfl⟩ := hrel
    by_cases hlt : k < 10
    · have HS : Hid (behK next pl (k + 1) = if andI pl (pow2 k) = 0 then behK next pl k else orI (behK next pl k) (next k)) := rfl
      have hc := HN.out k hlt
      have hkI : (k : Int) < 10 := by omega
      generalize behK next pl k = acc at *
      go_wp2_with fail
      refine (psingle_any k (by omega) _).mono ?_
      rintro e w1 ⟨rfl, rfl⟩
      by_cases hz : andI pl (pow2 k) = 0
      · have HE : Hid (behK next pl (k + 1) = acc) := HS.out.trans (if_pos hz)
        have hz' : (bits .and .i64 pl (pow2 k) != 0) = false := by rw [show bits .and .i64 pl (pow2 k) = 0 from hz]; rfl
        clear hz HS
        go_wp2
        go_round
        case rel => exact ⟨k + 1, by omega, by simp, by rw [HE.out]⟩
        case measure => simp [intOf]; omega
      · have HE : Hid (behK next pl (k + 1) = orI acc (next k)) := HS.out.trans (if_neg hz)
        have hz' : (bits .and .i64 pl (pow2 k) != 0) = true := bne_iff_ne.2 hz
        clear hz HS
        go_wp2
        go_round
        case rel => exact ⟨k + 1, by omega, by simp, by rw [HE.out]; rfl⟩
        case measure => simp [intOf]; omega
    · have e : k = 10 := by omega
      subst e
      go_wp2
      go_ret
      exact ⟨rfl, rfl⟩
end Go.Proofs.Ytgjgjgihceijnaa

/- (*places.Net).lead: a walk. -/
namespace Go.Stn
/-- The net in which each place of dst may come behind each of from, for the places below k. -/
def leadK (next : Nat → Int) (fr dst : Int) (k : Nat) : Nat → Int := fun i => if i < k ∧ andI fr (pow2 i) ≠ 0 then orI (next i) dst else next i
def nleadP (next : Nat → Int) (fr dst : Int) : Nat → Int := leadK next fr dst 10
theorem leadK_self (next : Nat → Int) (fr dst : Int) (k : Nat) : leadK next fr dst k k = next k := by unfold leadK; rw [if_neg (by omega)]
theorem leadK_no {next : Nat → Int} {fr dst : Int} {k : Nat} (h : andI fr (pow2 k) = 0) : leadK next fr dst (k + 1) = leadK next fr dst k := by
  funext i
  unfold leadK
  by_cases e : i = k
  · subst e; rw [if_neg (by simp [h]), if_neg (by omega)]
  · by_cases hi : i < k
    · simp [hi, show i < k + 1 by omega]
    · simp [hi, show ¬ i < k + 1 by omega]
theorem leadK_yes {next : Nat → Int} {fr dst : Int} {k : Nat} (h : andI fr (pow2 k) ≠ 0) (i : Nat) : leadK next fr dst (k + 1) i = if i = k then orI (next k) dst else leadK next fr dst k i := by
  unfold leadK
  by_cases e : i = k
  · subst e; rw [if_pos ⟨by omega, h⟩, if_pos rfl]
  · rw [if_neg e]
    by_cases hi : i < k
    · simp [hi, show i < k + 1 by omega]
    · simp [hi, show ¬ i < k + 1 by omega]
end Go.Stn
namespace Go.Proofs.Ytgjgjgihceijnaa
open Go.RowKit Go.Stn

theorem NetAt.set {w : World} {nb : Nat} {vf vl : Value} {next next' : Nat → Int} (h : NetAt w nb vf vl next) (k : Nat) (hk : k < 10) (v : Int) (hn : ∀ i, next' i = if i = k then v else next i) : NetAt (w.setCell ⟨nb, 2 + k, none⟩ (.int .i64 v)) nb vf vl next' := by
  refine ⟨?_, ?_, fun i hi => ?_, fun i => by rw [World.frozen?_setCell]; exact h.fz i⟩
  · rw [World.cell?_setCell_other (h := by intro e; injection e; omega)]; exact h.c0
  · rw [World.cell?_setCell_other (h := by intro e; injection e; omega)]; exact h.c1
  · rw [hn i]
    by_cases e : i = k
    · subst e; rw [if_pos rfl, World.cell?_setCell_same' _ _ _ (by rw [h.nx i hi]; rfl)]
    · rw [if_neg e, World.cell?_setCell_other (h := by intro e; injection e; omega)]; exact h.nx i hi

theorem NetAt.drew {w : World} {nb : Nat} {vf vl : Value} {next : Nat → Int} (h : NetAt w nb vf vl next) : NetAt w.drew nb vf vl next := ⟨h.c0, h.c1, h.nx, h.fz⟩
theorem grown_drew1 {a w : World} {r : Option Nat} (h : a.grownBy w r) : a.grownBy w.drew r := ⟨h.os, h.tape, h.output, h.size, h.block⟩

set_option maxRecDepth 100000 in
theorem plead_any (next : Nat → Int) (fr dst : Int) (nb : Nat) (vf vl : Value) (w : World) (h : NetAt w nb vf vl next) :
    Calls Try.prog 118 #[.pointer (some ⟨nb, 0, none⟩), .int .i64 fr, .int .i64 dst] w fun e w' => w.grownBy w' (some nb) ∧ NetAt w' nb vf vl (nleadP next fr dst) ∧ e = .returned (.tuple #[]) := by
  have HN := hidK h
  clear h
  go_enter Try.func118, Try.ntmps118
  go_wp2_with fail
  go_loopw [7] (fun i wr => ∃ k : Nat, k ≤ 10 ∧ i = .int .i64 (k : Int) ∧ w.grownBy wr (some nb) ∧ NetAt wr nb vf vl (leadK next fr dst k)) (fun i _ => 10 - (intOf i).toNat)
  case atStart => exact ⟨0, Nat.zero_le _, rfl, World.grownBy.refl _ _, by have e : leadK next fr dst 0 = next := by (funext i; unfold leadK; simp)
                                                                           rw [e]; exact HN.out⟩
  case round =>
    obtain ⟨k, hk, rfl, hg, hn⟩ := hrel
    have HG := hidK hg
    have HA := hidK hn
    clear hg hn HN
    by_cases hlt : k < 10
    · have hc := HA.out.nx k hlt
      rw [leadK_self] at hc
      have hz := HA.out.fz (2 + k)
      have hkI : (k : Int) < 10 := by omega
      go_wp2_with fail
      refine (psingle_any k (by omega) _).mono ?_
      rintro e w1 ⟨rfl, rfl⟩
      by_cases hz0 : andI fr (pow2 k) = 0
      · have HE := hidK (leadK_no (next := next) (dst := dst) hz0)
        have hz' : (bits .and .i64 fr (pow2 k) != 0) = false := by rw [show bits .and .i64 fr (pow2 k) = 0 from hz0]; rfl
        clear hz0
        go_wp2
        go_roundw
        case rel => exact ⟨k + 1, by omega, by simp, HG.out, by rw [HE.out]; exact HA.out⟩
        case measure => simp [intOf]; omega
      · have HE := hidK (leadK_yes (next := next) (dst := dst) hz0)
        have hz' : (bits .and .i64 fr (pow2 k) != 0) = true := bne_iff_ne.2 hz0
        clear hz0
        go_wp2
        go_region
        all_goals
          go_wp2
          go_roundw
          case rel => exact ⟨k + 1, by omega, by simp, grown_set (grown_drew1 HG.out) _ _, HA.out.drew.set k hlt _ HE.out⟩
          case measure => simp [intOf]; omega
    · have e : k = 10 := by omega
      subst e
      go_wp2
      go_end0
      exact ⟨HG.out, HA.out, rfl⟩
end Go.Proofs.Ytgjgjgihceijnaa

