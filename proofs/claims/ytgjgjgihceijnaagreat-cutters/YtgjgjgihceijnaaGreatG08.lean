/- Texts put together: CzCame, CzRef, CzTwin, CkSmall, CzOpened, CzCameW, ScSame, CzNextW, CzPick. -/
import Derived.Test.YtgjgjgihceijnaaGreatG07
import Derived.Deep.AppendSrc
import Derived.Deep.RegionLaw
import Derived.Deep.DrawnRows
import Derived.Test.YtgjgjgihceijnaaGreatG04
import Derived.BigQuiet
import Derived.Test.YtgjgjgihceijnaaGreatG03
import Derived.Test.YtgjgjgihceijnaaGreatChecked
import Derived.WalkKit
import Derived.WalkSpells
import Derived.WalkLawsBesides
namespace Go.Proofs.YtgjgjgihceijnaaGreat
open Go.RowKit Go.Stn
theorem Tryz.infoTokL : (Tryz.prog.info? 29).map (fun i => (i.zero, i.size, i.bytes)) = some (some (.slice none 0 0), 1, 24) := by kernel_rfl
theorem below_push {w w4 : World} {o : Obj} {row : Option Nat} {B : Nat} (hgr : (w.alloc o).grownBy w4 row) (hr : ∀ k, row = some k → B ≤ k) (hB : B ≤ w.heap.size) : Below B w w4 := by
  have hz := hgr.size
  have ez : (w.alloc o).heap.size = w.heap.size + 1 := by simp
  exact ⟨hgr.os, hgr.tape, hgr.output, by omega, fun k hk => (hgr.block k (by omega) (fun e => by have := hr k e.symm; omega)).trans (Below.heap_alloc w o k (by omega))⟩
variable {B p q : Nat} {w w' : World} {O : Nat → Nat} {cs : List TwK} {vb : Nat → Value} {bc : Nat → List Value} {T : Nat → List (Int × Int × Int)}
theorem PI.setT (h : PI B p w O cs vb bc q T) {T' : Nat → List (Int × Int × Int)} (hT : ∀ j, j < (bc 5).length ∨ j < (bc 6).length → T' j = T j) : PI B p w O cs vb bc q T' :=
  ⟨h.wb, h.wz, h.wt, h.b0, h.bk, h.bt, h.mm, fun j v hj hv => by rw [hT j (.inl (List.getElem?_eq_some_iff.1 hv).1)]; exact h.wa j v hj hv, fun j v hj hv => by rw [hT j (.inr (List.getElem?_eq_some_iff.1 hv).1)]; exact h.we j v hj hv, h.cu, h.fr, h.cl⟩
/-- A free block is given a tag. -/
theorem PI.tag (h : PI B p w O cs vb bc q T) {v : Value} (t : Nat) (hv : ∀ k, v.ownBlock = some k → O k = 0 ∧ k < w.heap.size) : PI B p w (fun k => if v.ownBlock = some k then t else O k) cs vb bc q T :=
  h.keep (Nat.le_refl _) (fun k _ h0 => ⟨rfl, if_neg (fun e => h0 (hv k e).1)⟩) (fun k hk => by
    have : ¬ v.ownBlock = some k := fun e => by have := (hv k e).2; omega
    simp only [if_neg this]
    exact h.fr k hk)
/-- A list copied onto nothing. -/
theorem step_copyZ (w : World) {ops : Array Oper} {o : Oper} {a : Act} {K : Act → World → Prop} {Q : Exit → Act → World → Prop} {E : Prop} (hgd : o.guard = none) (x : Operand)
    (ho : o.op = .call { callee := .builtin .append, args := #[.const (.slice none 0 0), x], argTypes := #[29, 29] })
    (base : Nat) (v : Value) (n : Nat) (xs : List Value) (hx : a.eval x = v) (hown : w.ownsRow base 79 3 v n xs) (h1 : ∀ u ∈ xs, u.oneCell' = true) (hn : n ≤ 1000) (hb : base ≤ w.heap.size)
    (h : ∀ u w', w'.ownsRow base 79 3 u n xs → w.grownBy w' none → (∀ k, u.ownBlock = some k → w.heap.size ≤ k) → K (a.put o.dst u) w') :
    if Region.wanted o (yielded ops a.tmps) = true then Oper.wp Tryz.prog o a w K Q else E := by
  obtain ⟨i, hi, hz, hsize, hby⟩ := info_parts Tryz.infoToken
  have hlen := hown.1
  by_cases h0 : n = 0
  · subst h0
    have hw : Region.wanted o (yielded ops a.tmps) = true := by simp [Region.wanted, hgd]
    rw [if_pos hw]
    obtain ⟨va, vc, hv⟩ := rowSlice hown
    have hxs : xs = [] := List.length_eq_zero_iff.1 (by omega)
    subst hxs
    have hrun : (Builtin.append_ #[29, 29] o.type #[.slice none 0 0, v]).run Tryz.prog w = .ok (.slice none 0 0) w := by
      subst hv
      have hs : Src Tryz.prog i.size 29 (.slice va 0 vc) 0 [] w := by
        cases va with
        | none => exact Src.ofNil w Tryz.underlying29 vc
        | some ad => exact Src.ofSlice w Tryz.underlying29 ad 0 vc [] (by simp) (fun j u hu => by simp at hu) (fun u hu => by cases hu)
      have hc := hs.cells
      simp [Builtin.append_, run_underlying Tryz.underlying29, sizeOf, typeInfo, hi, hs.len, hc]
    unfold Oper.wp
    have he : a.eval (.const (.slice none 0 0)) = .slice none 0 0 := rfl
    simp [execOp, ho, resolve, invoke, builtin, he, hx, hrun, Result.andThen]
    exact h _ _ (World.ownsRow_nil _ _ _ _) (World.grownBy.refl _ _) (fun k hk => by simp [Value.ownBlock] at hk)
  · obtain ⟨g, cap, hv, hbg, hgz⟩ := hown.form (by omega)
    subst hv
    refine step_append_lies w hgd (.const (.slice none 0 0)) x 29 ho base 79 i _ 3 24 Tryz.underlying29 hi hz hsize hby rfl (by decide) (.slice none 0 0) 0 [] rfl (World.ownsRow_nil _ _ _ _) ⟨g, 0, none⟩ n cap xs hx hlen (fun j u hj => hown.cells rfl j u hj) h1 (by omega) (by unfold maxLen; omega) (by omega) hb w.heap.size rfl ?_
    intro g4 cap4 w4 ho4 hg4 hat hlt
    rw [Nat.zero_add, List.nil_append] at ho4
    rw [Nat.zero_add]
    refine h _ w4 ho4 hg4 (fun k hk => ?_)
    rcases hat with e | e
    · cases e
    · have : g4 = k := by simpa [Value.ownBlock] using hk
      omega
end Go.Proofs.YtgjgjgihceijnaaGreat

namespace Go.Stn
/-- What Next tells: the tokens, the word, the condition behind. -/
def nxT (s inp : ByteArray) (c : Nat) : List (Int × Int × Int) := if 300 < inp.size then [] else (cutP s inp c).1
def nxE (inp : ByteArray) : Int := if 300 < inp.size then 1 else 0
def nxC (s inp : ByteArray) (c : Nat) : Nat := if 300 < inp.size then c else (cutP s inp c).2.2
end Go.Stn
namespace Go.Proofs.YtgjgjgihceijnaaGreat
open Go.RowKit Go.Stn
/-- The program's Next. -/
theorem pnextZ {w : World} {cb lo : Nat} {s inp : ByteArray} {c bb vg vcap : Nat} {yb : Nat → Nat} {zb : Nat → Nat → Nat} (h : CT w cb lo s c bb vg vcap yb zb) :
    Calls Tryz.prog 92 #[.pointer (some ⟨cb, 0, none⟩), .string inp] w fun e w' => ∃ vt, e = .returned (.tuple #[vt, .int .i64 (nxE inp)]) ∧ w'.ownsRow w.heap.size 79 3 vt (nxT s inp c).length (cells3 (nxT s inp c)) ∧
      CT w' cb lo s (nxC s inp c) bb vg vcap yb zb ∧ w.grownBy w' (some cb) := by
  unfold nxT nxE nxC
  by_cases hl : 300 < inp.size
  · rw [if_pos hl, if_pos hl, if_pos hl]
    refine (pnext_long hl).mono ?_
    rintro e w' ⟨rfl, rfl⟩
    exact ⟨_, rfl, World.ownsRow_nil _ _ _ _, h, World.grownBy.refl _ _⟩
  · rw [if_neg hl, if_neg hl, if_neg hl]
    refine (pnext_any h (by omega)).mono ?_
    rintro e w' ⟨vt, rfl, hr, hc, hg⟩
    exact ⟨vt, rfl, hr, hc, hg⟩
theorem chk_ok {s : ByteArray} (h1 : s.size ≤ 120000) (h2 : imgOk s = true) : chk s = 0 := by unfold chk; rw [if_neg (by omega), if_pos h2]
theorem chk_no {s : ByteArray} (h : ¬ (s.size ≤ 120000 ∧ imgOk s = true)) : ((chk s : Int) != 0) = true := by
  rw [bne_iff_ne]
  unfold chk
  by_cases h1 : 120000 < s.size
  · rw [if_pos h1]; decide
  · rw [if_neg h1]
    rw [if_neg (fun hh => h ⟨by omega, hh⟩)]
    decide
set_option maxRecDepth 100000 in
set_option maxHeartbeats 1000000 in
theorem ropen_any (s : ByteArray) (w : World) (hs : s.size ≤ maxLen) :
    Calls Tryz.prog 91 #[.string s] w fun e w' => Below w.heap.size w w' ∧ ((¬ (s.size ≤ 120000 ∧ imgOk s = true) ∧ e = .returned (.tuple #[.pointer none, .int .i64 (chk s)])) ∨
      (s.size ≤ 120000 ∧ imgOk s = true ∧ ∃ rb ib g cap, e = .returned (.tuple #[.pointer (some ⟨rb, 0, none⟩), .int .i64 0]) ∧ RF w' rb w.heap.size ib g cap s 0)) := by
  by_cases hok : s.size ≤ 120000 ∧ imgOk s = true
  · obtain ⟨h1, h2⟩ := hok
    have hc := chk_ok h1 h2
    have hm := (img_head h2).2.2.1
    have HCK := hidZ hc
    go_enter Tryz.func91, Tryz.ntmps91
    go_wp2_with fail
    refine (check_any s _ hs).mono ?_
    rintro e w1 ⟨rfl, hb1⟩
    have HB1 := hidZ hb1
    rw [hc]
    clear hb1 hc
    go_wp2_with fail
    refine (parse_any s _ h1).mono ?_
    rintro e w2 ⟨v, rfl, hb2, himg⟩
    obtain ⟨rfl, va, vs, himg⟩ := himg h2
    have HB2 := hidZ (HB1.out.trans (hb2.mono HB1.out.size))
    have hz1 := HB1.out.size
    have hz2 := hb2.size
    obtain ⟨g, cap, hva, hbg, hgz⟩ := himg.ra.form (by omega)
    subst hva
    have hgl := himg.ra.lt g rfl
    have HRF : Hid (RF (w2.alloc (.cells #[.pointer (some ⟨w1.heap.size, 0, none⟩), .int .i64 0] 100)) w2.heap.size w.heap.size w1.heap.size g cap s 0) := by
      have hB : Below w2.heap.size w2 (w2.alloc (.cells #[.pointer (some ⟨w1.heap.size, 0, none⟩), .int .i64 0] 100)) := (Below.refl _ _).alloc (Nat.le_refl _) _
      have hbb : w1.heap.size < w2.heap.size := by have := himg.hb; have := himg.hz; omega
      refine ⟨⟨(hB.cell (p := ⟨w1.heap.size, 0, none⟩) hbb).trans himg.c0, (hB.cell (p := ⟨w1.heap.size, 3, none⟩) hbb).trans himg.c3, (hB.cell (p := ⟨w1.heap.size, 4, none⟩) hbb).trans himg.c4, (hB.cell (p := ⟨w1.heap.size, 5, none⟩) hbb).trans himg.c5, fun i hi => ?_, hbb, hgl.2⟩, (World.cell?_alloc_at _ _ _ 0 rfl).trans rfl, (World.cell?_alloc_at _ _ _ 1 rfl).trans rfl, ?_, by simp, ⟨hz1, by omega, by omega⟩⟩
      · refine (hB.cell (p := ⟨g, i, none⟩) hgl.2).trans ?_
        have := himg.ra.cells (g := g) rfl i (.int .i64 ((iAt s i + 1 : Nat) : Int)) (by unfold atRow; rw [List.getElem?_map, List.getElem?_range hi]; rfl)
        have hadd : (⟨g, 0, none⟩ : Addr).add i = ⟨g, i, none⟩ := by unfold Addr.add; split <;> simp_all
        rw [hadd] at this
        exact this
      · rw [World.frozen?_alloc_new]
    have HBF : Hid (Below w.heap.size w (w2.alloc (.cells #[.pointer (some ⟨w1.heap.size, 0, none⟩), .int .i64 0] 100))) := HB2.out.alloc HB2.out.size _
    clear himg hb2 hgl hz2
    rw [h2]
    go_wp2
    go_ret2
    exact ⟨HBF.out, .inr ⟨h1, h2, _, _, _, _, rfl, HRF.out⟩⟩
  · have hc := chk_no hok
    have HN := hidZ hok
    clear hok
    go_enter Tryz.func91, Tryz.ntmps91
    go_wp2_with fail
    refine (check_any s _ hs).mono ?_
    rintro e w1 ⟨rfl, hb1⟩
    have HB1 := hidZ hb1
    clear hb1
    go_wp2
    go_ret2
    exact ⟨HB1.out, .inl ⟨HN.out, rfl⟩⟩
set_option maxRecDepth 100000 in
set_option maxHeartbeats 1000000 in
theorem rnext_any {w : World} {rb lo ib g cap : Nat} {s inp : ByteArray} {c : Nat} (h : RF w rb lo ib g cap s c) (hi : imgOk s = true) (hs : s.size ≤ 120000) (hc : c < iM s) :
    Calls Tryz.prog 93 #[.pointer (some ⟨rb, 0, none⟩), .string inp] w fun e w' => ∃ vt, e = .returned (.tuple #[vt, .int .i64 (nxE inp)]) ∧ w'.ownsRow w.heap.size 79 3 vt (nxT s inp c).length (cells3 (nxT s inp c)) ∧
      RF w' rb lo ib g cap s (nxC s inp c) ∧ w.grownBy w' (some rb) := by
  by_cases hl : 300 < inp.size
  · have hd : decide ((300 : Int) < (inp.size : Int)) = true := by simp; omega
    have e1 : nxT s inp c = [] := by unfold nxT; rw [if_pos hl]
    have e2 : nxE inp = 1 := by unfold nxE; rw [if_pos hl]
    have e3 : nxC s inp c = c := by unfold nxC; rw [if_pos hl]
    rw [e1, e2, e3]
    clear e1 e2 e3 hl
    go_enter Tryz.func93, Tryz.ntmps93
    go_wp2
    go_ret2
    exact ⟨_, rfl, World.ownsRow_nil _ _ _ _, h, World.grownBy.refl _ _⟩
  · have hd : decide ((300 : Int) < (inp.size : Int)) = false := by simp; omega
    have hl2 : inp.size ≤ 300 := by omega
    have e1 : nxT s inp c = (cutP s inp c).1 := by unfold nxT; rw [if_neg hl]
    have e2 : nxE inp = 0 := by unfold nxE; rw [if_neg hl]
    have e3 : nxC s inp c = (cutP s inp c).2.2 := by unfold nxC; rw [if_neg hl]
    rw [e1, e2, e3]
    clear e1 e2 e3 hl
    have HF := hidZ h
    have c0 := h.c0
    have c1 := h.c1
    clear h
    go_enter Tryz.func93, Tryz.ntmps93
    go_upto_region 3 with fail
    go_region
    have hrd := (HF.out.rd.below (B' := w.heap.size) ((Below.refl w.heap.size w).alloc (Nat.le_refl _) (.cells #[.pointer (some ⟨ib, 0, none⟩), .string inp, .int .i64 (c : Int), .slice none 0 0, .int .i64 0, .slice none 0 0] 224)) (Nat.le_of_lt HF.out.b0)).drewN 1
    have hcut := ((CutAt.start w ib inp c).drewN 1).raise
    have HB0 : Hid (Below w.heap.size w ((w.alloc (.cells #[.pointer (some ⟨ib, 0, none⟩), .string inp, .int .i64 (c : Int), .slice none 0 0, .int .i64 0, .slice none 0 0] 224)).drewN 1)) := by
      have h := (Below.refl w.heap.size w).alloc (Nat.le_refl _) (.cells #[.pointer (some ⟨ib, 0, none⟩), .string inp, .int .i64 (c : Int), .slice none 0 0, .int .i64 0, .slice none 0 0] 224)
      exact ⟨h.os, h.tape, h.output, h.size, h.block⟩
    have hb0 := HF.out.b0
    clear c0 c1
    go_wp2_with fail
    refine (run_any s inp rb ib g cap c w.heap.size (w.heap.size + 1) (.slice none 0 0) (.slice none 0 0) _ hi hs hl2 hc hrd (Nat.le_of_lt hb0) hcut).mono ?_
    rintro e w2 ⟨rfl, hb2, hcc, H, vh, vt, hcut2⟩
    obtain ⟨c2, EC⟩ : ∃ x, (cutP s inp c).2.2 = x := ⟨_, rfl⟩
    obtain ⟨T, ET⟩ : ∃ x, (cutP s inp c).1 = x := ⟨_, rfl⟩
    rw [EC, ET] at hcut2
    replace EC := hidZ EC
    replace ET := hidZ ET
    have HB2 := hidZ (HB0.out.trans hb2)
    have k2 := hcut2.c2
    have k5 := hcut2.c5
    have HC2 := hidZ hcut2
    have HF2 := hidZ (HF.out.blocks (w' := w2) (fun k _ hk => HB2.out.block k (by omega)) HB2.out.size)
    have d1 := HF2.out.c1
    have f1 := HF2.out.fz
    have k5' : (w2.setCell ⟨rb, 1, none⟩ (.int .i64 (c2 : Int))).cell? ⟨w.heap.size, 5, none⟩ = some vt := by
      rw [World.cell?_setCell_other (h := by intro e; injection e; omega)]; exact k5
    have HRT : Hid ((w2.setCell ⟨rb, 1, none⟩ (.int .i64 (c2 : Int))).ownsRow w.heap.size 79 3 vt T.length (cells3 T)) := ownsRow_base (ownsRow_setCell_below HC2.out.rt (show rb < w.heap.size + 1 by omega) _) (Nat.le_succ _)
    have HFF : Hid (RF (w2.setCell ⟨rb, 1, none⟩ (.int .i64 (c2 : Int))) rb lo ib g cap s c2) := by
      have hk : ∀ k, k ≠ rb → (w2.setCell ⟨rb, 1, none⟩ (.int .i64 (c2 : Int))).heap[k]? = w2.heap[k]? := fun k hk => set_keep w2 rb 1 _ hk
      have hib := HF2.out.rd.hb
      have hg := HF2.out.rd.hg
      refine ⟨⟨(World.cell?_of_block (w := w2) (a := ⟨ib, 0, none⟩) (hk ib (by omega))).trans HF2.out.rd.c0, (World.cell?_of_block (w := w2) (a := ⟨ib, 3, none⟩) (hk ib (by omega))).trans HF2.out.rd.c3, (World.cell?_of_block (w := w2) (a := ⟨ib, 4, none⟩) (hk ib (by omega))).trans HF2.out.rd.c4, (World.cell?_of_block (w := w2) (a := ⟨ib, 5, none⟩) (hk ib (by omega))).trans HF2.out.rd.c5, fun i hi => (World.cell?_of_block (w := w2) (a := ⟨g, i, none⟩) (hk g (by omega))).trans (HF2.out.rd.at_ i hi), hib, hg⟩, ?_, World.cell?_setCell_same _ _ _ d1, by rw [World.frozen?_setCell]; exact f1, by simpa [World.setCell] using HF2.out.b0, HF2.out.b1⟩
      rw [World.cell?_setCell_other (h := by intro e; injection e; omega)]
      exact HF2.out.c0
    have HGR : Hid (w.grownBy (w2.setCell ⟨rb, 1, none⟩ (.int .i64 (c2 : Int))) (some rb)) := by
      have h := (Below.refl 0 w2).setCell (p := ⟨rb, 1, none⟩) (Nat.zero_le _) (.int .i64 (c2 : Int))
      refine ⟨h.os.trans HB2.out.os, h.tape.trans HB2.out.tape, h.output.trans HB2.out.output, by simpa [World.setCell] using HB2.out.size, fun k hk hne => (set_keep w2 rb 1 _ (fun e => hne (by rw [e]))).trans (HB2.out.block k hk)⟩
    clear hrd hcut hcut2 hb2 HC2 HB0 HB2 HF HF2
    go_wp2
    go_ret2
    exact ⟨vt, rfl, by rw [ET.out]; exact HRT.out, by rw [EC.out]; exact HFF.out, HGR.out⟩
end Go.Proofs.YtgjgjgihceijnaaGreat

namespace Go.Proofs.YtgjgjgihceijnaaGreat
open Go.RowKit Go.Stn
variable {B p q : Nat} {w w' : World} {O : Nat → Nat} {cs : List TwK} {vb : Nat → Value} {bc : Nat → List Value} {T : Nat → List (Int × Int × Int)}
theorem twC_app (l : List TwK) (t : TwK) : twC (l ++ [t]) = twC l ++ t.cells := by unfold twC; simp
theorem twC_get : ∀ (l : List TwK) (j : Nat) (t : TwK), l[j]? = some t → (twC l)[j * 2]? = some (.pointer (some ⟨t.cb, 0, none⟩)) ∧ (twC l)[j * 2 + 1]? = some (.pointer (some ⟨t.rb, 0, none⟩))
  | [], j, t, h => by simp at h
  | x :: l, 0, t, h => by
    have e : x = t := by simpa using h
    subst e
    exact ⟨rfl, rfl⟩
  | x :: l, j + 1, t, h => by
    have := twC_get l j t (by simpa using h)
    have e : twC (x :: l) = .pointer (some ⟨x.cb, 0, none⟩) :: .pointer (some ⟨x.rb, 0, none⟩) :: twC l := rfl
    rw [e, show (j + 1) * 2 = j * 2 + 1 + 1 by omega]
    exact ⟨by simpa using this.1, by rw [show j * 2 + 1 + 1 + 1 = (j * 2 + 1) + 1 + 1 by omega]; simpa using this.2⟩
theorem twC_set : ∀ (l : List TwK) (j : Nat) (t t' : TwK), l[j]? = some t → t'.cells = t.cells → twC (l.set j t') = twC l
  | [], j, t, t', h, _ => by simp at h
  | x :: l, 0, t, t', h, e => by
    have e2 : x = t := by simpa using h
    subst e2
    show t'.cells ++ twC l = x.cells ++ twC l
    rw [e]
  | x :: l, j + 1, t, t', h, e => by
    show x.cells ++ twC (l.set j t') = x.cells ++ twC l
    rw [twC_set l j t t' (by simpa using h) e]
/-- One twin more. -/
theorem PI.pushT (h : PI B p w O cs vb bc q T) {w4 : World} {o : Obj} {g cap n : Nat} {t : TwK} {v0 : Value} (hn : cs.length = n) (hv0 : vb 0 = v0)
    (hown : w4.ownsRow (B + 1) 96 2 (.slice (some ⟨g, 0, none⟩) (n + 1) cap) (n + 1) (twC cs ++ t.cells))
    (hgr : (w.alloc o).grownBy w4 v0.ownBlock) (hat : v0.ownBlock = some g ∨ g = w.heap.size + 1) (ht : TW w O n t) (htl : B < t.lo ∧ B < t.lo2) :
    PI B p (w4.setCell ⟨B, 0, none⟩ (.slice (some ⟨g, 0, none⟩) (n + 1) cap)) (fun k => if k = g then 2 else O k) (cs ++ [t]) (upd vb 0 (.slice (some ⟨g, 0, none⟩) (n + 1) cap)) bc q T := by
  subst hn hv0
  obtain ⟨o1, b1⟩ := h.wt
  have hsz := hgr.size
  have ez : (w.alloc o).heap.size = w.heap.size + 1 := by simp
  have hg4 := (hown.lt g rfl).2
  have hz5 : (w4.setCell ⟨B, 0, none⟩ (.slice (some ⟨g, 0, none⟩) (cs.length + 1) cap)).heap.size = w4.heap.size := by simp [World.setCell]
  have hog : g < w.heap.size → O g = 2 := fun hg => by
    rcases hat with e | e
    · exact h.bt 0 g (by omega) e
    · omega
  have keep : ∀ k, k < w.heap.size → O k ≠ 1 → O k ≠ 2 → (w4.setCell ⟨B, 0, none⟩ (.slice (some ⟨g, 0, none⟩) (cs.length + 1) cap)).heap[k]? = w.heap[k]? ∧ (if k = g then 2 else O k) = O k := fun k hk hn1 hn2 => by
    have hkB : k ≠ B := fun e => hn1 (by rw [e]; exact o1)
    have hkg : k ≠ g := fun e => hn2 (by rw [e]; exact hog (by omega))
    refine ⟨(set_keep w4 B 0 _ hkB).trans ((hgr.block k (by omega) (fun e => hn2 (h.bt 0 k (by omega) e.symm))).trans (Below.heap_alloc w o k hk)), if_neg hkg⟩
  have hB4 : w4.heap[B]? = w.heap[B]? := (hgr.block B (by omega) (fun e => by have := h.bt 0 B (by omega) e.symm; omega)).trans (Below.heap_alloc w o B b1)
  have hgB : g ≠ B := by have := (hown.lt g rfl).1; omega
  refine ⟨fun f' hf' => ?_, fun i => by rw [World.frozen?_setCell]; exact (World.frozen?_of_block (w := w) (a := ⟨B, i, none⟩) hB4).trans (h.wz i), ⟨(if_neg (Ne.symm hgB)).trans o1, by omega⟩, ?_, fun f' a1 a2 => ?_, fun f' k hf' hk => ?_, fun f' i u a1 a2 hip hu => ?_, fun j u hj hu => ?_, fun j u hj hu => ?_, fun j t' hj => ?_, fun k hk => ?_, fun j t' hj => ?_⟩
  · by_cases e : f' = 0
    · subst e
      rw [upd_same]
      exact World.cell?_setCell_same _ _ _ ((World.cell?_of_block (w := w) (a := ⟨B, 0, none⟩) hB4).trans (h.wb 0 hf'))
    · rw [upd_other _ _ e, World.cell?_setCell_other (h := by intro e'; injection e'; omega)]
      exact (World.cell?_of_block (w := w) (a := ⟨B, f', none⟩) hB4).trans (h.wb f' hf')
  · rw [upd_same, twC_app, List.length_append, List.length_singleton]
    exact ownsRow_setCell_below hown (show B < B + 1 by omega) _
  · rw [upd_other _ _ (by omega)]
    exact row_top (h.bk f' a1 a2) (fun k hk => (keep k (h.own a2 hk).2 (by have := h.bt f' k a2 hk; omega) (by have := h.bt f' k a2 hk; omega)).1)
  · by_cases e : f' = 0
    · subst e
      rw [upd_same] at hk
      have hk' : g = k := by simpa [Value.ownBlock] using hk
      rw [if_pos hk'.symm]
    · rw [upd_other _ _ e] at hk
      have := h.bt f' k hf' hk
      rw [(keep k (h.own hf' hk).2 (by omega) (by omega)).2]
      exact this
  · exact (h.mm f' i u a1 a2 hip hu).keep (by omega) (fun k hk ho => keep k hk (by omega) (by omega))
  · exact (h.wa j u hj hu).keep (fun k hk ho => keep k hk (by omega) (by omega))
  · exact (h.we j u hj hu).keep (fun k hk ho => keep k hk (by omega) (by omega))
  · have old : ∀ j u, TW w O j u → TW (w4.setCell ⟨B, 0, none⟩ (.slice (some ⟨g, 0, none⟩) (cs.length + 1) cap)) (fun k => if k = g then 2 else O k) j u := fun j u hu => hu.keep (by omega) (fun k hk ho => keep k hk (by omega) (by omega))
    by_cases hi : j < cs.length
    · rw [List.getElem?_append_left hi] at hj
      exact old j t' (h.cu j t' hj)
    · have hl := (List.getElem?_eq_some_iff.1 hj).1
      rw [List.length_append, List.length_singleton] at hl
      have ei : j = cs.length := by omega
      subst ei
      rw [List.getElem?_append_right (Nat.le_refl _), Nat.sub_self] at hj
      have eu : t = t' := by simpa using hj
      subst eu
      exact old _ _ ht
  · rw [if_neg (by omega)]
    exact h.fr k (by omega)
  · by_cases hi : j < cs.length
    · rw [List.getElem?_append_left hi] at hj
      exact h.cl j t' hj
    · have hl := (List.getElem?_eq_some_iff.1 hj).1
      rw [List.length_append, List.length_singleton] at hl
      have ei : j = cs.length := by omega
      subst ei
      rw [List.getElem?_append_right (Nat.le_refl _), Nat.sub_self] at hj
      have eu : t = t' := by simpa using hj
      subst eu
      exact htl
/-- A twin has gone on. -/
theorem PI.swap (h : PI B p w O cs vb bc q T) {j : Nat} {t t' : TwK} (hj : cs[j]? = some t) (hc : t'.cells = t.cells) (hz : w.heap.size ≤ w'.heap.size) (hB : ∀ k, k < w.heap.size → O k ≠ 0 → O k ≠ 19 + 4 * j → w'.heap[k]? = w.heap[k]?) (ht : TW w' O j t') (htl : t'.lo = t.lo ∧ t'.lo2 = t.lo2) : PI B p w' O (cs.set j t') vb bc q T := by
  have hB' : ∀ k, k < w.heap.size → O k ≠ 0 → O k ≠ 19 + 4 * j → w'.heap[k]? = w.heap[k]? ∧ O k = O k := fun k h1 h2 h3 => ⟨hB k h1 h2 h3, rfl⟩
  obtain ⟨o1, b1⟩ := h.wt
  have e1 := hB B b1 (by omega) (by omega)
  refine ⟨fun f hf => (World.cell?_of_block (w := w) (a := ⟨B, f, none⟩) e1).trans (h.wb f hf), fun i => (World.frozen?_of_block (w := w) (a := ⟨B, i, none⟩) e1).trans (h.wz i), ⟨o1, Nat.lt_of_lt_of_le b1 hz⟩, ?_,
    fun f h1 h2 => row_top (h.bk f h1 h2) (fun k hk => hB k (h.own h2 hk).2 (by have := h.bt f k h2 hk; omega) (by have := h.bt f k h2 hk; omega)), h.bt,
    fun f i v h1 h2 hi hv => (h.mm f i v h1 h2 hi hv).keep hz (fun k hk ho => hB' k hk (by omega) (by omega)),
    fun j' v hj' hv => (h.wa j' v hj' hv).keep (fun k hk ho => hB' k hk (by omega) (by omega)),
    fun j' v hj' hv => (h.we j' v hj' hv).keep (fun k hk ho => hB' k hk (by omega) (by omega)), fun i u hi => ?_, fun k hk => h.fr k (Nat.le_trans hz hk), fun i u hi => ?_⟩
  · rw [List.length_set, twC_set cs j t t' hj hc]
    exact row_top h.b0 (fun k hk => hB k (h.own (by omega) hk).2 (by have := h.bt 0 k (by omega) hk; omega) (by have := h.bt 0 k (by omega) hk; omega))
  · by_cases e : i = j
    · subst e
      rw [List.getElem?_set_self (List.getElem?_eq_some_iff.1 hj).1] at hi
      have eu : t' = u := by simpa using hi
      subst eu
      exact ht
    · rw [List.getElem?_set_ne (fun e' => e e'.symm)] at hi
      exact (h.cu i u hi).keep hz (fun k hk ho => hB' k hk (by omega) (by omega))
  · by_cases e : i = j
    · subst e
      rw [List.getElem?_set_self (List.getElem?_eq_some_iff.1 hj).1] at hi
      have eu : t' = u := by simpa using hi
      subst eu
      rw [htl.1, htl.2]
      exact h.cl i t hj
    · rw [List.getElem?_set_ne (fun e' => e e'.symm)] at hi
      exact h.cl i u hi
/-- Blocks that are new are a twin's. -/
theorem PI.tagI (h : PI B p w O cs vb bc q T) {lo : Nat} (t : Nat) (hlo : ∀ k, lo ≤ k → O k = 0) : PI B p w (fun k => if lo ≤ k ∧ k < w.heap.size then t else O k) cs vb bc q T :=
  h.keep (Nat.le_refl _) (fun k _ h0 => ⟨rfl, if_neg (fun e => h0 (hlo k e.1))⟩) (fun k hk => by
    have : ¬ (lo ≤ k ∧ k < w.heap.size) := fun e => by omega
    simp only [if_neg this]
    exact h.fr k hk)
end Go.Proofs.YtgjgjgihceijnaaGreat

namespace Go.Stn
/-- An image by hand. -/
def smallL : List UInt8 := [83, 84, 1, 1, 0, 1, 0] ++ List.replicate 256 0 ++ [1, 0, 0]
def SM : ByteArray := ⟨smallL.toArray⟩
def Zs : ByteArray := ⟨(List.replicate 256 (0 : UInt8)).toArray⟩
theorem small_cat : (⟨#[83, 84, 1, 1, 0, 1, 0]⟩ : ByteArray) ++ Zs ++ (⟨#[1, 0, 0]⟩ : ByteArray) = SM := by decide +kernel
theorem small_size : SM.size = 266 := by decide +kernel
end Go.Stn
namespace Go.Proofs.YtgjgjgihceijnaaGreat
open Go.RowKit Go.Stn

theorem Tryz.infoByte : (Tryz.prog.info? 5).map (fun i => (i.zero, i.size, i.bytes)) = some (some (.int .u8 0), 1, 1) := by kernel_rfl

theorem made_n (n : Nat) : (madeCells (Value.int .u8 0).cells (n * 1)).toList = (List.replicate n (0 : UInt8)).map (fun b => Value.int .u8 (b.toNat : Int)) := by
  have h : ∀ i : Nat, (Value.int .u8 0).cells[i % (Value.int .u8 0).cells.size]! = Value.int .u8 0 := by
    intro i
    have e : i % (Value.int .u8 0).cells.size = 0 := by simp [Value.cells, Nat.mod_one]
    rw [e]; simp [Value.cells]
  unfold madeCells
  rw [Nat.mul_one]
  simp only [h, Array.toList_map, Array.toList_range]
  rw [List.map_replicate, List.eq_replicate_iff]
  exact ⟨by simp, by intro b hb; simp at hb; exact hb.2.symm⟩
theorem made256 : (madeCells (Value.int .u8 0).cells (256 * 1)).toList = (List.replicate 256 (0 : UInt8)).map (fun b => Value.int .u8 (b.toNat : Int)) := made_n 256

theorem zs_conv (w1 : World) (B base : Nat) (hown : w1.ownsRow base 5 1 (.slice (some ⟨B, 0, none⟩) 256 256) 256 (madeCells (Value.int .u8 0).cells (256 * 1)).toList) :
    (convert 116 9 (.slice (some ⟨B, 0, none⟩) 256 256)).run Tryz.prog w1 = .ok (.string Zs) w1 := by
  have h := run_convert_bytes_back (P := Tryz.prog) w1 116 9 5 ⟨B, 0, none⟩ 256 (List.replicate 256 (0 : UInt8)) Tryz.underlying116 Tryz.underlying5 Tryz.underlying9 (fun j hj => by
    refine hown.cells (g := B) rfl j _ ?_
    rw [made256, List.getElem?_map, List.getElem?_eq_getElem hj]; rfl)
  rw [List.length_replicate] at h
  exact h

set_option maxRecDepth 100000 in
set_option maxHeartbeats 400000 in
theorem small_any (w : World) : Calls Tryz.prog 28 #[] w fun e w' => e = .returned (.string SM) ∧ Below w.heap.size w w' := by
  obtain ⟨i0, hi, hz0, hz1, hz2⟩ := info_parts Tryz.infoByte
  have HI : Hid (Tryz.prog.info? 5 = some i0 ∧ i0.zero = some (.int .u8 0) ∧ i0.size = 1 ∧ i0.bytes = 1) := ⟨hi, hz0, hz1, hz2⟩
  clear hi hz0 hz1 hz2
  go_enter Tryz.func28, Tryz.ntmps28
  go_wp2_with (at_make; refine wpList_make_full w rfl _ _ 116 rfl w.heap.size 5 i0 (.int .u8 0) 1 Tryz.underlying116 HI.out.1 HI.out.2.1 HI.out.2.2.1 .i64 .i64 256 256 256 rfl rfl rfl rfl (by rw [HI.out.2.2.2]; decide) (by unfold maxLen; omega) (Nat.le_refl _) ?_; intro w1 hown hg; have hcv := zs_conv w1 _ _ hown; clear hown)
  go_ret
  refine ⟨?_, (Below.refl _ _).grown hg (Nat.le_refl _) (fun k hk => by cases hk)⟩
  rw [← small_cat]; rfl

theorem num_any (x : Int) (w : World) : Calls Tryz.prog 9 #[.int .i64 x] w fun e w' => e = .returned (.int .i64 x) ∧ w' = w := by
  go_enter Tryz.func9, Tryz.ntmps9
  go_wp2
  go_ret
  exact ⟨rfl, rfl⟩
end Go.Proofs.YtgjgjgihceijnaaGreat

namespace Go.Proofs.YtgjgjgihceijnaaGreat
open Go.RowKit Go.Stn
theorem Tryz.infoTwin : (Tryz.prog.info? 96).map (fun i => (i.zero, i.size, i.bytes)) = some (some (.agg #[.pointer none, .pointer none]), 2, 16) := by kernel_rfl
/-- What opened comes to. -/
def OpenedAt (B p q : Nat) (w : World) (cs : List TwK) (bc : Nat → List Value) (T : Nat → List (Int × Int × Int)) (e : Ending) (w' : World) : Prop :=
  e = .returned (.bool true) ∧ ∃ O' cs' vb', PI B p w' O' cs' vb' bc q T ∧ cs'.length ≤ cs.length + 1 ∧ Below B w w'
set_option maxRecDepth 100000 in
set_option maxHeartbeats 2000000 in
theorem kopened_any {B p q : Nat} {w : World} {O : Nat → Nat} {cs : List TwK} {vb : Nat → Value} {bc : Nat → List Value} {T : Nat → List (Int × Int × Int)} (h : PI B p w O cs vb bc q T) (s : ByteArray) (hs : s.size ≤ maxLen) (hcs : cs.length ≤ 5864062014800) :
    Calls Tryz.prog 60 #[.pointer (some ⟨B, 0, none⟩), .string s] w (OpenedAt B p q w cs bc T) := by
  have hB1 := h.wt.2
  have HH := hidZ h
  clear h
  by_cases hok : s.size ≤ 120000 ∧ imgOk s = true
  · go_enter Tryz.func60, Tryz.ntmps60
    go_wp2_with fail
    refine (popen_any s _).mono ?_
    rintro e w1 ⟨hb1, ⟨hno, _⟩ | ⟨_, _, cb, bb, vg, vcap, yb, zb, rfl, hct⟩⟩
    · exact absurd hok hno
    have HB1 := hidZ hb1
    have HCT := hidZ hct
    clear hb1 hct
    go_wp2_with fail
    refine (ropen_any s _ hs).mono ?_
    rintro e w2 ⟨hb2, ⟨hno, _⟩ | ⟨_, _, rb, ib, g, cap, rfl, hrf⟩⟩
    · exact absurd hok hno
    have hz1 := HB1.out.size
    have hz2 := hb2.size
    have HB2 := hidZ (HB1.out.trans (hb2.mono hz1))
    have h2 := (HH.out.below HB2.out).tagI (lo := w.heap.size) (19 + 4 * cs.length) (fun k hk => HH.out.fr k hk)
    have hct2 := HCT.out.blocks (w' := w2) (fun k h1 h2 => hb2.block k (by have := HCT.out.b0; omega)) hz2
    have HTW : Hid (TW w2 (fun k => if w.heap.size ≤ k ∧ k < w2.heap.size then 19 + 4 * cs.length else O k) cs.length ⟨cb, w.heap.size, bb, vg, vcap, yb, zb, rb, w1.heap.size, ib, g, cap, s, 0⟩) :=
      ⟨hct2, hrf, fun k h1 h2 => if_pos ⟨h1, by have h2 : k ≤ cb := h2; have := hct2.b0; omega⟩, fun k h1 h2 => if_pos ⟨by have h1 : w1.heap.size ≤ k := h1; omega, by have h2 : k ≤ rb := h2; have := hrf.b0; omega⟩, HCT.out.b0⟩
    have HP2 := hidZ h2
    have hb0 := h2.b0
    have c0 := h2.wb 0 (by omega)
    have f0 := h2.wz 0
    obtain ⟨a0, k0, e0⟩ := rowSlice hb0
    obtain ⟨n, en⟩ : ∃ n, cs.length = n := ⟨_, rfl⟩
    rw [en] at e0 hb0 hcs
    rw [e0] at c0 hb0
    have HE0 := hidZ e0
    have HB0 := hidZ hb0
    have HL0 : Hid (∀ k, (Value.slice a0 n k0).ownBlock = some k → B + 1 ≤ k) := fun k hk => (HB0.out.lt k hk).1
    have HN := hidZ en
    have hBz : B < w2.heap.size := by omega
    clear h2 hct2 hrf hb2 hb0 e0 HH HCT en
    go_wp2_with (first
      | (go_at_call 9; refine (num_any 0 _).mono ?_; rintro e w3 ⟨rfl, hw3⟩; rw [hw3]; clear hw3)
      | (at_builtin; refine wpList_appL w2 rfl (.tmp 36) (.tmp 40) 88 rfl (B + 1) 96 (.agg #[.pointer none, .pointer none]) 2 16 Tryz.underlying88 Tryz.infoTwin rfl (by decide) (by decide) (.slice a0 n k0) n (twC cs) [.pointer (some ⟨cb, 0, none⟩), .pointer (some ⟨rb, 0, none⟩)] _ rfl HB0.out _ rfl rfl rfl (by simp [Value.oneCell']) (by omega) (by omega) ?_; intro g4 cap4 w4 hown4 hgrow4 hat4 hlt4; have m4 := ((grow_cell hgrow4 (k := B) hBz (fun e => by have := HL0.out B e.symm; omega)).1 0).trans c0; have n4 := ((grow_cell hgrow4 (k := B) hBz (fun e => by have := HL0.out B e.symm; omega)).2 0).trans f0; have HO4 := hidZ hown4; have HG4 := hidZ hgrow4; have HA4 := hidZ hat4; clear hown4 hgrow4 hat4))
    have HP4 := hidZ (HP2.out.pushT (t := ⟨cb, w.heap.size, bb, vg, vcap, yb, zb, rb, w1.heap.size, ib, g, cap, s, 0⟩) HN.out HE0.out HO4.out HG4.out HA4.out (by have := HTW.out; rw [HN.out] at this ⊢; exact this) ⟨hB1, by show B < w1.heap.size; omega⟩)
    have HB4 : Hid (Below B w (w4.setCell ⟨B, 0, none⟩ (.slice (some ⟨g4, 0, none⟩) (n + 1) cap4))) := ((HB2.out.mono (Nat.le_of_lt hB1)).trans (below_push HG4.out (fun k hk => Nat.le_trans (Nat.le_succ _) (HL0.out k hk)) (Nat.le_of_lt hBz))).setCell (p := ⟨B, 0, none⟩) (Nat.le_refl _) _
    clear c0 f0 m4 n4
    go_ret
    exact ⟨rfl, _, _, _, HP4.out, by rw [List.length_append, List.length_singleton]; exact Nat.le_refl _, HB4.out⟩
  · have hck := chk_no hok
    have HCK := hidZ hck
    go_enter Tryz.func60, Tryz.ntmps60
    go_wp2_with fail
    refine (popen_any s _).mono ?_
    rintro e w1 ⟨hb1, hcase⟩
    obtain ⟨_, rfl⟩ := hcase.resolve_right (fun h => hok ⟨h.1, h.2.1⟩)
    have HB1 := hidZ hb1
    clear hb1
    go_wp2_with fail
    refine (ropen_any s _ hs).mono ?_
    rintro e w2 ⟨hb2, hcase⟩
    obtain ⟨_, rfl⟩ := hcase.resolve_right (fun h => hok ⟨h.1, h.2.1⟩)
    have HB2 := hidZ (HB1.out.trans (hb2.mono HB1.out.size))
    have HP2 := hidZ (HH.out.below HB2.out)
    clear hb2 HB1
    generalize (chk s : Int) = ck at *
    go_wp2_with (first | (go_at_call 9; refine (num_any ck _).mono ?_; rintro e w3 ⟨rfl, hw3⟩; rw [hw3]; clear hw3))
    go_ret
    exact ⟨rfl, _, _, _, HP2.out, Nat.le_succ _, HB2.out.mono (Nat.le_of_lt hB1)⟩
end Go.Proofs.YtgjgjgihceijnaaGreat

namespace Go.Proofs.YtgjgjgihceijnaaGreat
open Go.RowKit Go.Stn
attribute [local go_sem ↓] Go.wp_at_zero Go.wp_at_succ
theorem PI.push' {B p q : Nat} {w : World} {O : Nat → Nat} {cs : List TwK} {vb : Nat → Value} {bc : Nat → List Value} {T : Nat → List (Int × Int × Int)} (h : PI B p w O cs vb bc q T) {f : Nat} (h1 : 1 ≤ f) (h2 : f < 7) {w4 : World} {o : Obj} {g cap n : Nat} {v vf : Value}
    (hn : (bc f).length = n) (hvf : vb f = vf) (hown : w4.ownsRow (B + 1) 29 1 (.slice (some ⟨g, 0, none⟩) (n + 1) cap) (n + 1) (bc f ++ [v]))
    (hgr : (w.alloc o).grownBy w4 vf.ownBlock) (hat : vf.ownBlock = some g ∨ g = w.heap.size + 1)
    (hm : f ≤ 4 → n < p → MK w O n v) (h5 : f = 5 → OT w O B (17 + 4 * n) v (T n)) (h6 : f = 6 → OT w O B (18 + 4 * n) v (T n)) :
    PI B p (w4.setCell ⟨B, f, none⟩ (.slice (some ⟨g, 0, none⟩) (n + 1) cap)) (fun k => if k = g then 2 + f else O k) cs (upd vb f (.slice (some ⟨g, 0, none⟩) (n + 1) cap)) (upd bc f (bc f ++ [v])) q T := by
  subst hn hvf
  exact h.push h1 h2 hown hgr hat hm (fun e => by subst e; exact h5 rfl) (fun e => by subst e; exact h6 rfl)
/-- What came comes to. -/
def CameAt (B p q : Nat) (w : World) (O : Nat → Nat) (v : Value) (cs : List TwK) (bc : Nat → List Value) (T : Nat → List (Int × Int × Int)) (L : List (Int × Int × Int)) (e : Ending) (w' : World) : Prop :=
  e = .returned (.tuple #[]) ∧ ∃ O' vb' bc', PI B p w' O' cs vb' bc' q (upd T (bc 5).length L) ∧ (∀ f, f ≤ 4 → bc' f = bc f) ∧ (bc' 5).length = (bc 5).length + 1 ∧ (bc' 6).length = (bc 5).length + 1 ∧ Below B w w' ∧ ∀ k, k < w.heap.size → O k = 0 → v.ownBlock ≠ some k → O' k = 0 ∧ w'.heap[k]? = w.heap[k]?
set_option maxRecDepth 100000 in
set_option maxHeartbeats 2000000 in
theorem kcame_any {B p q : Nat} {w : World} {O : Nat → Nat} {cs : List TwK} {vb : Nat → Value} {bc : Nat → List Value} {T : Nat → List (Int × Int × Int)} (h : PI B p w O cs vb bc q T) {v : Value} {L : List (Int × Int × Int)}
    (hv : w.ownsRow (B + 1) 79 3 v L.length (cells3 L)) (hfree : ∀ k, v.ownBlock = some k → O k = 0) (hL : L.length ≤ 1000) (hln : (bc 5).length = (bc 6).length) (hbd : (bc 5).length ≤ 5864062014800) (hq : q ≤ (bc 5).length) :
    Calls Tryz.prog 89 #[.pointer (some ⟨B, 0, none⟩), v] w (CameAt B p q w O v cs bc T L) := by
  obtain ⟨n5, en5⟩ : ∃ n, (bc 5).length = n := ⟨_, rfl⟩
  have hB1 := h.wt.2
  have h1 : PI B p w (fun k => if v.ownBlock = some k then 17 + 4 * n5 else O k) cs vb bc q (upd T n5 L) :=
    (h.tag (17 + 4 * n5) (fun k hk => ⟨hfree k hk, (hv.lt k hk).2⟩)).setT (fun j hj => upd_other _ _ (by omega))
  have hot : OT w (fun k => if v.ownBlock = some k then 17 + 4 * n5 else O k) B (17 + 4 * n5) v (upd T n5 L n5) := by
    rw [upd_same]
    exact ⟨hv, fun k hk => if_pos hk, hL⟩
  obtain ⟨va, vc, hve⟩ := rowSlice hv
  have HP1 := hidZ h1
  have HOT := hidZ hot
  have HQ := hidZ hq
  have hb5 := h1.bk 5 (by omega) (by omega)
  have c5 := h1.wb 5 (by omega)
  obtain ⟨a5, k5, e5⟩ := rowSlice hb5
  have hbl5 := fun k => h1.own (f := 5) (k := k) (by omega)
  rw [e5] at c5 hbl5 hb5
  rw [en5] at c5 hb5 hbl5
  have HE5 := hidZ e5
  have HN5 := hidZ en5
  have HB5 := hidZ hb5
  have HBL5 := hidZ hbl5
  have hn5 : n5 ≤ 5864062014800 := by omega
  have HE6 : Hid ((bc 6).length = n5) := by unfold Hid; omega
  subst hve
  clear h1 hot hq h hv hfree hb5 hbl5 en5 e5 hln hbd
  go_enter Tryz.func89, Tryz.ntmps89
  have f5 := HP1.out.wz 5
  go_upto_region 1 with (first
    | (at_builtin; refine wpList_appL w rfl (.tmp 8) (.tmp 10) 89 rfl (B + 1) 29 (.slice none 0 0) 1 24 Tryz.underlying89 Tryz.infoTokL rfl (by decide) (by decide) (.slice a5 n5 k5) n5 (bc 5) [.slice va L.length vc] _ rfl HB5.out _ rfl rfl rfl (by simp [Value.oneCell']) (by omega) (by omega) ?_; intro g4 cap4 w4 hown4 hgrow4 hat4 hlt4; have m5 := ((grow_cell hgrow4 (k := B) hB1 (fun e => by have := (HBL5.out B e.symm).1; omega)).1 5).trans c5; have n5f := ((grow_cell hgrow4 (k := B) hB1 (fun e => by have := (HBL5.out B e.symm).1; omega)).2 5).trans f5; have HO4 := hidZ hown4; have HG4 := hidZ hgrow4; have HA4 := hidZ hat4; clear hown4 hgrow4 hat4))
  have HP2 := hidZ (HP1.out.push' (f := 5) (by omega) (by omega) HN5.out (by rw [HE5.out, HN5.out]) HO4.out HG4.out HA4.out (fun e => absurd e (by omega)) (fun _ => HOT.out) (fun e => absurd e (by omega)))
  have HBB := hidZ ((below_push HG4.out (fun k hk => Nat.le_trans (Nat.le_succ _) (HBL5.out k hk).1) (Nat.le_of_lt hB1)).setCell (p := ⟨B, 5, none⟩) (Nat.le_refl _) (.slice (some ⟨g4, 0, none⟩) (n5 + 1) cap4))
  have HK5 : Hid (∀ k, k < w.heap.size → O k = 0 → (Value.slice va L.length vc).ownBlock ≠ some k → (w4.setCell ⟨B, 5, none⟩ (.slice (some ⟨g4, 0, none⟩) (n5 + 1) cap4)).heap[k]? = w.heap[k]? ∧ k ≠ g4 ∧ k ≠ B) := fun k hk ho hne => by
    have n1 : (Value.slice a5 n5 k5).ownBlock ≠ some k := fun e => by
      have := HP1.out.bt 5 k (by omega) (by rw [HE5.out, HN5.out]; exact e)
      simp only [if_neg hne] at this
      omega
    have n2 : k ≠ B := fun e => by
      have := HP1.out.wt.1
      rw [← e] at this
      simp only [if_neg hne] at this
      omega
    refine ⟨(set_keep w4 B 5 _ n2).trans ((HG4.out.block k (by simp; omega) (fun e => n1 e.symm)).trans (Below.heap_alloc w _ k hk)), fun e => ?_, n2⟩
    rcases HA4.out with e1 | e1
    · exact n1 (by rw [e]; exact e1)
    · omega
  have hz5 : w.heap.size ≤ (w4.setCell ⟨B, 5, none⟩ (.slice (some ⟨g4, 0, none⟩) (n5 + 1) cap4)).heap.size := HBB.out.size
  clear c5 f5 m5 n5f HO4 HG4 HA4 HP1 HOT HB5 HBL5 HE5
  generalize w4.setCell ⟨B, 5, none⟩ (.slice (some ⟨g4, 0, none⟩) (n5 + 1) cap4) = W5 at *
  have e26 : upd bc 5 (bc 5 ++ [.slice va L.length vc]) 6 = bc 6 := upd_other _ _ (by omega)
  have hv2 := HP2.out.wa n5 (.slice va L.length vc) (by have := HN5.out; have := HQ.out; omega) (by rw [upd_same, List.getElem?_append_right (by have := HN5.out; omega), HN5.out, Nat.sub_self]; rfl)
  rw [upd_same] at hv2
  have HV2 := hidZ hv2.ro
  have hb6 := HP2.out.bk 6 (by omega) (by omega)
  have c6 := HP2.out.wb 6 (by omega)
  have f6 := HP2.out.wz 6
  have hbl6 := fun k => HP2.out.own (f := 6) (k := k) (by omega)
  obtain ⟨a6, k6, e6⟩ := rowSlice hb6
  rw [e6] at c6 hb6 hbl6
  rw [e26, HE6.out] at c6 hb6 hbl6
  have HE66 := hidZ e6
  have HB6 := hidZ hb6
  have HBL6 := hidZ hbl6
  have hzB := HP2.out.wt.2
  have HE26 := hidZ e26
  clear hb6 hbl6 e6 hv2 e26
  go_region_law (first
    | (refine step_copyZ W5.drew rfl (.tmp 19) rfl (B + 1) (.slice va L.length vc) L.length (cells3 L) rfl HV2.out.drew (cells3_one L) hL (by show B + 1 ≤ W5.heap.size; omega) ?_; intro u w6 hu6 hg6 hb6; obtain ⟨ua, uc, hue⟩ := rowSlice hu6; subst hue; have HU6 := hidZ hu6; have HG6 := hidZ hg6; have HBU := hidZ hb6; have x6 := (World.cell?_of_block (w := W5) (a := ⟨B, 6, none⟩) (hg6.block B hzB (by simp))).trans c6; have y6 := (World.frozen?_of_block (w := W5) (a := ⟨B, 6, none⟩) (hg6.block B hzB (by simp))).trans f6; have hz6 : W5.heap.size ≤ w6.heap.size := hg6.size; have HR6 := hidZ (row_top (w' := w6) HB6.out (fun k hk => hg6.block k (HBL6.out k hk).2 (by simp))); have z6 : (w6.alloc (.cells #[.slice ua L.length uc] 29)).cell? ⟨B, 6, none⟩ = some (.slice a6 n5 k6) := (World.cell?_of_block (w := w6) (a := ⟨B, 6, none⟩) (Below.heap_alloc w6 _ B (show B < w6.heap.size by omega))).trans x6; clear hu6 hg6 hb6)
    | (refine step_appL w6 rfl (.tmp 18) (.tmp 21) 89 rfl (B + 1) 29 (.slice none 0 0) 1 24 Tryz.underlying89 Tryz.infoTokL rfl (by decide) (by decide) (.slice a6 n5 k6) n5 (bc 6) [.slice ua L.length uc] _ rfl HR6.out w6.heap.size rfl rfl rfl (by simp [Value.oneCell']) (by omega) (by omega) ?_; intro g8 cap8 w8 hown8 hgrow8 hat8 hlt8; have m8 := ((grow_cell hgrow8 (k := B) (show B < w6.heap.size by omega) (fun e => by have := (HBL6.out B e.symm).1; omega)).1 6).trans x6; have n8 := ((grow_cell hgrow8 (k := B) (show B < w6.heap.size by omega) (fun e => by have := (HBL6.out B e.symm).1; omega)).2 6).trans y6; have HO8 := hidZ hown8; have HG8 := hidZ hgrow8; have HA8 := hidZ hat8; clear hown8 hgrow8 hat8))
  all_goals
    have HP3 := hidZ (((HP2.out.draw 1).below (w' := w6) ⟨HG6.out.os, HG6.out.tape, HG6.out.output, HG6.out.size, fun k hk => HG6.out.block k hk (by simp)⟩).tag (v := .slice ua L.length uc) (18 + 4 * n5) (fun k hk => ⟨HP2.out.fr k (HBU.out k hk), (HU6.out.lt k hk).2⟩))
    have HP4 := hidZ (HP3.out.push' (f := 6) (n := n5) (vf := .slice a6 n5 k6) (by omega) (by omega) (by rw [HE26.out]; exact HE6.out) (by rw [HE66.out, HE26.out, HE6.out]) (by rw [HE26.out]; exact HO8.out) HG8.out HA8.out (fun e => absurd e (by omega)) (fun e => absurd e (by omega)) (fun _ => ⟨by rw [upd_same]; exact HU6.out, fun k hk => if_pos hk, by rw [upd_same]; exact hL⟩))
    have HB8 : Hid (Below B w (w8.setCell ⟨B, 6, none⟩ (.slice (some ⟨g8, 0, none⟩) (n5 + 1) cap8))) := by
      have a1 : Below B W5 w6 := ⟨HG6.out.os, HG6.out.tape, HG6.out.output, HG6.out.size, fun k hk => HG6.out.block k (show k < W5.heap.size by omega) (by simp)⟩
      have a2 := below_push HG8.out (fun k hk => Nat.le_trans (Nat.le_succ B) (HBL6.out k hk).1) (show B ≤ w6.heap.size by omega)
      exact (HBB.out.trans (a1.trans a2)).setCell (p := ⟨B, 6, none⟩) (Nat.le_refl _) _
    have HK8 : Hid (∀ k, k < w.heap.size → O k = 0 → (Value.slice va L.length vc).ownBlock ≠ some k → (if k = g8 then 2 + 6 else if (Value.slice ua L.length uc).ownBlock = some k then 18 + 4 * n5 else if k = g4 then 2 + 5 else if (Value.slice va L.length vc).ownBlock = some k then 17 + 4 * n5 else O k) = 0 ∧ (w8.setCell ⟨B, 6, none⟩ (.slice (some ⟨g8, 0, none⟩) (n5 + 1) cap8)).heap[k]? = w.heap[k]?) := fun k hk ho hne => by
      obtain ⟨q1, q2, q3⟩ := HK5.out k hk ho hne
      have n0 : (Value.slice ua L.length uc).ownBlock ≠ some k := fun e => by have : W5.heap.size ≤ k := HBU.out k e; omega
      have n1 : (Value.slice a6 n5 k6).ownBlock ≠ some k := fun e => by
        have := HP3.out.bt 6 k (by omega) (by rw [HE66.out, HE26.out, HE6.out]; exact e)
        simp only [if_neg hne, if_neg n0, if_neg q2] at this
        omega
      have n2 : k ≠ g8 := fun e => by
        rcases HA8.out with e1 | e1
        · exact n1 (by rw [e]; exact e1)
        · omega
      refine ⟨by rw [if_neg n2, if_neg n0, if_neg q2, if_neg hne]; exact ho, (set_keep w8 B 6 _ q3).trans ((HG8.out.block k (by simp; omega) (fun e => n1 e.symm)).trans ((Below.heap_alloc w6 _ k (by omega)).trans ((HG6.out.block k (show k < W5.heap.size by omega) (by simp)).trans q1)))⟩
    clear c6 f6 x6 y6 z6 m8 n8 HO8 HG8 HA8 HP3 HP2
    go_wp2
    refine bodyPost_ret (results_none rfl _ _ _) rfl ?_
    refine ⟨rfl, _, _, _, by rw [HN5.out]; exact HP4.out, fun f hf => ?_, ?_, ?_, HB8.out, HK8.out⟩
    · rw [upd_other _ _ (by omega), upd_other _ _ (by omega)]
    · rw [upd_other _ _ (by omega), upd_same, List.length_append, List.length_singleton]
    · rw [upd_same, List.length_append, List.length_singleton, HE26.out, HE6.out, HN5.out]
end Go.Proofs.YtgjgjgihceijnaaGreat

namespace Go.Proofs.YtgjgjgihceijnaaGreat
open Go.RowKit Go.Stn

theorem sameB_len {a b : List (Int × Int × Int)} (h : a.length ≠ b.length) : Stn.sameB a b = false := by
  unfold Stn.sameB; simp; intro e; exact h (by rw [e])
theorem sameB_yes {a b : List (Int × Int × Int)} (h : a.length = b.length) (he : ∀ k, k < a.length → a[k]? = b[k]?) : Stn.sameB a b = true := by
  unfold Stn.sameB; simp
  apply List.ext_getElem?
  intro k
  by_cases hk : k < a.length
  · exact he k hk
  · rw [List.getElem?_eq_none (by omega), List.getElem?_eq_none (by omega)]
theorem sameB_no {a b : List (Int × Int × Int)} {k : Nat} (he : a[k]? ≠ b[k]?) : Stn.sameB a b = false := by
  unfold Stn.sameB; simp; intro e; exact he (by rw [e])

set_option maxRecDepth 100000 in
set_option maxHeartbeats 1000000 in
theorem same_row (a b : List (Int × Int × Int)) (ga ca gb cb : Nat) (w : World) (ha : a.length ≤ 1000000) (_hb : b.length ≤ 1000000)
    (hac : ∀ k x, a[k]? = some x → w.cell? ⟨ga, k * 3, none⟩ = some (.int .i64 x.1) ∧ w.cell? ⟨ga, k * 3 + 1, none⟩ = some (.int .i64 x.2.1) ∧ w.cell? ⟨ga, k * 3 + 2, none⟩ = some (.int .i64 x.2.2))
    (hbc : ∀ k x, b[k]? = some x → w.cell? ⟨gb, k * 3, none⟩ = some (.int .i64 x.1) ∧ w.cell? ⟨gb, k * 3 + 1, none⟩ = some (.int .i64 x.2.1) ∧ w.cell? ⟨gb, k * 3 + 2, none⟩ = some (.int .i64 x.2.2)) :
    Calls Tryz.prog 12 #[.slice (some ⟨ga, 0, none⟩) a.length ca, .slice (some ⟨gb, 0, none⟩) b.length cb] w fun e w' => e = .returned (.bool (Stn.sameB a b)) ∧ ∃ q, w' = w.drewN q := by
  have HA := hid_mk hac
  have HB := hid_mk hbc
  clear hac hbc
  by_cases hlen : a.length = b.length
  · have hne : ((a.length : Int) != (b.length : Int)) = false := by rw [hlen]; simp
    go_enter Tryz.func12, Tryz.ntmps12
    have HLN := hid_mk hlen
    clear hlen
    go_wp2_with fail
    go_loopw [5] (fun i w' => ∃ k q : Nat, k ≤ a.length ∧ i = .int .i64 (k : Int) ∧ w' = w.drewN q ∧ ∀ j, j < k → a[j]? = b[j]?) (fun i _ => a.length - (intOf i).toNat)
    case atStart => exact ⟨0, 0, Nat.zero_le _, rfl, rfl, fun j h => absurd h (Nat.not_lt_zero _)⟩
    case round =>
      obtain ⟨k, q, hk, rfl, rfl, hall⟩ := hrel
      have HALL := hid_mk hall
      clear hall
      by_cases hlt : k < a.length
      · have hlt' : k < b.length := by have := HLN.out; omega
        obtain ⟨⟨x, y, z⟩, hx⟩ : ∃ u, a[k]? = some u := ⟨_, List.getElem?_eq_getElem hlt⟩
        obtain ⟨⟨x', y', z'⟩, hx'⟩ : ∃ u, b[k]? = some u := ⟨_, List.getElem?_eq_getElem hlt'⟩
        obtain ⟨k0, k1, k2⟩ := HA.out k _ hx
        obtain ⟨m0, m1, m2⟩ := HB.out k _ hx'
        have HX := hid_mk hx
        have HX' := hid_mk hx'
        clear hx hx'
        simp only at k0 k1 k2 m0 m1 m2
        have hkI : (0 : Int) ≤ (k : Int) ∧ (k : Int) < (a.length : Int) := by omega
        have hkI' : (0 : Int) ≤ (k : Int) ∧ (k : Int) < (b.length : Int) := by omega
        have key : ((x == x') = true ∧ (y == y') = true ∧ (z == z') = true) ∨ (((x == x') = false) ∨ ((x == x') = true ∧ (y == y') = false) ∨ ((x == x') = true ∧ (y == y') = true ∧ (z == z') = false)) := by
          cases (x == x') <;> cases (y == y') <;> cases (z == z') <;> simp
        rcases key with ⟨e1, e2, e3⟩ | key
        · have HE : Hid (a[k]? = b[k]?) := by
            unfold Hid
            rw [HX.out, HX'.out, beq_iff_eq.1 e1, beq_iff_eq.1 e2, beq_iff_eq.1 e3]
          go_wp2
          go_quiet (fail)
          go_wp2
          go_roundw
          case rel =>
            refine ⟨k + 1, _, hlt, by go_num, rfl, fun j hj => ?_⟩
            by_cases ej : j = k
            · rw [ej]; exact HE.out
            · exact HALL.out j (by omega)
          case measure => simp [intOf]; omega
        · have HN : Hid (Stn.sameB a b = false) := by
            refine sameB_no (k := k) ?_
            rw [HX.out, HX'.out]
            intro h
            injection h with h
            injection h with h1 h2
            injection h2 with h2 h3
            subst h1 h2 h3
            simp at key
          rcases key with e1 | ⟨e1, e2⟩ | ⟨e1, e2, e3⟩
          all_goals
            go_wp2
            go_quiet (fail)
            go_wp2
            go_ret
            exact ⟨by rw [HN.out]; rfl, q + nq, by first | rfl | simp⟩
      · have HY : Hid (Stn.sameB a b = true) := sameB_yes HLN.out (fun j hj => HALL.out j (by omega))
        go_wp2
        go_ret
        exact ⟨by rw [HY.out]; rfl, q, rfl⟩
  · have hne : ((a.length : Int) != (b.length : Int)) = true := by rw [bne_iff_ne]; omega
    have HN : Hid (Stn.sameB a b = false) := sameB_len hlen
    clear hlen
    go_enter Tryz.func12, Tryz.ntmps12
    go_wp2
    go_ret
    exact ⟨by rw [HN.out]; rfl, 0, rfl⟩

/-- The same of an empty list and whatever. -/
theorem same_nil (va vb : Option Addr) (n m ca cb : Nat) (w : World) (h : n = 0 ∨ m = 0) (hn : n ≤ 1000000) (hm : m ≤ 1000000) :
    Calls Tryz.prog 12 #[.slice va n ca, .slice vb m cb] w fun e w' => e = .returned (.bool (decide (n = m))) ∧ ∃ q, w' = w.drewN q := by
  by_cases e : n = m
  · have e0 : n = 0 := by omega
    subst e
    subst e0
    go_enter Tryz.func12, Tryz.ntmps12
    go_wp2_with fail
    go_loop [5] (fun i => i = .int .i64 0) (fun _ => 0)
    case atStart => rfl
    case round =>
      subst hrel
      go_wp2
      go_ret
      exact ⟨rfl, 0, rfl⟩
  · have hne : ((n : Int) != (m : Int)) = true := by rw [bne_iff_ne]; omega
    have hd : decide (n = m) = false := by simp [e]
    rw [hd]
    clear hd e h
    go_enter Tryz.func12, Tryz.ntmps12
    go_wp2
    go_ret
    exact ⟨rfl, 0, rfl⟩

theorem same_any (a b : List (Int × Int × Int)) (va vb : Value) (B B' : Nat) (w : World) (ha : a.length ≤ 1000000) (hb : b.length ≤ 1000000) (ra : Row3 w B va a) (rb : Row3 w B' vb b) :
    Calls Tryz.prog 12 #[va, vb] w fun e w' => e = .returned (.bool (Stn.sameB a b)) ∧ ∃ q, w' = w.drewN q := by
  rcases ra.sh with ⟨rfl, rfl⟩ | ⟨ga, ca, rfl, _, _, _, hca⟩
  · rcases rb.sh with ⟨rfl, rfl⟩ | ⟨gb, cb, rfl, _, _, _, hcb⟩
    · exact same_nil none none 0 0 0 0 w (.inl rfl) (by omega) (by omega)
    · have e : Stn.sameB [] b = decide (0 = b.length) := by
        unfold Stn.sameB; rw [Bool.eq_iff_iff]; simp
        constructor
        · intro h; rw [h]; rfl
        · intro h; exact List.eq_nil_of_length_eq_zero h.symm
      rw [e]
      exact same_nil none _ 0 b.length 0 cb w (.inl rfl) (by omega) hb
  · rcases rb.sh with ⟨rfl, rfl⟩ | ⟨gb, cb, rfl, _, _, _, hcb⟩
    · have e : Stn.sameB a [] = decide (a.length = 0) := by
        unfold Stn.sameB; rw [Bool.eq_iff_iff]; simp
      rw [e]
      exact same_nil _ none a.length 0 ca 0 w (.inr rfl) ha (by omega)
    · exact same_row a b ga ca gb cb w ha hb hca hcb
end Go.Proofs.YtgjgjgihceijnaaGreat

namespace Go.Stn
theorem runP_toldZ {s inp : ByteArray} (hi : imgOk s = true) : ∀ (f p c : Nat) (H : List (Int × Int × Int)) (n : Nat) (T : List (Int × Int × Int)), c < iM s → (runP s inp f p c H n T).1.length ≤ T.length + f := by
  intro f
  induction f with
  | zero => intro p c H n T _; simp [runP]
  | succ e ih =>
    intro p c H n T hc
    by_cases hlt : p < inp.size
    · rcases lng_cases hi hc (Nat.le_of_lt hlt) with hno | ⟨r, q, hyes, hr, hpq, hq⟩
      · rw [runP_none hlt hno]; simp
      · rw [runP_some hlt hyes]
        have := then_le hi hr
        have := ih q (if 1 < thenB s r then thenB s r - 2 else c) (H ++ (lookFrom s inp c H p).1) (n + (lookFrom s inp c H p).2) (if thenB s r = 1 then T else T ++ [((r : Int), (p : Int), (q : Int))]) (by split <;> omega)
        refine Nat.le_trans this ?_
        split <;> simp <;> omega
    · rw [runP_end hlt]; simp
theorem nxT_len (s inp : ByteArray) (c : Nat) (hi : imgOk s = true) (hc : c < iM s) : (nxT s inp c).length ≤ 1000 := by
  unfold nxT
  split
  · simp
  · rename_i h
    have := runP_toldZ (inp := inp) hi (inp.size + 1) 0 c [] 0 [] hc
    unfold cutP
    simp at this ⊢
    omega
end Go.Stn
namespace Go.Proofs.YtgjgjgihceijnaaGreat
open Go.RowKit Go.Stn
theorem sameB_selfN (l : List (Int × Int × Int)) : Stn.sameB l l = true := by unfold Stn.sameB; simp
/-- What next comes to. -/
def NextAt (B p q : Nat) (w : World) (cs : List TwK) (bc : Nat → List Value) (e : Ending) (w' : World) : Prop :=
  e = .returned (.bool true) ∧ ∃ O' cs' vb' bc' T', PI B p w' O' cs' vb' bc' q T' ∧ cs'.length = cs.length ∧ (∀ f, f ≤ 4 → bc' f = bc f) ∧ (bc' 5).length = (bc 5).length + 1 ∧ (bc' 6).length = (bc 5).length + 1 ∧ Below B w w'
set_option maxRecDepth 100000 in
set_option maxHeartbeats 2000000 in
theorem knext_any {B p q : Nat} {w : World} {O : Nat → Nat} {cs : List TwK} {vb : Nat → Value} {bc : Nat → List Value} {T : Nat → List (Int × Int × Int)} (h : PI B p w O cs vb bc q T) {j : Nat} {t : TwK} (hj : cs[j]? = some t) (inp : ByteArray)
    (hln : (bc 5).length = (bc 6).length) (hbd : (bc 5).length ≤ 5864062014800) (hq : q ≤ (bc 5).length) :
    Calls Tryz.prog 62 #[.pointer (some ⟨B, 0, none⟩), .agg #[.pointer (some ⟨t.cb, 0, none⟩), .pointer (some ⟨t.rb, 0, none⟩)], .string inp] w (NextAt B p q w cs bc) := by
  have hB1 := h.wt.2
  have HBA : Hid (Below w.heap.size w (w.alloc (.cells #[.pointer (some ⟨t.cb, 0, none⟩), .pointer (some ⟨t.rb, 0, none⟩)] 96))) := (Below.refl _ _).alloc (Nat.le_refl _) _
  have x0 : (w.alloc (.cells #[.pointer (some ⟨t.cb, 0, none⟩), .pointer (some ⟨t.rb, 0, none⟩)] 96)).cell? ⟨w.heap.size, 0, none⟩ = some (.pointer (some ⟨t.cb, 0, none⟩)) := (World.cell?_alloc_at _ _ _ 0 rfl).trans rfl
  have x1 : (w.alloc (.cells #[.pointer (some ⟨t.cb, 0, none⟩), .pointer (some ⟨t.rb, 0, none⟩)] 96)).cell? ⟨w.heap.size, 1, none⟩ = some (.pointer (some ⟨t.rb, 0, none⟩)) := (World.cell?_alloc_at _ _ _ 1 rfl).trans rfl
  have hz0 : w.heap.size < (w.alloc (.cells #[.pointer (some ⟨t.cb, 0, none⟩), .pointer (some ⟨t.rb, 0, none⟩)] 96)).heap.size := by simp
  have HP := hidZ (h.below HBA.out)
  have HTW := hidZ (HP.out.cu j t hj)
  have HJ := hidZ hj
  have HQ := hidZ hq
  have HLN := hidZ hln
  have HBD := hidZ hbd
  have hcbz := (h.cu j t hj).ct.b0
  have hrbz := (h.cu j t hj).rf.b0
  have hci := HTW.out.ct.ok
  have hcs := HTW.out.ct.sz
  have hcc := HTW.out.ct.hc
  have hne := HTW.out.ne
  clear h hj hq hln hbd
  go_enter Tryz.func62, Tryz.ntmps62
  go_upto_region 1 with fail
  generalize w.alloc (.cells #[.pointer (some ⟨t.cb, 0, none⟩), .pointer (some ⟨t.rb, 0, none⟩)] 96) = W at *
  go_wp2_with fail
  refine (pnextZ (inp := inp) HTW.out.ct).mono ?_
  rintro e w1 ⟨vt, rfl, ho1, hct1, hg1⟩
  have hz1 := hg1.size
  have y1 := (World.cell?_of_block (w := W) (a := ⟨w.heap.size, 1, none⟩) (hg1.block w.heap.size hz0 (fun e => by injection e; omega))).trans x1
  have HRF1 := hidZ (HTW.out.rf.blocks (w' := w1) (fun k h1 h2 => hg1.block k (by omega) (fun e => by injection e; omega)) hz1)
  have HO1 := hidZ ho1
  have HCT1 := hidZ hct1
  have HG1 := hidZ hg1
  have HLW : Hid (∀ k, vt.ownBlock = some k → W.heap.size ≤ k) := fun k hk => (ho1.lt k hk).1
  clear ho1 hct1 hg1 x0 x1
  obtain ⟨va, vc, hve⟩ := rowSlice HO1.out
  subst hve
  go_wp2_with fail
  refine (rnext_any (inp := inp) HRF1.out hci hcs hcc).mono ?_
  rintro e w2 ⟨vm, rfl, ho2, hrf2, hg2⟩
  have hz2 := hg2.size
  obtain ⟨ma, mc, hme⟩ := rowSlice ho2
  subst hme
  have hlt := nxT_len t.s inp t.c hci hcc
  have hr1 := row_top (w' := w2) HO1.out (fun k hk => hg2.block k (HO1.out.lt k hk).2 (fun e => by injection e with e; have := (HO1.out.lt k hk).1; omega))
  have hct2 := HCT1.out.blocks (w' := w2) (fun k h1 h2 => hg2.block k (by omega) (fun e => by injection e with e; have := HTW.out.rf.b1; omega)) hz2
  have hsw := HP.out.swap (w' := w2) (t' := { t with c := nxC t.s inp t.c }) HJ.out rfl (Nat.le_trans hz1 hz2) (fun k hk h0 h1 => by
    have a1 := HTW.out.o1 t.cb HTW.out.ct.b1 (Nat.le_refl _)
    have a2 := HTW.out.o2 t.rb HTW.out.rf.b1.2.2 (Nat.le_refl _)
    exact (hg2.block k (by omega) (fun e => by injection e with e; subst e; exact h1 a2)).trans (HG1.out.block k hk (fun e => by injection e with e; subst e; exact h1 a1))) ⟨hct2, hrf2, HTW.out.o1, HTW.out.o2, HTW.out.ne⟩ ⟨rfl, rfl⟩
  have HP2 := hidZ hsw
  have HR1 := hidZ hr1
  have HO2 := hidZ ho2
  have HSM : Hid (∀ z, Calls Tryz.prog 12 #[.slice va (nxT t.s inp t.c).length vc, .slice ma (nxT t.s inp t.c).length mc] (w2.drewN z) fun e w' => e = .returned (.bool true) ∧ ∃ y, w' = (w2.drewN z).drewN y) := fun z => by
    have := same_any (nxT t.s inp t.c) (nxT t.s inp t.c) _ _ w2.heap.size w2.heap.size (w2.drewN z) (by omega) (by omega) ⟨(ownsRow_row3 HR1.out).sh⟩ ⟨(ownsRow_row3 HO2.out).sh⟩
    rw [sameB_selfN] at this
    exact this
  have HBW : Hid (Below B w w2) := by
    have l1 := HTW.out.ct.b1
    have l2 := HTW.out.rf.b1
    obtain ⟨l3, l4⟩ := HP.out.cl j t HJ.out
    have a1 : Below B W w1 := ⟨HG1.out.os, HG1.out.tape, HG1.out.output, HG1.out.size, fun k hk => HG1.out.block k (by omega) (fun e => by injection e with e; omega)⟩
    have a2 : Below B w1 w2 := ⟨hg2.os, hg2.tape, hg2.output, hg2.size, fun k hk => hg2.block k (by omega) (fun e => by injection e with e; omega)⟩
    exact ((HBA.out.mono (Nat.le_of_lt hB1)).trans a1).trans a2
  clear hr1 hct2 hsw ho2 hrf2 hg2 y1 HG1 HCT1 HRF1 HO1 HO2
  have hE : ((nxE inp) == (nxE inp)) = true := by simp
  have HLT := hidZ hlt
  have HVF : Hid (∀ k, (Value.slice va (nxT t.s inp t.c).length vc).ownBlock = some k → O k = 0) := fun k hk => HP.out.fr k (HLW.out k hk)
  obtain ⟨N, eN⟩ : ∃ N, (nxT t.s inp t.c).length = N := ⟨_, rfl⟩
  rw [eN] at HSM
  go_wp2_with (first
    | (go_at_call 9; refine (num_any (nxE inp) _).mono ?_; rintro e w3 ⟨rfl, hw3⟩; rw [hw3]; clear hw3)
    | (go_at_call 12; refine (HSM.out 0).mono ?_; rintro e w4 ⟨rfl, ny, hw4⟩))
  have hr3 : (w2.drewN ny).ownsRow (B + 1) 79 3 (.slice va N vc) (nxT t.s inp t.c).length (cells3 (nxT t.s inp t.c)) := by
    have := ownsRow_base HR1.out (base' := B + 1) (by omega)
    rw [← eN]
    exact this
  have hvf : ∀ k, (Value.slice va N vc).ownBlock = some k → O k = 0 := fun k hk => HVF.out k (by rw [eN]; exact hk)
  refine (kcame_any (HP2.out.draw ny) hr3 hvf HLT.out HLN.out HBD.out HQ.out).mono ?_
  rintro e w5 ⟨rfl, O5, vb5, bc5, hpi5, hk5, h55, h65, hbl5, _⟩
  have HB5 : Hid (Below B w w5) := HBW.out.trans ⟨hbl5.os, hbl5.tape, hbl5.output, hbl5.size, hbl5.block⟩
  have HP5 := hidZ hpi5
  clear hpi5 hbl5 hr3 hvf hw4
  go_wp2
  go_ret
  exact ⟨rfl, O5, _, vb5, bc5, _, HP5.out, by rw [List.length_set], hk5, h55, h65, HB5.out⟩
end Go.Proofs.YtgjgjgihceijnaaGreat

namespace Go.Stn
/-- Which of n things the raw number c speaks of. -/
def pickZ (c : Int) (n : Nat) : Nat := if c < 0 then (-(c + 1)).toNat % n else c.toNat % n
theorem pickZ_lt (c : Int) {n : Nat} (h : 0 < n) : pickZ c n < n := by unfold pickZ; split <;> exact Nat.mod_lt _ h
/-- A number that a variable can hold. -/
def isZ (c : Int) : Prop := -9223372036854775808 ≤ c ∧ c ≤ 9223372036854775807
end Go.Stn
namespace Go.Proofs.YtgjgjgihceijnaaGreat
open Go.RowKit Go.Stn
set_option maxRecDepth 100000 in
theorem zpick_any (c : Int) (n : Nat) (hc : isZ c) (h0 : 0 < n) (h8 : n ≤ 6000000000000) (w : World) :
    Calls Tryz.prog 61 #[.int .i64 c, .int .i64 (n : Int)] w fun e w' => e = .returned (.int .i64 (pickZ c n : Int)) ∧ w' = w := by
  obtain ⟨hc1, hc2⟩ := hc
  by_cases h : c < 0
  · obtain ⟨k, hk⟩ : ∃ k : Nat, c = -(k : Int) - 1 := ⟨(-(c + 1)).toNat, by omega⟩
    subst hk
    have HE : Hid (pickZ (-(k : Int) - 1) n = k % n) := by
      unfold Hid pickZ; rw [if_pos h]; congr 1; omega
    have d : decide (-(k : Int) - 1 < 0) = true := by simp; omega
    clear h
    go_enter Tryz.func61, Tryz.ntmps61
    go_wp2
    go_ret
    exact ⟨by rw [HE.out]; simp, rfl⟩
  · obtain ⟨k, rfl⟩ : ∃ k : Nat, c = (k : Int) := ⟨c.toNat, by omega⟩
    have HE : Hid (pickZ (k : Int) n = k % n) := by
      unfold Hid pickZ; rw [if_neg h, Int.toNat_natCast]
    have d : decide ((k : Int) < 0) = false := by simp
    clear h
    go_enter Tryz.func61, Tryz.ntmps61
    go_wp2
    go_ret
    exact ⟨by rw [HE.out]; simp, rfl⟩
end Go.Proofs.YtgjgjgihceijnaaGreat

