/- Texts put together: RfParse, PlSmall, PlFind, PlBehind, PlLead, PlWhole. -/
import Derived.Test.YtgjgjgihceijnaaG12
namespace Go.Stn
def st0 : PSt := { at_ := 0, rules := [], nodes := [], places := [] }
/-- What Parse reads. -/
def parsedP (t : ByteArray) : PSt := (rulesR t st0).2
/-- Parse's word. -/
def parseC (t : ByteArray) : Int :=
  if 120 < t.size then 1 else if rulesB t (rulesR t st0) = false then 2 else if 10 < (rulesR t st0).2.places.length then 3 else 0
end Go.Stn
namespace Go.Proofs.Ytgjgjgihceijnaa
open Go.RowKit Go.Stn

/-- Three cells that may be written. -/
structure Three (w : World) (b : Nat) (x y z : Value) : Prop where
  c0 : w.cell? ⟨b, 0, none⟩ = some x
  c1 : w.cell? ⟨b, 1, none⟩ = some y
  c2 : w.cell? ⟨b, 2, none⟩ = some z
  z : ∀ i, w.frozen? ⟨b, i, none⟩ = false
theorem Three.block {w w' : World} {b : Nat} {x y z : Value} (h : Three w b x y z) (he : w'.heap[b]? = w.heap[b]?) : Three w' b x y z :=
  ⟨(World.cell?_of_block (w := w) (a := ⟨b, 0, none⟩) he).trans h.c0, (World.cell?_of_block (w := w) (a := ⟨b, 1, none⟩) he).trans h.c1, (World.cell?_of_block (w := w) (a := ⟨b, 2, none⟩) he).trans h.c2, fun i => (World.frozen?_of_block (w := w) (a := ⟨b, i, none⟩) he).trans (h.z i)⟩
theorem Three.new (w : World) (b : Nat) (ty : TypeId) (x y z : Value) (hb : b = w.heap.size) : Three (w.alloc (.cells #[x, y, z] ty)) b x y z :=
  ⟨(World.cell?_alloc_at _ _ b 0 hb).trans rfl, (World.cell?_alloc_at _ _ b 1 hb).trans rfl, (World.cell?_alloc_at _ _ b 2 hb).trans rfl, fun i => World.frozen?_alloc_at _ _ b i hb⟩
theorem Three.alloc {w : World} {b : Nat} {x y z : Value} (h : Three w b x y z) (hb : b < w.heap.size) (o : Obj) : Three (w.alloc o) b x y z :=
  ⟨(World.cell?_alloc_past o b 0 hb).trans h.c0, (World.cell?_alloc_past o b 1 hb).trans h.c1, (World.cell?_alloc_past o b 2 hb).trans h.c2, fun i => (World.frozen?_alloc_past o b i hb).trans (h.z i)⟩
theorem Three.range {w : World} {b : Nat} {x y z : Value} (h : Three w b x y z) : w.rangeAt b 0 [x, y, z] := by
  intro j v hv
  match j, hv with
  | 0, hv => cases hv; exact h.c0
  | 1, hv => cases hv; exact h.c1
  | 2, hv => cases hv; exact h.c2
theorem Three.there {w : World} {b : Nat} {x y z : Value} (h : Three w b x y z) : w.there b 0 3 := by
  intro j hj
  rw [Nat.zero_add]
  refine ⟨?_, h.z j⟩
  match j, hj with
  | 0, _ => rw [h.c0]; rfl
  | 1, _ => rw [h.c1]; rfl
  | 2, _ => rw [h.c2]; rfl
theorem Three.stored {w : World} {b : Nat} {x y z : Value} (h : Three w b x y z) (x' y' z' : Value) : Three (((w.setCell ⟨b, 0, none⟩ x').setCell ⟨b, 1, none⟩ y').setCell ⟨b, 2, none⟩ z') b x' y' z' := by
  have hr : (w.setCells b 0 [x', y', z']).rangeAt b 0 [x', y', z'] := World.rangeAt_setCells_same w b 0 [x', y', z'] h.there
  exact ⟨hr 0 _ rfl, hr 1 _ rfl, hr 2 _ rfl, fun i => by rw [World.frozen?_setCell, World.frozen?_setCell, World.frozen?_setCell]; exact h.z i⟩
theorem below_three {a w : World} {B b : Nat} (h : Below B a w) (hb : B ≤ b) (x y z : Value) : Below B a (((w.setCell ⟨b, 0, none⟩ x).setCell ⟨b, 1, none⟩ y).setCell ⟨b, 2, none⟩ z) :=
  ((h.setCell (p := ⟨b, 0, none⟩) hb x).setCell (p := ⟨b, 1, none⟩) hb y).setCell (p := ⟨b, 2, none⟩) hb z
theorem row_three {w : World} {base b : Nat} {e : TypeId} {size : Nat} {v : Value} {m : Nat} {xs : List Value} (hr : w.ownsRow base e size v m xs) (hb : b < base) (x y z : Value) :
    (((w.setCell ⟨b, 0, none⟩ x).setCell ⟨b, 1, none⟩ y).setCell ⟨b, 2, none⟩ z).ownsRow base e size v m xs :=
  ownsRow_setCell_below (ownsRow_setCell_below (ownsRow_setCell_below hr hb _) hb _) hb _

/-- The three lists of a file that was read. -/
structure FileAt (w : World) (base : Nat) (st : PSt) (vr vn vp : Value) : Prop where
  rr : w.ownsRow base 151 6 vr st.rules.length (rulesC st.rules)
  rn : w.ownsRow base 191 3 vn st.nodes.length (cells3' st.nodes)
  rp : w.ownsRow base 187 256 vp st.places.length (bitsC st.places)
  lr : ∀ k, vr.ownBlock = some k → k < w.heap.size
  ln : ∀ k, vn.ownBlock = some k → k < w.heap.size
  lp : ∀ k, vp.ownBlock = some k → k < w.heap.size

theorem Try.fileSize : (Try.prog.info? 84).map (·.size) = some 3 := by kernel_rfl

theorem rd_start (t : ByteArray) (w : World) (x y z : Value) (ty1 ty2 : TypeId) : Rd ((w.alloc (.cells #[x, y, z] ty1)).alloc (.cells #[.string t, .int .i64 0, .slice none 0 0, .slice none 0 0, .slice none 0 0] ty2)) (w.heap.size + 1) (w.heap.size + 2) ((w.alloc (.cells #[x, y, z] ty1)).alloc (.cells #[.string t, .int .i64 0, .slice none 0 0, .slice none 0 0, .slice none 0 0] ty2)).heap.size t st0 (.slice none 0 0) (.slice none 0 0) (.slice none 0 0) := by
  have hb : w.heap.size + 1 = (w.alloc (.cells #[x, y, z] ty1)).heap.size := by simp
  have ap : apartV (.slice none 0 0) (.slice none 0 0) := fun k h _ => by simp [Value.ownBlock] at h
  have no : ∀ k, (Value.slice none 0 0).ownBlock = some k → k < ((w.alloc (.cells #[x, y, z] ty1)).alloc (.cells #[.string t, .int .i64 0, .slice none 0 0, .slice none 0 0, .slice none 0 0] ty2)).heap.size := fun k h => by simp [Value.ownBlock] at h
  refine ⟨(World.cell?_alloc_at _ _ _ 0 hb).trans rfl, (World.cell?_alloc_at _ _ _ 1 hb).trans rfl, (World.cell?_alloc_at _ _ _ 2 hb).trans rfl, (World.cell?_alloc_at _ _ _ 3 hb).trans rfl, (World.cell?_alloc_at _ _ _ 4 hb).trans rfl, fun i => World.frozen?_alloc_at _ _ _ i hb, ⟨rfl, .inl ⟨rfl, rfl⟩⟩, ⟨rfl, .inl ⟨rfl, rfl⟩⟩, ⟨rfl, .inl ⟨rfl, rfl⟩⟩, by omega, ?_, Nat.le_refl _, no, no, no, ap, ap, ap⟩
  simp

set_option maxRecDepth 100000 in
theorem rparse_any (t : ByteArray) (w : World) :
    Calls Try.prog 41 #[.string t] w fun e w' => Below w.heap.size w w' ∧ ∃ vr vn vp, e = .returned (.tuple #[.agg #[vr, vn, vp], .int .i64 (parseC t)]) ∧
      (parseC t = 0 → FileAt w' (w.heap.size + 2) (parsedP t) vr vn vp) ∧ (parseC t ≠ 0 → vr = .slice none 0 0 ∧ vn = .slice none 0 0 ∧ vp = .slice none 0 0) := by
  by_cases h1 : t.size ≤ 120
  · have HR0 := hidK (rd_start t w (.slice none 0 0) (.slice none 0 0) (.slice none 0 0) 84 135)
    have HT0 := hidK ((Three.new w w.heap.size 84 (.slice none 0 0) (.slice none 0 0) (.slice none 0 0) rfl).alloc (by simp) (.cells #[.string t, .int .i64 0, .slice none 0 0, .slice none 0 0, .slice none 0 0] 135))
    have HB0 := hidK (((Below.refl w.heap.size w).alloc (Nat.le_refl _) (.cells #[.slice none 0 0, .slice none 0 0, .slice none 0 0] 84)).alloc (by simp) (.cells #[.string t, .int .i64 0, .slice none 0 0, .slice none 0 0, .slice none 0 0] 135))
    have hsz0 : ((w.alloc (.cells #[.slice none 0 0, .slice none 0 0, .slice none 0 0] 84)).alloc (.cells #[.string t, .int .i64 0, .slice none 0 0, .slice none 0 0, .slice none 0 0] 135)).heap.size = w.heap.size + 2 := by simp
    have HC : Hid (parseC t = if rulesB t (rulesR t st0) = false then 2 else if 10 < (rulesR t st0).2.places.length then 3 else 0) := by
      unfold Hid parseC; rw [if_neg (by omega)]
    go_enter Try.func41, Try.ntmps41
    go_wp2_with fail
    generalize (w.alloc (.cells #[.slice none 0 0, .slice none 0 0, .slice none 0 0] 84)).alloc (.cells #[.string t, .int .i64 0, .slice none 0 0, .slice none 0 0, .slice none 0 0] 135) = W0 at *
    refine (rules_any t st0 (w.heap.size + 1) (w.heap.size + 2) _ _ _ W0 h1 (Nat.zero_le _) ⟨Nat.zero_le _, Nat.zero_le _⟩ (Nat.zero_le _) HR0.out).mono ?_
    rintro e w1 ⟨rfl, vr, vn, vp, hr, hf⟩
    have hnm : ¬ mine (w.heap.size + 1) (.slice none 0 0) (.slice none 0 0) (.slice none 0 0) w.heap.size := by
      rintro (e | e | e | e)
      · omega
      · simp [Value.ownBlock] at e
      · simp [Value.ownBlock] at e
      · simp [Value.ownBlock] at e
    have HT1 := hidK (HT0.out.block (hf.block w.heap.size (by omega) hnm))
    have HB1 : Hid (Below w.heap.size w w1) := by
      refine ⟨hf.os.trans HB0.out.os, hf.tape.trans HB0.out.tape, hf.output.trans HB0.out.output, Nat.le_trans HB0.out.size hf.size, fun k hk => (hf.block k (by omega) ?_).trans (HB0.out.block k hk)⟩
      rintro (e | e | e | e)
      · omega
      · simp [Value.ownBlock] at e
      · simp [Value.ownBlock] at e
      · simp [Value.ownBlock] at e
    have HP : Hid (parsedP t = (rulesR t st0).2) := rfl
    clear HR0 HT0 HB0 hsz0 hf hnm
    generalize rulesB t (rulesR t st0) = ok at *
    generalize rulesR t st0 = M at *
    obtain ⟨ok', s⟩ := M
    simp only at HC hr HP
    have c0 := HT1.out.c0
    have c1 := HT1.out.c1
    have c2 := HT1.out.c2
    have z0 := HT1.out.z 0
    have z1 := HT1.out.z 1
    have z2 := HT1.out.z 2
    cases ok with
    | false =>
      have HE : Hid (parseC t = 2) := HC.out
      go_wp2
      refine ret_cell2 Try.results41 w.heap.size 0 [.slice none 0 0, .slice none 0 0, .slice none 0 0] _ (.int .i64 2) rfl rfl (HT1.out.stored _ _ _).range Try.underlying84 rfl Try.fileSize rfl ?_
      rw [HE.out]
      exact ⟨below_three HB1.out (Nat.le_refl _) _ _ _, _, _, _, rfl, fun h => by simp at h, fun _ => ⟨rfl, rfl, rfl⟩⟩
    | true =>
      have HR := hidK hr
      clear hr
      have d2 := HR.out.c2
      have d3 := HR.out.c3
      have d4 := HR.out.c4
      obtain ⟨ar, cr, er⟩ := rowSlice HR.out.rr
      obtain ⟨an, cn, en⟩ := rowSlice HR.out.rn
      obtain ⟨ap, cp, ep⟩ := rowSlice HR.out.rp
      subst er en ep
      by_cases hp : 10 < s.places.length
      · have HE : Hid (parseC t = 3) := HC.out.trans (if_pos hp)
        go_wp2
        refine ret_cell2 Try.results41 w.heap.size 0 [.slice none 0 0, .slice none 0 0, .slice none 0 0] _ (.int .i64 3) rfl rfl (HT1.out.stored _ _ _).range Try.underlying84 rfl Try.fileSize rfl ?_
        rw [HE.out]
        exact ⟨below_three HB1.out (Nat.le_refl _) _ _ _, _, _, _, rfl, fun h => by simp at h, fun _ => ⟨rfl, rfl, rfl⟩⟩
      · have HE : Hid (parseC t = 0) := HC.out.trans (if_neg hp)
        go_wp2
        refine ret_cell2 Try.results41 w.heap.size 0 [.slice ar s.rules.length cr, .slice an s.nodes.length cn, .slice ap s.places.length cp] _ (.int .i64 0) rfl rfl (HT1.out.stored _ _ _).range Try.underlying84 rfl Try.fileSize rfl ?_
        rw [HE.out]
        refine ⟨below_three HB1.out (Nat.le_refl _) _ _ _, _, _, _, rfl, fun _ => ?_, fun h => absurd rfl h⟩
        rw [HP.out]
        refine ⟨row_three HR.out.rr (by omega) _ _ _, row_three HR.out.rn (by omega) _ _ _, row_three HR.out.rp (by omega) _ _ _, ?_, ?_, ?_⟩
        · rw [World.size_setCell, World.size_setCell, World.size_setCell]; exact HR.out.lr
        · rw [World.size_setCell, World.size_setCell, World.size_setCell]; exact HR.out.ln
        · rw [World.size_setCell, World.size_setCell, World.size_setCell]; exact HR.out.lp
  · have HE : Hid (parseC t = 1) := by unfold Hid parseC; rw [if_pos (by omega)]
    have HT0 := hidK (Three.new w w.heap.size 84 (.slice none 0 0) (.slice none 0 0) (.slice none 0 0) rfl)
    have HB0 := hidK ((Below.refl w.heap.size w).alloc (Nat.le_refl _) (.cells #[.slice none 0 0, .slice none 0 0, .slice none 0 0] 84))
    go_enter Try.func41, Try.ntmps41
    go_wp2
    refine ret_cell2 Try.results41 w.heap.size 0 [.slice none 0 0, .slice none 0 0, .slice none 0 0] _ (.int .i64 1) rfl rfl HT0.out.range Try.underlying84 rfl Try.fileSize rfl ?_
    rw [HE.out]
    exact ⟨HB0.out, _, _, _, rfl, fun h => by simp at h, fun _ => ⟨rfl, rfl, rfl⟩⟩
end Go.Proofs.Ytgjgjgihceijnaa

namespace Go.Stn
/-- The set of one place. -/
def pow2 (k : Nat) : Int := ((2 ^ k : Nat) : Int)
def orI (a b : Int) : Int := bits .or .i64 a b
def andI (a b : Int) : Int := bits .and .i64 a b
/-- A part of an expression, as a value. -/
def partV (p : Int × Int × Bool) : Value := .agg #[.int .i64 p.1, .int .i64 p.2.1, .bool p.2.2]
def joinedP (l r : Int × Int × Bool) : Int × Int × Bool :=
  (if l.2.2 = true then orI l.1 r.1 else l.1, if r.2.2 = true then orI r.2.1 l.2.1 else r.2.1, l.2.2 && r.2.2)
end Go.Stn
namespace Go.Proofs.Ytgjgjgihceijnaa
open Go.RowKit Go.Stn

theorem wrap_pow (k : Nat) (hk : k ≤ 10) : wrap64 (2 ^ k) = ((2 ^ k : Nat) : Int) := by
  have : ∀ j : Fin 11, wrap64 (2 ^ j.val) = ((2 ^ j.val : Nat) : Int) := by decide +kernel
  exact this ⟨k, by omega⟩
set_option maxRecDepth 100000 in
theorem psingle_any (k : Nat) (hk : k ≤ 10) (w : World) :
    Calls Try.prog 90 #[.int .i64 (k : Int)] w fun e w' => w' = w ∧ e = .returned (.int .i64 (pow2 k)) := by
  go_enter Try.func90, Try.ntmps90
  go_wp2
  go_ret
  exact ⟨rfl, by rw [wrap_pow k hk]; rfl⟩
theorem Try.partSize : (Try.prog.info? 193).map (·.size) = some 3 := by kernel_rfl
theorem Three.new3 (w : World) (o1 o2 o4 : Obj) (ty : TypeId) (x y z : Value) : Three ((((w.alloc o1).alloc o2).alloc (.cells #[x, y, z] ty)).alloc o4) (w.heap.size + 1 + 1) x y z :=
  (Three.new _ _ ty x y z (by simp)).alloc (by simp) o4
theorem below4 (w : World) (o1 o2 o3 o4 : Obj) : Below w.heap.size w ((((w.alloc o1).alloc o2).alloc o3).alloc o4) :=
  ((((Below.refl _ _).alloc (Nat.le_refl _) o1).alloc (by simp) o2).alloc (by simp; omega) o3).alloc (by simp; omega) o4
set_option maxRecDepth 100000 in
theorem pjoined_any (a b c d : Int) (x y : Bool) (w : World) :
    Calls Try.prog 119 #[partV (a, b, x), partV (c, d, y)] w fun e w' => Below w.heap.size w w' ∧ e = .returned (partV (joinedP (a, b, x) (c, d, y))) := by
  unfold partV
  cases x <;> cases y
  · go_enter Try.func119, Try.ntmps119
    go_wp2_with fail
    exact ret_cell1 Try.results119 (w.heap.size + 1 + 1) 0 _ _ rfl (Three.new3 _ _ _ _ _ _ _ _).range Try.underlying193 rfl Try.partSize rfl ⟨below4 _ _ _ _ _, rfl⟩
  · go_enter Try.func119, Try.ntmps119
    go_wp2_with fail
    exact ret_cell1 Try.results119 (w.heap.size + 1 + 1) 0 _ _ rfl (Three.new3 _ _ _ _ _ _ _ _).range Try.underlying193 rfl Try.partSize rfl ⟨below4 _ _ _ _ _, rfl⟩
  · go_enter Try.func119, Try.ntmps119
    go_wp2_with fail
    exact ret_cell1 Try.results119 (w.heap.size + 1 + 1) 0 _ _ rfl (Three.new3 _ _ _ _ _ _ _ _).range Try.underlying193 rfl Try.partSize rfl ⟨below4 _ _ _ _ _, rfl⟩
  · go_enter Try.func119, Try.ntmps119
    go_wp2_with fail
    exact ret_cell1 Try.results119 (w.heap.size + 1 + 1) 0 _ _ rfl (Three.new3 _ _ _ _ _ _ _ _).range Try.underlying193 rfl Try.partSize rfl ⟨below4 _ _ _ _ _, rfl⟩

end Go.Proofs.Ytgjgjgihceijnaa

namespace Go.Stn
/-- Where a number stands in a list; the list's length, if nowhere. -/
def findP : List Int → Int → Nat
  | [], _ => 0
  | a :: r, x => if a = x then 0 else findP r x + 1
theorem findP_at {l : List Int} {x : Int} {k : Nat} (h : l[k]? = some x) : findP (l.drop k) x = 0 := by
  have e : l.drop k = x :: l.drop (k + 1) := by
    obtain ⟨hk, he⟩ := List.getElem?_eq_some_iff.1 h
    rw [List.drop_eq_getElem_cons hk, he]
  rw [e, findP, if_pos rfl]
theorem findP_ne {l : List Int} {a x : Int} {k : Nat} (h : l[k]? = some a) (hne : a ≠ x) : findP (l.drop k) x = findP (l.drop (k + 1)) x + 1 := by
  have e : l.drop k = a :: l.drop (k + 1) := by
    obtain ⟨hk, he⟩ := List.getElem?_eq_some_iff.1 h
    rw [List.drop_eq_getElem_cons hk, he]
  rw [e, findP, if_neg hne]
/-- A row of numbers that can be read. -/
structure Row1 (w : World) (v : Value) (l : List Int) : Prop where
  sh : (v = .slice none 0 0 ∧ l = []) ∨ ∃ g cap, v = .slice (some ⟨g, 0, none⟩) l.length cap ∧ l.length ≤ cap ∧ cap ≤ maxLen ∧ ∀ k x, l[k]? = some x → w.cell? ⟨g, k, none⟩ = some (.int .i64 x)
end Go.Stn
namespace Go.Proofs.Ytgjgjgihceijnaa
open Go.RowKit Go.Stn

set_option maxRecDepth 100000 in
theorem pfind_any (l : List Int) (v : Value) (x : Int) (w : World) (hl : l.length ≤ 1000000) (hr : Row1 w v l) :
    Calls Try.prog 60 #[v, .int .i64 x] w fun e w' => w' = w ∧ e = .returned (.int .i64 (findP l x : Int)) := by
  rcases hr.sh with ⟨rfl, rfl⟩ | ⟨g, cap, rfl, h1, h2, hcells⟩
  · go_enter Try.func60, Try.ntmps60
    go_wp2_with fail
    go_loop [9] (fun i => i = .int .i64 0) (fun _ => 0)
    case atStart => rfl
    case round =>
      subst hrel
      go_wp2
      go_ret
      exact ⟨rfl, rfl⟩
  · have HC := hidK hcells
    clear hcells hr
    go_enter Try.func60, Try.ntmps60
    go_wp2_with fail
    go_loop [9] (fun i => ∃ k : Nat, k ≤ l.length ∧ i = .int .i64 (k : Int) ∧ k + findP (l.drop k) x = findP l x) (fun i => l.length - (intOf i).toNat)
    case atStart => exact ⟨0, Nat.zero_le _, rfl, by simp⟩
    case round =>
      obtain ⟨k, hk, rfl, hall⟩ := hrel
      have HA := hidK hall
      clear hall
      by_cases hlt : k < l.length
      · obtain ⟨a, hu⟩ : ∃ u, l[k]? = some u := ⟨_, List.getElem?_eq_getElem hlt⟩
        have k0 := HC.out k _ hu
        by_cases he : a = x
        · have HE : Hid (findP l x = k) := by unfold Hid; rw [← HA.out, findP_at (by rw [hu, he])]; rfl
          have hb : (a == x) = true := beq_iff_eq.2 he
          clear hu he
          go_wp2
          go_ret
          exact ⟨rfl, by rw [HE.out]; rfl⟩
        · have HN : Hid (k + 1 + findP (l.drop (k + 1)) x = findP l x) := by unfold Hid; rw [← HA.out, findP_ne hu he]; omega
          have hb : (a == x) = false := beq_eq_false_iff_ne.2 he
          clear hu he
          go_wp2
          go_round
          case rel => exact ⟨k + 1, by omega, by simp, HN.out⟩
          case measure => simp [intOf]; omega
      · have e : k = l.length := by omega
        have HE : Hid (findP l x = l.length) := by unfold Hid; rw [← HA.out, e, List.drop_length]; rfl
        clear HA
        subst e
        go_wp2
        go_ret
        exact ⟨rfl, by rw [HE.out]; rfl⟩
end Go.Proofs.Ytgjgjgihceijnaa

namespace Go.Stn
/-- Where a text may go on behind the places. -/
def behK (next : Nat → Int) (pl : Int) : Nat → Int
  | 0 => 0
  | k + 1 => if andI pl (pow2 k) = 0 then behK next pl k else orI (behK next pl k) (next k)
def behP (next : Nat → Int) (pl : Int) : Int := behK next pl 10
end Go.Stn
namespace Go.Proofs.Ytgjgjgihceijnaa
open Go.RowKit Go.Stn

/-- A net in memory. -/
structure NetAt (w : World) (nb : Nat) (vf vl : Value) (next : Nat → Int) : Prop where
  c0 : w.cell? ⟨nb, 0, none⟩ = some vf
  c1 : w.cell? ⟨nb, 1, none⟩ = some vl
  nx : ∀ k, k < 10 → w.cell? ⟨nb, 2 + k, none⟩ = some (.int .i64 (next k))
  fz : ∀ i, w.frozen? ⟨nb, i, none⟩ = false

set_option maxRecDepth 100000 in
theorem pbehind_any (next : Nat → Int) (pl : Int) (nb : Nat) (vf vl : Value) (w : World) (h : NetAt w nb vf vl next) :
    Calls Try.prog 93 #[.pointer (some ⟨nb, 0, none⟩), .int .i64 pl] w fun e w' => w' = w ∧ e = .returned (.int .i64 (behP next pl)) := by
  have HN := hidK h.nx
  clear h
  go_enter Try.func93, Try.ntmps93
  go_wp2_with fail
  go_loop [5, 7] (fun x i => ∃ k : Nat, k ≤ 10 ∧ i = .int .i64 (k : Int) ∧ x = .int .i64 (behK next pl k)) (fun _ i => 10 - (intOf i).toNat)
  case atStart => exact ⟨0, Nat.zero_le _, rfl, rfl⟩
  case round =>
    obtain ⟨k, hk, rfl, rfl⟩ := hrel
    by_cases hlt : k < 10
    · have HS : Hid (behK next pl (k + 1) = if andI pl (pow2 k) = 0 then behK next pl k else orI (behK next pl k) (next k)) := rfl
      have hc := HN.out k hlt
      have hkI : (k : Int) < 10 := by omega
      generalize behK next pl k = acc at *
      go_wp2_with fail
      refine (psingle_any k (by omega) _).mono ?_
      rintro e w1 ⟨rfl, rfl⟩
      by_cases hz : andI pl (pow2 k) = 0
      · have HE : Hid (behK next pl (k + 1) = acc) := HS.out.trans (if_pos hz)
        have hz' : (bits .and .i64 pl (pow2 k) != 0) = false := by rw [show bits .and .i64 pl (pow2 k) = 0 from hz]; rfl
        clear hz HS
        go_wp2
        go_round
        case rel => exact ⟨k + 1, by omega, by simp, by rw [HE.out]⟩
        case measure => simp [intOf]; omega
      · have HE : Hid (behK next pl (k + 1) = orI acc (next k)) := HS.out.trans (if_neg hz)
        have hz' : (bits .and .i64 pl (pow2 k) != 0) = true := bne_iff_ne.2 hz
        clear hz HS
        go_wp2
        go_round
        case rel => exact ⟨k + 1, by omega, by simp, by rw [HE.out]; rfl⟩
        case measure => simp [intOf]; omega
    · have e : k = 10 := by omega
      subst e
      go_wp2
      go_ret
      exact ⟨rfl, rfl⟩
end Go.Proofs.Ytgjgjgihceijnaa

namespace Go.Stn
/-- The net in which each place of dst may come behind each of from, for the places below k. -/
def leadK (next : Nat → Int) (fr dst : Int) (k : Nat) : Nat → Int := fun i => if i < k ∧ andI fr (pow2 i) ≠ 0 then orI (next i) dst else next i
def nleadP (next : Nat → Int) (fr dst : Int) : Nat → Int := leadK next fr dst 10
theorem leadK_self (next : Nat → Int) (fr dst : Int) (k : Nat) : leadK next fr dst k k = next k := by unfold leadK; rw [if_neg (by omega)]
theorem leadK_no {next : Nat → Int} {fr dst : Int} {k : Nat} (h : andI fr (pow2 k) = 0) : leadK next fr dst (k + 1) = leadK next fr dst k := by
  funext i
  unfold leadK
  by_cases e : i = k
  · subst e; rw [if_neg (by simp [h]), if_neg (by omega)]
  · by_cases hi : i < k
    · simp [hi, show i < k + 1 by omega]
    · simp [hi, show ¬ i < k + 1 by omega]
theorem leadK_yes {next : Nat → Int} {fr dst : Int} {k : Nat} (h : andI fr (pow2 k) ≠ 0) (i : Nat) : leadK next fr dst (k + 1) i = if i = k then orI (next k) dst else leadK next fr dst k i := by
  unfold leadK
  by_cases e : i = k
  · subst e; rw [if_pos ⟨by omega, h⟩, if_pos rfl]
  · rw [if_neg e]
    by_cases hi : i < k
    · simp [hi, show i < k + 1 by omega]
    · simp [hi, show ¬ i < k + 1 by omega]
end Go.Stn
namespace Go.Proofs.Ytgjgjgihceijnaa
open Go.RowKit Go.Stn

theorem NetAt.set {w : World} {nb : Nat} {vf vl : Value} {next next' : Nat → Int} (h : NetAt w nb vf vl next) (k : Nat) (hk : k < 10) (v : Int) (hn : ∀ i, next' i = if i = k then v else next i) : NetAt (w.setCell ⟨nb, 2 + k, none⟩ (.int .i64 v)) nb vf vl next' := by
  refine ⟨?_, ?_, fun i hi => ?_, fun i => by rw [World.frozen?_setCell]; exact h.fz i⟩
  · rw [World.cell?_setCell_other (h := by intro e; injection e; omega)]; exact h.c0
  · rw [World.cell?_setCell_other (h := by intro e; injection e; omega)]; exact h.c1
  · rw [hn i]
    by_cases e : i = k
    · subst e; rw [if_pos rfl, World.cell?_setCell_same' _ _ _ (by rw [h.nx i hi]; rfl)]
    · rw [if_neg e, World.cell?_setCell_other (h := by intro e; injection e; omega)]; exact h.nx i hi

theorem NetAt.drew {w : World} {nb : Nat} {vf vl : Value} {next : Nat → Int} (h : NetAt w nb vf vl next) : NetAt w.drew nb vf vl next := ⟨h.c0, h.c1, h.nx, h.fz⟩
theorem grown_drew1 {a w : World} {r : Option Nat} (h : a.grownBy w r) : a.grownBy w.drew r := ⟨h.os, h.tape, h.output, h.size, h.block⟩

set_option maxRecDepth 100000 in
theorem plead_any (next : Nat → Int) (fr dst : Int) (nb : Nat) (vf vl : Value) (w : World) (h : NetAt w nb vf vl next) :
    Calls Try.prog 118 #[.pointer (some ⟨nb, 0, none⟩), .int .i64 fr, .int .i64 dst] w fun e w' => w.grownBy w' (some nb) ∧ NetAt w' nb vf vl (nleadP next fr dst) ∧ e = .returned (.tuple #[]) := by
  have HN := hidK h
  clear h
  go_enter Try.func118, Try.ntmps118
  go_wp2_with fail
  go_loopw [7] (fun i wr => ∃ k : Nat, k ≤ 10 ∧ i = .int .i64 (k : Int) ∧ w.grownBy wr (some nb) ∧ NetAt wr nb vf vl (leadK next fr dst k)) (fun i _ => 10 - (intOf i).toNat)
  case atStart => exact ⟨0, Nat.zero_le _, rfl, World.grownBy.refl _ _, by have e : leadK next fr dst 0 = next := by (funext i; unfold leadK; simp)
                                                                           rw [e]; exact HN.out⟩
  case round =>
    obtain ⟨k, hk, rfl, hg, hn⟩ := hrel
    have HG := hidK hg
    have HA := hidK hn
    clear hg hn HN
    by_cases hlt : k < 10
    · have hc := HA.out.nx k hlt
      rw [leadK_self] at hc
      have hz := HA.out.fz (2 + k)
      have hkI : (k : Int) < 10 := by omega
      go_wp2_with fail
      refine (psingle_any k (by omega) _).mono ?_
      rintro e w1 ⟨rfl, rfl⟩
      by_cases hz0 : andI fr (pow2 k) = 0
      · have HE := hidK (leadK_no (next := next) (dst := dst) hz0)
        have hz' : (bits .and .i64 fr (pow2 k) != 0) = false := by rw [show bits .and .i64 fr (pow2 k) = 0 from hz0]; rfl
        clear hz0
        go_wp2
        go_roundw
        case rel => exact ⟨k + 1, by omega, by simp, HG.out, by rw [HE.out]; exact HA.out⟩
        case measure => simp [intOf]; omega
      · have HE := hidK (leadK_yes (next := next) (dst := dst) hz0)
        have hz' : (bits .and .i64 fr (pow2 k) != 0) = true := bne_iff_ne.2 hz0
        clear hz0
        go_wp2
        go_region
        all_goals
          go_wp2
          go_roundw
          case rel => exact ⟨k + 1, by omega, by simp, grown_set (grown_drew1 HG.out) _ _, HA.out.drew.set k hlt _ HE.out⟩
          case measure => simp [intOf]; omega
    · have e : k = 10 := by omega
      subst e
      go_wp2
      go_end0
      exact ⟨HG.out, HA.out, rfl⟩
end Go.Proofs.Ytgjgjgihceijnaa

namespace Go.Stn
/-- What a node makes of its parts, and of the net. -/
def wholeP (kind left : Int) (l r : Int × Int × Bool) (next : Nat → Int) : (Int × Int × Bool) × (Nat → Int) :=
  if kind = 0 then ((pow2 left.toNat, pow2 left.toNat, false), next)
  else if kind = 1 then (joinedP l r, nleadP next l.2.1 r.1)
  else if kind = 2 then ((orI l.1 r.1, orI l.2.1 r.2.1, l.2.2 || r.2.2), next)
  else if kind = 3 then ((l.1, l.2.1, true), next)
  else if kind = 4 then (l, nleadP next l.2.1 l.1)
  else ((l.1, l.2.1, true), nleadP next l.2.1 l.1)
end Go.Stn
namespace Go.Proofs.Ytgjgjgihceijnaa
open Go.RowKit Go.Stn
theorem NetAt.below {w w' : World} {nb B : Nat} {vf vl : Value} {next : Nat → Int} (h : NetAt w nb vf vl next) (hB : Below B w w') (hb : nb < B) : NetAt w' nb vf vl next :=
  ⟨(hB.cell (p := ⟨nb, 0, none⟩) hb).trans h.c0, (hB.cell (p := ⟨nb, 1, none⟩) hb).trans h.c1, fun k hk => (hB.cell (p := ⟨nb, 2 + k, none⟩) hb).trans (h.nx k hk), fun i => (hB.frozen (p := ⟨nb, i, none⟩) hb).trans (h.fz i)⟩
/-- The four blocks of whole's beginning. -/
theorem fours (w : World) (a b c d e f g h i : Value) (t1 t2 : TypeId) (x y z : Value) :
    Three ((((w.alloc (.cells #[a, b, c] t1)).alloc (.cells #[d, e, f] t2)).alloc (.cells #[g, h, i] t2)).alloc (.cells #[x, y, z] t2)) (w.heap.size + 1) d e f ∧
    Three ((((w.alloc (.cells #[a, b, c] t1)).alloc (.cells #[d, e, f] t2)).alloc (.cells #[g, h, i] t2)).alloc (.cells #[x, y, z] t2)) (w.heap.size + 1 + 1) g h i ∧
    Three ((((w.alloc (.cells #[a, b, c] t1)).alloc (.cells #[d, e, f] t2)).alloc (.cells #[g, h, i] t2)).alloc (.cells #[x, y, z] t2)) (w.heap.size + 1 + 1 + 1) x y z :=
  ⟨((Three.new _ _ _ _ _ _ (by simp)).alloc (by simp) _).alloc (by simp) _, (Three.new _ _ _ _ _ _ (by simp)).alloc (by simp) _, Three.new _ _ _ _ _ _ (by simp)⟩
def WholeSaid (w : World) (nb : Nat) (vf vl : Value) (x : (Int × Int × Bool) × (Nat → Int)) (e : Ending) (w' : World) : Prop :=
  w.grownBy w' (some nb) ∧ NetAt w' nb vf vl x.2 ∧ e = .returned (partV x.1)
theorem grown_three {a w : World} {r : Option Nat} (h : a.grownBy w r) {b : Nat} (hb : a.heap.size ≤ b) (x y z : Value) : a.grownBy (((w.setCell ⟨b, 0, none⟩ x).setCell ⟨b, 1, none⟩ y).setCell ⟨b, 2, none⟩ z) r :=
  grown_setOver (grown_setOver (grown_setOver h hb 0 x) hb 1 y) hb 2 z
theorem NetAt.three {w : World} {nb b : Nat} {vf vl : Value} {next : Nat → Int} (h : NetAt w nb vf vl next) (hb : nb < b) (x y z : Value) : NetAt (((w.setCell ⟨b, 0, none⟩ x).setCell ⟨b, 1, none⟩ y).setCell ⟨b, 2, none⟩ z) nb vf vl next :=
  h.below (below_three (Below.refl b w) (Nat.le_refl _) x y z) hb
theorem Three.other1 {w : World} {b : Nat} {x y z : Value} (h : Three w b x y z) (c i : Nat) (v : Value) (hc : b ≠ c) : Three (w.setCell ⟨c, i, none⟩ v) b x y z :=
  h.block (Below.heap_setCell w ⟨c, i, none⟩ v b hc)

set_option maxRecDepth 100000 in
theorem pwhole0 (next : Nat → Int) (p : Nat) (hp : p < 10) (z : Int) (l r : Int × Int × Bool) (nb : Nat) (vf vl : Value) (w : World) (hnb : nb < w.heap.size) (h : NetAt w nb vf vl next) :
    Calls Try.prog 91 #[.pointer (some ⟨nb, 0, none⟩), .agg #[.int .i64 0, .int .i64 (p : Int), .int .i64 z], partV l, partV r] w (WholeSaid w nb vf vl (wholeP 0 p l r next)) := by
  obtain ⟨l1, l2, l3⟩ := l
  obtain ⟨r1, r2, r3⟩ := r
  have HH := hidK h
  clear h
  show Calls _ _ #[_, _, .agg #[.int .i64 l1, .int .i64 l2, .bool l3], .agg #[.int .i64 r1, .int .i64 r2, .bool r3]] _ _
  go_enter Try.func91, Try.ntmps91
  go_wp2_with fail
  refine (psingle_any p (by omega) _).mono ?_
  rintro e w1 ⟨rfl, rfl⟩
  go_wp2_with fail
  exact ret_cell1 Try.results91 (w.heap.size + 1 + 1 + 1) 0 _ _ rfl (fours _ _ _ _ _ _ _ _ _ _ _ _ _ _ _).2.2.range Try.underlying193 rfl Try.partSize rfl
    ⟨grown_of_below (below4 _ _ _ _ _) (Nat.le_refl _) _, HH.out.below (below4 _ _ _ _ _) hnb, rfl⟩

set_option maxRecDepth 100000 in
theorem pwhole2 (next : Nat → Int) (y z : Int) (l r : Int × Int × Bool) (nb : Nat) (vf vl : Value) (w : World) (hnb : nb < w.heap.size) (h : NetAt w nb vf vl next) :
    Calls Try.prog 91 #[.pointer (some ⟨nb, 0, none⟩), .agg #[.int .i64 2, .int .i64 y, .int .i64 z], partV l, partV r] w (WholeSaid w nb vf vl (wholeP 2 y l r next)) := by
  obtain ⟨l1, l2, l3⟩ := l
  obtain ⟨r1, r2, r3⟩ := r
  have HH := hidK h
  clear h
  show Calls _ _ #[_, _, .agg #[.int .i64 l1, .int .i64 l2, .bool l3], .agg #[.int .i64 r1, .int .i64 r2, .bool r3]] _ _
  cases l3
  all_goals
    go_enter Try.func91, Try.ntmps91
    go_wp2_with fail
    exact ret_cell1 Try.results91 (w.heap.size + 1 + 1 + 1) 0 _ _ rfl (fours _ _ _ _ _ _ _ _ _ _ _ _ _ _ _).2.2.range Try.underlying193 rfl Try.partSize rfl
      ⟨grown_of_below (below4 _ _ _ _ _) (Nat.le_refl _) _, HH.out.below (below4 _ _ _ _ _) hnb, rfl⟩

set_option maxRecDepth 100000 in
theorem pwhole3 (next : Nat → Int) (y z : Int) (l r : Int × Int × Bool) (nb : Nat) (vf vl : Value) (w : World) (hnb : nb < w.heap.size) (h : NetAt w nb vf vl next) :
    Calls Try.prog 91 #[.pointer (some ⟨nb, 0, none⟩), .agg #[.int .i64 3, .int .i64 y, .int .i64 z], partV l, partV r] w (WholeSaid w nb vf vl (wholeP 3 y l r next)) := by
  obtain ⟨l1, l2, l3⟩ := l
  obtain ⟨r1, r2, r3⟩ := r
  have HH := hidK h
  clear h
  show Calls _ _ #[_, _, .agg #[.int .i64 l1, .int .i64 l2, .bool l3], .agg #[.int .i64 r1, .int .i64 r2, .bool r3]] _ _
  go_enter Try.func91, Try.ntmps91
  go_wp2_with fail
  exact ret_cell1 Try.results91 (w.heap.size + 1 + 1 + 1) 0 _ _ rfl (fours _ _ _ _ _ _ _ _ _ _ _ _ _ _ _).2.2.range Try.underlying193 rfl Try.partSize rfl
    ⟨grown_of_below (below4 _ _ _ _ _) (Nat.le_refl _) _, HH.out.below (below4 _ _ _ _ _) hnb, rfl⟩

set_option maxRecDepth 100000 in
theorem pwhole4 (next : Nat → Int) (y z : Int) (l r : Int × Int × Bool) (nb : Nat) (vf vl : Value) (w : World) (hnb : nb < w.heap.size) (h : NetAt w nb vf vl next) :
    Calls Try.prog 91 #[.pointer (some ⟨nb, 0, none⟩), .agg #[.int .i64 4, .int .i64 y, .int .i64 z], partV l, partV r] w (WholeSaid w nb vf vl (wholeP 4 y l r next)) := by
  obtain ⟨l1, l2, l3⟩ := l
  obtain ⟨r1, r2, r3⟩ := r
  show Calls _ _ #[_, _, .agg #[.int .i64 l1, .int .i64 l2, .bool l3], .agg #[.int .i64 r1, .int .i64 r2, .bool r3]] _ _
  have HB := hidK (below4 w (.cells #[.int .i64 4, .int .i64 y, .int .i64 z] 191) (.cells #[.int .i64 l1, .int .i64 l2, .bool l3] 193) (.cells #[.int .i64 r1, .int .i64 r2, .bool r3] 193) (.cells #[.int .i64 0, .int .i64 0, .bool false] 193))
  have HF := hidK (fours w (.int .i64 4) (.int .i64 y) (.int .i64 z) (.int .i64 l1) (.int .i64 l2) (.bool l3) (.int .i64 r1) (.int .i64 r2) (.bool r3) 191 193 (.int .i64 0) (.int .i64 0) (.bool false))
  have hsz : ((((w.alloc (.cells #[.int .i64 4, .int .i64 y, .int .i64 z] 191)).alloc (.cells #[.int .i64 l1, .int .i64 l2, .bool l3] 193)).alloc (.cells #[.int .i64 r1, .int .i64 r2, .bool r3] 193)).alloc (.cells #[.int .i64 0, .int .i64 0, .bool false] 193)).heap.size = w.heap.size + 4 := by simp
  go_enter Try.func91, Try.ntmps91
  go_wp2_with fail
  generalize (((w.alloc (.cells #[.int .i64 4, .int .i64 y, .int .i64 z] 191)).alloc (.cells #[.int .i64 l1, .int .i64 l2, .bool l3] 193)).alloc (.cells #[.int .i64 r1, .int .i64 r2, .bool r3] 193)).alloc (.cells #[.int .i64 0, .int .i64 0, .bool false] 193) = W at *
  refine (plead_any next l2 l1 nb vf vl W (h.below HB.out hnb)).mono ?_
  rintro e w1 ⟨hg, hn, rfl⟩
  have H1 := hidK (HF.out.1.block (hg.block _ (by omega) (by intro e; injection e; omega)))
  have H2 := hidK (HF.out.2.1.block (hg.block _ (by omega) (by intro e; injection e; omega)))
  have H3 := hidK (HF.out.2.2.block (hg.block _ (by omega) (by intro e; injection e; omega)))
  have HG := hidK (grown_trans (grown_of_below HB.out (Nat.le_refl _) (some nb)) hg)
  have HN := hidK hn
  have hs1 : w.heap.size + 4 ≤ w1.heap.size := by have := hg.size; omega
  clear hg hn h HB HF hsz
  have a0 := H1.out.c0
  have a1 := H1.out.c1
  have a2 := H1.out.c2
  have b0 := H3.out.c0
  have b1 := H3.out.c1
  have b2 := H3.out.c2
  have z0 := H3.out.z 0
  have z1 := H3.out.z 1
  have z2 := H3.out.z 2
  go_wp2_with fail
  exact ret_cell1 Try.results91 (w.heap.size + 1 + 1 + 1) 0 _ _ rfl (H3.out.stored _ _ _).range Try.underlying193 rfl Try.partSize rfl
    ⟨grown_three HG.out (by omega) _ _ _, HN.out.three (by omega) _ _ _, rfl⟩

set_option maxRecDepth 100000 in
theorem pwhole5 (next : Nat → Int) (y z : Int) (l r : Int × Int × Bool) (nb : Nat) (vf vl : Value) (w : World) (hnb : nb < w.heap.size) (h : NetAt w nb vf vl next) :
    Calls Try.prog 91 #[.pointer (some ⟨nb, 0, none⟩), .agg #[.int .i64 5, .int .i64 y, .int .i64 z], partV l, partV r] w (WholeSaid w nb vf vl (wholeP 5 y l r next)) := by
  obtain ⟨l1, l2, l3⟩ := l
  obtain ⟨r1, r2, r3⟩ := r
  show Calls _ _ #[_, _, .agg #[.int .i64 l1, .int .i64 l2, .bool l3], .agg #[.int .i64 r1, .int .i64 r2, .bool r3]] _ _
  have HB := hidK (below4 w (.cells #[.int .i64 5, .int .i64 y, .int .i64 z] 191) (.cells #[.int .i64 l1, .int .i64 l2, .bool l3] 193) (.cells #[.int .i64 r1, .int .i64 r2, .bool r3] 193) (.cells #[.int .i64 0, .int .i64 0, .bool false] 193))
  have HF := hidK (fours w (.int .i64 5) (.int .i64 y) (.int .i64 z) (.int .i64 l1) (.int .i64 l2) (.bool l3) (.int .i64 r1) (.int .i64 r2) (.bool r3) 191 193 (.int .i64 0) (.int .i64 0) (.bool false))
  have hsz : ((((w.alloc (.cells #[.int .i64 5, .int .i64 y, .int .i64 z] 191)).alloc (.cells #[.int .i64 l1, .int .i64 l2, .bool l3] 193)).alloc (.cells #[.int .i64 r1, .int .i64 r2, .bool r3] 193)).alloc (.cells #[.int .i64 0, .int .i64 0, .bool false] 193)).heap.size = w.heap.size + 4 := by simp
  go_enter Try.func91, Try.ntmps91
  go_wp2_with fail
  generalize (((w.alloc (.cells #[.int .i64 5, .int .i64 y, .int .i64 z] 191)).alloc (.cells #[.int .i64 l1, .int .i64 l2, .bool l3] 193)).alloc (.cells #[.int .i64 r1, .int .i64 r2, .bool r3] 193)).alloc (.cells #[.int .i64 0, .int .i64 0, .bool false] 193) = W at *
  refine (plead_any next l2 l1 nb vf vl W (h.below HB.out hnb)).mono ?_
  rintro e w1 ⟨hg, hn, rfl⟩
  have H1 := hidK (HF.out.1.block (hg.block _ (by omega) (by intro e; injection e; omega)))
  have H2 := hidK (HF.out.2.1.block (hg.block _ (by omega) (by intro e; injection e; omega)))
  have H3 := hidK (HF.out.2.2.block (hg.block _ (by omega) (by intro e; injection e; omega)))
  have HG := hidK (grown_trans (grown_of_below HB.out (Nat.le_refl _) (some nb)) hg)
  have HN := hidK hn
  have hs1 : w.heap.size + 4 ≤ w1.heap.size := by have := hg.size; omega
  clear hg hn h HB HF hsz
  have a0 := H1.out.c0
  have a1 := H1.out.c1
  have a2 := H1.out.c2
  have b0 := H3.out.c0
  have b1 := H3.out.c1
  have b2 := H3.out.c2
  have z0 := H3.out.z 0
  have z1 := H3.out.z 1
  have z2 := H3.out.z 2
  have y2 := H1.out.z 2
  have H4 := hidK (H3.out.other1 (w.heap.size + 1) 2 (.bool true) (by omega))
  have HG4 := hidK (grown_setOver HG.out (b := w.heap.size + 1) (by omega) 2 (.bool true))
  have HN4 := hidK (HN.out.below ((Below.refl (w.heap.size + 1) w1).setCell (p := ⟨w.heap.size + 1, 2, none⟩) (Nat.le_refl _) (.bool true)) (by omega))
  go_wp2_with fail
  exact ret_cell1 Try.results91 (w.heap.size + 1 + 1 + 1) 0 _ _ rfl (H4.out.stored _ _ _).range Try.underlying193 rfl Try.partSize rfl
    ⟨grown_three HG4.out (by omega) _ _ _, HN4.out.three (by omega) _ _ _, rfl⟩

set_option maxRecDepth 100000 in
theorem pwhole1 (next : Nat → Int) (y z : Int) (l r : Int × Int × Bool) (nb : Nat) (vf vl : Value) (w : World) (hnb : nb < w.heap.size) (h : NetAt w nb vf vl next) :
    Calls Try.prog 91 #[.pointer (some ⟨nb, 0, none⟩), .agg #[.int .i64 1, .int .i64 y, .int .i64 z], partV l, partV r] w (WholeSaid w nb vf vl (wholeP 1 y l r next)) := by
  obtain ⟨l1, l2, l3⟩ := l
  obtain ⟨r1, r2, r3⟩ := r
  show Calls _ _ #[_, _, .agg #[.int .i64 l1, .int .i64 l2, .bool l3], .agg #[.int .i64 r1, .int .i64 r2, .bool r3]] _ _
  have HB := hidK (below4 w (.cells #[.int .i64 1, .int .i64 y, .int .i64 z] 191) (.cells #[.int .i64 l1, .int .i64 l2, .bool l3] 193) (.cells #[.int .i64 r1, .int .i64 r2, .bool r3] 193) (.cells #[.int .i64 0, .int .i64 0, .bool false] 193))
  have HF := hidK (fours w (.int .i64 1) (.int .i64 y) (.int .i64 z) (.int .i64 l1) (.int .i64 l2) (.bool l3) (.int .i64 r1) (.int .i64 r2) (.bool r3) 191 193 (.int .i64 0) (.int .i64 0) (.bool false))
  have hsz : ((((w.alloc (.cells #[.int .i64 1, .int .i64 y, .int .i64 z] 191)).alloc (.cells #[.int .i64 l1, .int .i64 l2, .bool l3] 193)).alloc (.cells #[.int .i64 r1, .int .i64 r2, .bool r3] 193)).alloc (.cells #[.int .i64 0, .int .i64 0, .bool false] 193)).heap.size = w.heap.size + 4 := by simp
  go_enter Try.func91, Try.ntmps91
  go_wp2_with fail
  generalize (((w.alloc (.cells #[.int .i64 1, .int .i64 y, .int .i64 z] 191)).alloc (.cells #[.int .i64 l1, .int .i64 l2, .bool l3] 193)).alloc (.cells #[.int .i64 r1, .int .i64 r2, .bool r3] 193)).alloc (.cells #[.int .i64 0, .int .i64 0, .bool false] 193) = W at *
  refine (plead_any next l2 r1 nb vf vl W (h.below HB.out hnb)).mono ?_
  rintro e w1 ⟨hg, hn, rfl⟩
  have H1 := hidK (HF.out.1.block (hg.block _ (by omega) (by intro e; injection e; omega)))
  have H2 := hidK (HF.out.2.1.block (hg.block _ (by omega) (by intro e; injection e; omega)))
  have H3 := hidK (HF.out.2.2.block (hg.block _ (by omega) (by intro e; injection e; omega)))
  have HG := hidK (grown_trans (grown_of_below HB.out (Nat.le_refl _) (some nb)) hg)
  have HN := hidK hn
  have hs1 : w.heap.size + 4 ≤ w1.heap.size := by have := hg.size; omega
  clear hg hn h HB HF hsz
  have a0 := H1.out.c0
  have a1 := H1.out.c1
  have a2 := H1.out.c2
  have e0 := H2.out.c0
  have e1 := H2.out.c1
  have e2 := H2.out.c2
  go_wp2_with fail
  refine (pjoined_any l1 l2 r1 r2 l3 r3 _).mono ?_
  rintro e w2 ⟨hb2, rfl⟩
  have H4 := hidK (H3.out.block (hb2.block _ (by omega)))
  have HG4 := hidK (grown_trans HG.out (grown_of_below hb2 (Nat.le_refl _) (some nb)))
  have HN4 := hidK (HN.out.below hb2 (by omega))
  clear hb2 a0 a1 a2 e0 e1 e2 H1 H2 H3
  have b0 := H4.out.c0
  have b1 := H4.out.c1
  have b2 := H4.out.c2
  have z0 := H4.out.z 0
  have z1 := H4.out.z 1
  have z2 := H4.out.z 2
  have HE : Hid ((wholeP 1 y (l1, l2, l3) (r1, r2, r3) next) = (joinedP (l1, l2, l3) (r1, r2, r3), nleadP next l2 r1)) := rfl
  generalize joinedP (l1, l2, l3) (r1, r2, r3) = J at *
  obtain ⟨j1, j2, j3⟩ := J
  unfold partV
  go_wp2_with fail
  refine ret_cell1 Try.results91 (w.heap.size + 1 + 1 + 1) 0 _ _ rfl (H4.out.stored _ _ _).range Try.underlying193 rfl Try.partSize rfl ?_
  rw [HE.out]
  exact ⟨grown_three HG4.out (by omega) _ _ _, HN4.out.three (by omega) _ _ _, rfl⟩
end Go.Proofs.Ytgjgjgihceijnaa

