/- Texts put together: KpEven, CtOpen, CtNext, KpCutting. -/
import Derived.Test.YtgjgjgihceijnaaG26
import Derived.Test.YtgjgjgihceijnaaG17
import Derived.Deep.RegionWith
import Derived.Test.YtgjgjgihceijnaaG27
/- stencilkeep.even: a walk. -/
namespace Go.Proofs.Ytgjgjgihceijnaa
open Go.RowKit Go.Stn
set_option maxRecDepth 100000 in
set_option maxHeartbeats 1000000 in
theorem even_row (a b : List (Int × Int × Int)) (ga ca gb cb : Nat) (w : World) (ha : a.length ≤ 1000000) (_hb : b.length ≤ 1000000)
    (hac : ∀ k x, a[k]? = some x → w.cell? ⟨ga, k * 3, none⟩ = some (.int .i64 x.1) ∧ w.cell? ⟨ga, k * 3 + 1, none⟩ = some (.int .i64 x.2.1) ∧ w.cell? ⟨ga, k * 3 + 2, none⟩ = some (.int .i64 x.2.2))
    (hbc : ∀ k x, b[k]? = some x → w.cell? ⟨gb, k * 3, none⟩ = some (.int .i64 x.1) ∧ w.cell? ⟨gb, k * 3 + 1, none⟩ = some (.int .i64 x.2.1) ∧ w.cell? ⟨gb, k * 3 + 2, none⟩ = some (.int .i64 x.2.2)) :
    Calls Try.prog 37 #[.slice (some ⟨ga, 0, none⟩) a.length ca, .slice (some ⟨gb, 0, none⟩) b.length cb] w fun e w' => e = .returned (.bool (sameB a b)) ∧ ∃ q, w' = w.drewN q := by
  have HA := hid_mk hac
  have HB := hid_mk hbc
  clear hac hbc
  by_cases hlen : a.length = b.length
  · have hne : ((a.length : Int) != (b.length : Int)) = false := by rw [hlen]; simp
    go_enter Try.func37, Try.ntmps37
    have HLN := hid_mk hlen
    clear hlen
    go_wp2_with fail
    go_loopw [5] (fun i w' => ∃ k q : Nat, k ≤ a.length ∧ i = .int .i64 (k : Int) ∧ w' = w.drewN q ∧ ∀ j, j < k → a[j]? = b[j]?) (fun i _ => a.length - (intOf i).toNat)
    case atStart => exact ⟨0, 0, Nat.zero_le _, rfl, rfl, fun j h => absurd h (Nat.not_lt_zero _)⟩
    case round =>
      obtain ⟨k, q, hk, rfl, rfl, hall⟩ := hrel
      have HALL := hid_mk hall
      clear hall
      by_cases hlt : k < a.length
      · have hlt' : k < b.length := by have := HLN.out; omega
        obtain ⟨⟨x, y, z⟩, hx⟩ : ∃ u, a[k]? = some u := ⟨_, List.getElem?_eq_getElem hlt⟩
        obtain ⟨⟨x', y', z'⟩, hx'⟩ : ∃ u, b[k]? = some u := ⟨_, List.getElem?_eq_getElem hlt'⟩
        obtain ⟨k0, k1, k2⟩ := HA.out k _ hx
        obtain ⟨m0, m1, m2⟩ := HB.out k _ hx'
        have HX := hid_mk hx
        have HX' := hid_mk hx'
        clear hx hx'
        simp only at k0 k1 k2 m0 m1 m2
        have hkI : (0 : Int) ≤ (k : Int) ∧ (k : Int) < (a.length : Int) := by omega
        have hkI' : (0 : Int) ≤ (k : Int) ∧ (k : Int) < (b.length : Int) := by omega
        have key : ((x == x') = true ∧ (y == y') = true ∧ (z == z') = true) ∨ (((x == x') = false) ∨ ((x == x') = true ∧ (y == y') = false) ∨ ((x == x') = true ∧ (y == y') = true ∧ (z == z') = false)) := by
          cases (x == x') <;> cases (y == y') <;> cases (z == z') <;> simp
        rcases key with ⟨e1, e2, e3⟩ | key
        · have HE : Hid (a[k]? = b[k]?) := by
            unfold Hid
            rw [HX.out, HX'.out, beq_iff_eq.1 e1, beq_iff_eq.1 e2, beq_iff_eq.1 e3]
          go_wp2
          go_quiet (fail)
          go_wp2
          go_roundw
          case rel =>
            refine ⟨k + 1, _, hlt, by go_num, rfl, fun j hj => ?_⟩
            by_cases ej : j = k
            · rw [ej]; exact HE.out
            · exact HALL.out j (by omega)
          case measure => simp [intOf]; omega
        · have HN : Hid (sameB a b = false) := by
            refine sameB_no (k := k) ?_
            rw [HX.out, HX'.out]
            intro h
            injection h with h
            injection h with h1 h2
            injection h2 with h2 h3
            subst h1 h2 h3
            simp at key
          rcases key with e1 | ⟨e1, e2⟩ | ⟨e1, e2, e3⟩
          all_goals
            go_wp2
            go_quiet (fail)
            go_wp2
            go_ret
            exact ⟨by rw [HN.out]; rfl, q + nq, by first | rfl | simp⟩
      · have HY : Hid (sameB a b = true) := sameB_yes HLN.out (fun j hj => HALL.out j (by omega))
        go_wp2
        go_ret
        exact ⟨by rw [HY.out]; rfl, q, rfl⟩
  · have hne : ((a.length : Int) != (b.length : Int)) = true := by rw [bne_iff_ne]; omega
    have HN : Hid (sameB a b = false) := sameB_len hlen
    clear hlen
    go_enter Try.func37, Try.ntmps37
    go_wp2
    go_ret
    exact ⟨by rw [HN.out]; rfl, 0, rfl⟩

/-- The same of an empty list and whatever. -/
theorem even_nil (va vb : Option Addr) (n m ca cb : Nat) (w : World) (h : n = 0 ∨ m = 0) (hn : n ≤ 1000000) (hm : m ≤ 1000000) :
    Calls Try.prog 37 #[.slice va n ca, .slice vb m cb] w fun e w' => e = .returned (.bool (decide (n = m))) ∧ ∃ q, w' = w.drewN q := by
  by_cases e : n = m
  · have e0 : n = 0 := by omega
    subst e
    subst e0
    go_enter Try.func37, Try.ntmps37
    go_wp2_with fail
    go_loop [5] (fun i => i = .int .i64 0) (fun _ => 0)
    case atStart => rfl
    case round =>
      subst hrel
      go_wp2
      go_ret
      exact ⟨rfl, 0, rfl⟩
  · have hne : ((n : Int) != (m : Int)) = true := by rw [bne_iff_ne]; omega
    have hd : decide (n = m) = false := by simp [e]
    rw [hd]
    clear hd e h
    go_enter Try.func37, Try.ntmps37
    go_wp2
    go_ret
    exact ⟨rfl, 0, rfl⟩

theorem even_any (a b : List (Int × Int × Int)) (va vb : Value) (B B' : Nat) (w : World) (ha : a.length ≤ 1000000) (hb : b.length ≤ 1000000) (ra : Row3 w B va a) (rb : Row3 w B' vb b) :
    Calls Try.prog 37 #[va, vb] w fun e w' => e = .returned (.bool (sameB a b)) ∧ ∃ q, w' = w.drewN q := by
  rcases ra.sh with ⟨rfl, rfl⟩ | ⟨ga, ca, rfl, _, _, _, hca⟩
  · rcases rb.sh with ⟨rfl, rfl⟩ | ⟨gb, cb, rfl, _, _, _, hcb⟩
    · exact even_nil none none 0 0 0 0 w (.inl rfl) (by omega) (by omega)
    · have e : sameB [] b = decide (0 = b.length) := by
        unfold sameB; rw [Bool.eq_iff_iff]; simp
        constructor
        · intro h; rw [h]; rfl
        · intro h; exact List.eq_nil_of_length_eq_zero h.symm
      rw [e]
      exact even_nil none _ 0 b.length 0 cb w (.inl rfl) (by omega) hb
  · rcases rb.sh with ⟨rfl, rfl⟩ | ⟨gb, cb, rfl, _, _, _, hcb⟩
    · have e : sameB a [] = decide (a.length = 0) := by
        unfold sameB; rw [Bool.eq_iff_iff]; simp
      rw [e]
      exact even_nil _ none a.length 0 ca 0 w (.inr rfl) ha (by omega)
    · exact even_row a b ga ca gb cb w ha hb hca hcb
end Go.Proofs.Ytgjgjgihceijnaa

/- stencil.Open: a walk. -/
namespace Go.Proofs.Ytgjgjgihceijnaa
open Go.RowKit Go.Stn

/-- A cutter of the program in memory: its image, from lo on, and its condition. -/
structure CT (w : World) (cb lo : Nat) (s : ByteArray) (c bb vg vcap : Nat) (yb : Nat → Nat) (zb : Nat → Nat → Nat) : Prop where
  ok : imgOk s = true
  sz : s.size ≤ 120000
  hc : c < iM s
  mem : IM w s bb vg yb zb cb
  il : ILo s bb vg yb zb lo
  im : w.rangeAt cb 0 (imgC (.slice (some ⟨bb, 0, none⟩) (iR s) (iR s)) (lClassOf s) (.slice (some ⟨vg, 0, none⟩) (iM s) vcap))
  k1 : w.cell? ⟨cb, 258, none⟩ = some (.int .i64 c)
  fz : ∀ i, w.frozen? ⟨cb, i, none⟩ = false
  b0 : cb < w.heap.size
  b1 : lo ≤ cb

theorem CT.blocks {w w' : World} {cb lo : Nat} {s : ByteArray} {c bb vg vcap : Nat} {yb : Nat → Nat} {zb : Nat → Nat → Nat} (h : CT w cb lo s c bb vg vcap yb zb) (hB : ∀ k, lo ≤ k → k ≤ cb → w'.heap[k]? = w.heap[k]?) (hz : w.heap.size ≤ w'.heap.size) : CT w' cb lo s c bb vg vcap yb zb :=
  ⟨h.ok, h.sz, h.hc, h.mem.blocks h.il (fun k h1 h2 => hB k h1 (Nat.le_of_lt h2)), h.il, fun j v hv => (World.cell?_of_block (w := w) (a := ⟨cb, 0 + j, none⟩) (hB cb h.b1 (Nat.le_refl _))).trans (h.im j v hv),
    (World.cell?_of_block (w := w) (a := ⟨cb, 258, none⟩) (hB cb h.b1 (Nat.le_refl _))).trans h.k1, fun i => (World.frozen?_of_block (w := w) (a := ⟨cb, i, none⟩) (hB cb h.b1 (Nat.le_refl _))).trans (h.fz i), Nat.lt_of_lt_of_le h.b0 hz, h.b1⟩

theorem Try.ctrZero : ((Try.prog.info? 117).map (·.zero)) = some (some (.agg Try.zeroCells117)) := by kernel_rfl
theorem Try.ctrZeroSize : Try.zeroCells117.size = 259 := by kernel_rfl
theorem Try.ctrZeroTail : Try.zeroCells117[258]? = some (.int .i64 0) := by kernel_rfl
theorem Try.ctrSize : (Try.prog.info? 117).map (·.size) = some 259 := by kernel_rfl
theorem Try.ctrZeroOne : Try.zeroCells117.all (·.oneCell') = true := by kernel_rfl
theorem Try.ctrPlaces : (match Try.prog.underlying 117 with
    | some (.struct fs) => fs.toList.mapM (fun f => (Try.prog.info? f.type).map fun i => (f.offset, i.size))
    | _ => none) = some [(0, 258), (258, 1)] := by kernel_rfl
theorem Try.ctrBuilt (parts : List (Nat × Value)) : Try.prog.built 117 parts = Instr.fill ([(0, 258), (258, 1)].toArray[·]?) Try.zeroCells117 parts := by
  have h0 := Try.ctrZero
  have hp := Try.ctrPlaces
  generalize Try.zeroCells117 = Z at *
  unfold Program.built
  cases hi : Try.prog.info? 117 with
  | none => rw [hi] at h0; cases h0
  | some it =>
    rw [hi] at h0
    have hz : it.zero = some (.agg Z) := by simpa using h0
    cases hu : Try.prog.underlying 117 with
    | none => rw [hu] at hp; cases hp
    | some d =>
      rw [hu] at hp
      cases d with
      | struct fs =>
        simp only at hp
        simp only [hz, hp, Value.cells]
      | _ => cases hp

/-- The cells of a new cutter. -/
theorem ctr_built (A : Array Value) (hA : A.size = 258) (hone : A.all (·.oneCell') = true) : ∃ C : Array Value, Try.prog.built 117 [(0, .agg A)] = some C ∧ C.size = 259 ∧ C.all (·.oneCell') = true ∧
    (∀ k, k < 258 → C[k]? = A[k]?) ∧ C[258]? = some (.int .i64 0) := by
  have hz := Try.ctrZeroSize
  have ht := Try.ctrZeroTail
  have ho := Try.ctrZeroOne
  rw [Try.ctrBuilt]
  generalize Try.zeroCells117 = Z at *
  obtain ⟨s1, g1⟩ := fill_get 0 A Z
  refine ⟨A.zipIdx.foldl (fun cs x => cs.setIfInBounds (0 + x.2) x.1) Z, ?_, by rw [s1, hz], ?_, fun k hk => ?_, ?_⟩
  · have e1 : (Value.agg A).cells = A := rfl
    unfold Instr.fill
    simp only [List.getElem?_toArray, List.getElem?_cons_zero, e1, hA, hz]
    rw [if_neg (by decide)]
    unfold Instr.fill
    rfl
  · rw [Array.all_eq_true]
    intro i hi
    have hv := Array.getElem?_eq_getElem hi
    rw [g1] at hv
    generalize (A.zipIdx.foldl (fun cs x => cs.setIfInBounds (0 + x.2) x.1) Z)[i] = u at *
    split at hv
    · exact all_get hone hv
    · exact all_get ho hv
  · rw [g1, if_pos (by omega)]; rfl
  · rw [g1, if_neg (by omega)]; exact ht

/-- What Open comes to. -/
def OpenOut (w : World) (s : ByteArray) (e : Ending) (w' : World) : Prop :=
  Below w.heap.size w w' ∧ ((¬ (s.size ≤ 120000 ∧ imgOk s = true) ∧ e = .returned (.tuple #[.pointer none, .int .i64 (chk s)])) ∨ (s.size ≤ 120000 ∧ imgOk s = true ∧
    ∃ (cb bb vg vcap : Nat) (yb : Nat → Nat) (zb : Nat → Nat → Nat), e = .returned (.tuple #[.pointer (some ⟨cb, 0, none⟩), .int .i64 0]) ∧ CT w' cb w.heap.size s 0 bb vg vcap yb zb))

set_option maxRecDepth 100000 in
set_option maxHeartbeats 1000000 in
theorem popen_any (s : ByteArray) (w : World) :
    Calls Try.prog 34 #[.string s] w fun e w' => OpenOut w s e w' := by
  go_enter Try.func34, Try.ntmps34
  go_wp2_with fail
  refine (lread_any s _).mono ?_
  by_cases hok : s.size ≤ 120000 ∧ imgOk s = true
  · rintro e w1 ⟨hb1, ⟨hno, _⟩ | ⟨_, hi, bb, vc, ys, rfl, hn, ho, hm, hc, hk⟩⟩
    · exact absurd hok hno
    obtain ⟨vg, cap, yb, zb, rfl, him, hil⟩ := read_mem hi hn ho hm hc hk
    have hlen := imgC_len (.slice (some ⟨bb, 0, none⟩) (lRules s) (lRules s)) (lClassOf s) (.slice (some ⟨vg, 0, none⟩) (iM s) cap) (by unfold lClassOf; rw [numsP_len]; rfl)
    have hone := imgC_one (vb := .slice (some ⟨bb, 0, none⟩) (lRules s) (lRules s)) (vc := .slice (some ⟨vg, 0, none⟩) (iM s) cap) (cs := lClassOf s) rfl rfl
    obtain ⟨IL, EIL⟩ : ∃ l, imgC (.slice (some ⟨bb, 0, none⟩) (lRules s) (lRules s)) (lClassOf s) (.slice (some ⟨vg, 0, none⟩) (iM s) cap) = l := ⟨_, rfl⟩
    rw [EIL] at hlen hone ⊢
    have HTL : Hid (IL.toArray.toList = IL) := by unfold Hid; simp
    have HSZ : Hid (IL.toArray.size = 258) := by unfold Hid; simpa using hlen
    have HALL : Hid (IL.toArray.all (·.oneCell') = true) := all_oneCell_toArray hone
    obtain ⟨A, EA⟩ : ∃ a, IL.toArray = a := ⟨_, rfl⟩
    rw [EA] at HTL HSZ HALL ⊢
    have HA : Hid (A.toList = imgC (.slice (some ⟨bb, 0, none⟩) (iR s) (iR s)) (lClassOf s) (.slice (some ⟨vg, 0, none⟩) (iM s) cap)) := by
      unfold Hid; rw [HTL.out, ← EIL, (img_read hi).ru]
    have HIM := hidZ him
    have HIL := hidZ hil
    have HI := hidZ hi
    have HB1 := hidZ hb1
    have HOK := hidZ hok
    obtain ⟨C, hbu, hCs, hCo, hC0, hC1⟩ := ctr_built A HSZ.out HALL.out
    have HBU := hidZ hbu
    have HSC := hidZ hCs
    have HOC := hidZ hCo
    clear EIL hlen hone EA HTL him hi hb1 hn ho hm hc hok hil hk hbu hCs hCo
    have HN2 := hidZ (there_newA w1 Try.zeroCells75 75 w1.heap.size 258 Try.imgZero rfl)
    have HBS : Hid (Below w1.heap.size w1 ((w1.alloc (.cells Try.zeroCells75 75)).setCells w1.heap.size 0 A.toList)) := below_setCells _ 0 _ w1.heap.size ((Below.refl _ _).alloc (Nat.le_refl _) _) (Nat.le_refl _)
    have HRI : Hid (((w1.alloc (.cells Try.zeroCells75 75)).setCells w1.heap.size 0 A.toList).rangeAt w1.heap.size 0 A.toList) := World.rangeAt_setCells_same _ _ _ _ (by rw [Array.length_toList, HSZ.out]; exact HN2.out)
    have HIM2 : Hid (IM ((w1.alloc (.cells Try.zeroCells75 75)).setCells w1.heap.size 0 A.toList) s bb vg yb zb ((w1.alloc (.cells Try.zeroCells75 75)).setCells w1.heap.size 0 A.toList).heap.size) := (HIM.out.below HBS.out (Nat.le_refl _)).mono HBS.out.size
    have HB2 : Hid (Below w.heap.size w ((w1.alloc (.cells Try.zeroCells75 75)).setCells w1.heap.size 0 A.toList)) := HB1.out.trans (HBS.out.mono HB1.out.size)
    generalize hW2 : (w1.alloc (.cells Try.zeroCells75 75)).setCells w1.heap.size 0 A.toList = w2 at *
    replace hW2 := hidZ hW2
    clear HIM HB1 HBS
    have HC0 := hidZ hC0
    have HC1 := hidZ hC1
    clear hC0 hC1
    go_wp2_with (first
      | (refine wpList_store_mid rfl 75 (.tmp 4) (.tmp 9) rfl w1.heap.size 0 A rfl rfl ?_ ?_ HALL.out ?_; (rw [HSZ.out]; exact HN2.out); (rw [HSZ.out]; exact Try.imgSize); rw [hW2.out])
      | (refine wpList_load_mid rfl 75 (.tmp 4) rfl w1.heap.size 0 rfl A.toList _ HRI.out Try.underlying75 rfl ?_ ?_; (rw [Array.length_toList, HSZ.out]; exact Try.imgSize); rw [Array.toArray_toList])
      | (refine wpList_buildTo rfl 117 _ rfl _ rfl C ?_ ?_; (simp only [List.map_toArray, List.map_cons, List.map_nil]; exact HBU.out))
      | (refine wpList_boxTo rfl 117 (.tmp 15) rfl _ rfl w2.heap.size rfl C rfl ?_)
      | fail)
    go_ret2
    have hr := rangeAt_new w2 C 117
    have hbn : Below w2.heap.size w2 (w2.alloc (.cells C 117)) := (Below.refl _ _).alloc (Nat.le_refl _) _
    have hz := HB2.out.size
    have cellC : ∀ k v, C[k]? = some v → (w2.alloc (.cells C 117)).cell? ⟨w2.heap.size, k, none⟩ = some v := fun k v hv => by
      have := hr k v (by simpa using hv); rw [Nat.zero_add] at this; exact this
    refine ⟨HB2.out.trans (hbn.mono hz), .inr ⟨HOK.out.1, HOK.out.2, w2.heap.size, bb, vg, cap, yb, zb, rfl, HOK.out.2, HOK.out.1, (img_head HI.out).2.2.1, HIM2.out.below hbn (Nat.le_refl _), HIL.out, ?_, cellC _ _ HC1.out, fun i => by rw [World.frozen?_alloc_new], by simp, hz⟩⟩
    intro j u hu
    have hj : j < 258 := by
      have := (List.getElem?_eq_some_iff.1 hu).1
      rw [imgC_len _ _ _ (by unfold lClassOf; rw [numsP_len]; rfl)] at this; exact this
    rw [Nat.zero_add]
    refine cellC j u ((HC0.out j hj).trans ?_)
    rw [← HA.out] at hu
    simpa using hu
  · have hne : ((chk s : Int) != 0) = true := by
      rw [bne_iff_ne]
      unfold chk
      by_cases h1 : 120000 < s.size
      · rw [if_pos h1]; decide
      · have h2 : ¬ imgOk s = true := fun h => hok ⟨by omega, h⟩
        rw [if_neg h1, if_neg h2]; decide
    have HNO := hidZ hok
    rintro e w1 ⟨hb1, ⟨_, rfl⟩ | ⟨h1, h2, _⟩⟩
    · have HB1 := hidZ hb1
      have HN2 := hidZ (there_newA w1 Try.zeroCells75 75 w1.heap.size 258 Try.imgZero rfl)
      have HBS : Hid (Below w1.heap.size w1 ((w1.alloc (.cells Try.zeroCells75 75)).setCells w1.heap.size 0 Try.zeroCells75.toList)) := below_setCells _ 0 _ w1.heap.size ((Below.refl _ _).alloc (Nat.le_refl _) _) (Nat.le_refl _)
      clear hb1 hok
      obtain ⟨ck, hck⟩ : ∃ ck, chk s = ck := ⟨_, rfl⟩
      rw [hck] at hne ⊢
      replace hck := hidZ hck
      go_wp2_with (first
        | (refine wpList_store_mid rfl 75 (.tmp 4) (.tmp 9) rfl w1.heap.size 0 Try.zeroCells75 rfl rfl ?_ ?_ Try.imgZeroOne ?_; (rw [Try.imgZero]; exact HN2.out); (rw [Try.imgZero]; exact Try.imgSize))
        | fail)
      go_ret2
      exact ⟨HB1.out.trans (HBS.out.mono HB1.out.size), .inl ⟨HNO.out, by rw [hck.out]; rfl⟩⟩
    · exact absurd ⟨h1, h2⟩ hok
end Go.Proofs.Ytgjgjgihceijnaa

/- The cutter's Cond and Next: walks. -/
namespace Go.Stn
open Go.RowKit
theorem runP_cond {s inp : ByteArray} (hi : imgOk s = true) : ∀ (f p c : Nat) (H : List (Int × Int × Int)) (n : Nat) (T : List (Int × Int × Int)), c < iM s → (runP s inp f p c H n T).2.2 < iM s := by
  intro f
  induction f with
  | zero => intro p c H n T h; rw [runP]; exact h
  | succ e ih =>
    intro p c H n T hc
    by_cases hlt : p < inp.size
    · rcases lng_cases hi hc (Nat.le_of_lt hlt) with hno | ⟨r, q, hyes, hr, hpq, hq⟩
      · rw [runP_none hlt hno]; exact hc
      · rw [runP_some hlt hyes]
        have := then_le hi hr
        exact ih q _ _ _ _ (by split <;> omega)
    · rw [runP_end hlt]; exact hc
theorem cutP_cond {s inp : ByteArray} (hi : imgOk s = true) {c : Nat} (hc : c < iM s) : (cutP s inp c).2.2 < iM s := runP_cond hi _ _ _ _ _ _ hc
end Go.Stn
namespace Go.Proofs.Ytgjgjgihceijnaa
open Go.RowKit Go.Stn

def cellsOf (X : World) (v : Value) : Array Value := match v with
  | .pointer (some a) => ((List.range 258).map fun i => (X.cell? ⟨a.block, i, none⟩).getD undef).toArray
  | _ => #[]
def loadsImg (X : World) (v : Value) : Prop := ∃ B cs, v = .pointer (some ⟨B, 0, none⟩) ∧ cs.length = 258 ∧ X.rangeAt B 0 cs
theorem cellsOf_eq {X : World} {B : Nat} {cs : List Value} (hl : cs.length = 258) (hr : X.rangeAt B 0 cs) : cellsOf X (.pointer (some ⟨B, 0, none⟩)) = cs.toArray := by
  have e : ((List.range 258).map fun i => (X.cell? ⟨B, i, none⟩).getD undef) = cs := by
    refine List.ext_getElem (by simp [hl]) (fun i h1 h2 => ?_)
    have := hr i cs[i] (List.getElem?_eq_getElem h2)
    rw [Nat.zero_add] at this
    simp [this]
  show ((List.range 258).map fun i => (X.cell? ⟨B, i, none⟩).getD undef).toArray = cs.toArray
  rw [e]
theorem Try.wpLoadImg {d : Option Tmp} {x : Operand} {ty : TypeId} {p : String} {af : Array Edge} {gd : Option (Nat × Bool)} {a : Act} {X : World} {K : Act → World → Prop} {Q : Exit → Act → World → Prop}
    (h : loadsImg X (a.eval x)) :
    Oper.wp Try.prog { dst := d, op := .load 75 x, type := ty, pos := p, after := af, guard := gd } a X K Q = K (a.put d (.agg (cellsOf X (a.eval x)))) X := by
  obtain ⟨B, cs, hx, hl, hb⟩ := h
  have hr := run_loadVar_mid (P := Try.prog) X B 0 75 cs _ hb Try.underlying75 rfl (by rw [hl]; exact Try.imgSize)
  unfold Oper.wp execOp
  simp only [hx, Instr.loadAt, Instr.sureAddr, Sem.run_bind, Sem.run_pure, Result.andThen_ok, hr, cellsOf_eq hl hb]
  rfl

theorem pcond_any {w : World} {cb lo : Nat} {s : ByteArray} {c bb vg vcap : Nat} {yb : Nat → Nat} {zb : Nat → Nat → Nat} (h : CT w cb lo s c bb vg vcap yb zb) :
    Calls Try.prog 35 #[.pointer (some ⟨cb, 0, none⟩)] w fun e w' => e = .returned (.int .i64 c) ∧ w' = w := by
  have k1 := h.k1
  clear h
  go_enter Try.func35, Try.ntmps35
  go_wp2
  go_ret
  exact ⟨rfl, rfl⟩

theorem CT.setC {w : World} {cb lo : Nat} {s : ByteArray} {c bb vg vcap : Nat} {yb : Nat → Nat} {zb : Nat → Nat → Nat} (h : CT w cb lo s c bb vg vcap yb zb) (c' : Nat) (hc : c' < iM s) : CT (w.setCell ⟨cb, 258, none⟩ (.int .i64 (c' : Int))) cb lo s c' bb vg vcap yb zb := by
  have hlen : (imgC (.slice (some ⟨bb, 0, none⟩) (iR s) (iR s)) (lClassOf s) (.slice (some ⟨vg, 0, none⟩) (iM s) vcap)).length = 258 := imgC_len _ _ _ (by unfold lClassOf; rw [numsP_len]; rfl)
  refine ⟨h.ok, h.sz, hc, h.mem.blocks h.il (fun k _ hk => Below.heap_setCell w ⟨cb, 258, none⟩ _ k (by intro e; subst e; exact Nat.lt_irrefl _ hk)), h.il, fun j v hv => ?_, World.cell?_setCell_same _ _ _ h.k1, fun i => by rw [World.frozen?_setCell]; exact h.fz i, by have := h.b0; simp [World.setCell]; omega, h.b1⟩
  have hj : j < 258 := by rw [← hlen]; exact (List.getElem?_eq_some_iff.1 hv).1
  rw [World.cell?_setCell_other (h := by intro e; injection e; omega)]
  exact h.im j v hv

/-- What Next comes to. -/
def NextOut (w : World) (cb lo : Nat) (s inp : ByteArray) (c bb vg vcap : Nat) (yb : Nat → Nat) (zb : Nat → Nat → Nat) (e : Ending) (w' : World) : Prop :=
  ∃ vt, e = .returned (.tuple #[vt, .int .i64 0]) ∧ w'.ownsRow w.heap.size 61 3 vt (cutP s inp c).1.length (cells3 (cutP s inp c).1) ∧
    CT w' cb lo s (cutP s inp c).2.2 bb vg vcap yb zb ∧ w.grownBy w' (some cb)

theorem pnext_long {w : World} {cb : Nat} {inp : ByteArray} (hl : 300 < inp.size) :
    Calls Try.prog 36 #[.pointer (some ⟨cb, 0, none⟩), .string inp] w fun e w' => e = .returned (.tuple #[.slice none 0 0, .int .i64 1]) ∧ w' = w := by
  have hd : decide ((300 : Int) < (inp.size : Int)) = true := by simp; omega
  go_enter Try.func36, Try.ntmps36
  go_wp2
  go_ret2
  exact ⟨rfl, rfl⟩

attribute [local go_sem ↓] Go.wp_at_zero Go.wp_at_succ Try.wpLoadImg

set_option maxRecDepth 100000 in
set_option maxHeartbeats 1000000 in
theorem pnext_any {w : World} {cb lo : Nat} {s inp : ByteArray} {c bb vg vcap : Nat} {yb : Nat → Nat} {zb : Nat → Nat → Nat} (h : CT w cb lo s c bb vg vcap yb zb) (hl : inp.size ≤ 300) :
    Calls Try.prog 36 #[.pointer (some ⟨cb, 0, none⟩), .string inp] w fun e w' => NextOut w cb lo s inp c bb vg vcap yb zb e w' := by
  have hd : decide ((300 : Int) < (inp.size : Int)) = false := by simp; omega
  have HC := hidZ h
  have k1 := h.k1
  have hb0 := h.b0
  have hlen : (imgC (.slice (some ⟨bb, 0, none⟩) (iR s) (iR s)) (lClassOf s) (.slice (some ⟨vg, 0, none⟩) (iM s) vcap)).length = 258 := imgC_len _ _ _ (by unfold lClassOf; rw [numsP_len]; rfl)
  have hld : loadsImg w.drew (.pointer (some ⟨cb, 0, none⟩)) := ⟨cb, _, rfl, hlen, h.im⟩
  have hic : cellsOf w.drew (.pointer (some ⟨cb, 0, none⟩)) = (imgC (.slice (some ⟨bb, 0, none⟩) (iR s) (iR s)) (lClassOf s) (.slice (some ⟨vg, 0, none⟩) (iM s) vcap)).toArray := cellsOf_eq hlen h.im
  have HA : Hid ((imgC (.slice (some ⟨bb, 0, none⟩) (iR s) (iR s)) (lClassOf s) (.slice (some ⟨vg, 0, none⟩) (iM s) vcap)).toArray.toList = imgC (.slice (some ⟨bb, 0, none⟩) (iR s) (iR s)) (lClassOf s) (.slice (some ⟨vg, 0, none⟩) (iM s) vcap)) := by unfold Hid; simp
  generalize (imgC (.slice (some ⟨bb, 0, none⟩) (iR s) (iR s)) (lClassOf s) (.slice (some ⟨vg, 0, none⟩) (iM s) vcap)).toArray = A at *
  clear hlen h
  go_enter Try.func36, Try.ntmps36
  go_wp2_with fail
  go_region_with (go_at_call 46; refine (ccut_any s inp c bb vg vcap yb zb A w.drew HC.out.ok hl HC.out.hc HA.out ((HC.out.mem.mono (Nat.le_of_lt hb0)).drewN 1)).mono ?_; rintro e w1 ⟨vt, rfl, hrow, hb1⟩)
  all_goals
    have HB1 : Hid (Below w.heap.size w w1) := ⟨hb1.os, hb1.tape, hb1.output, hb1.size, hb1.block⟩
    have HR1 := hidZ hrow
    have HC1 := hidZ (HC.out.blocks (w' := w1) (fun k _ hk => HB1.out.block k (by omega)) HB1.out.size)
    have k2 := HC1.out.k1
    have f2 := HC1.out.fz 258
    have hcc := cutP_cond (inp := inp) HC.out.ok HC.out.hc
    have HCC := hidZ hcc
    clear hrow hb1 hcc k1 hld hic
    go_wp2
    go_ret2
    refine ⟨vt, rfl, ?_, HC1.out.setC _ HCC.out, grown_set (grown_of_below HB1.out (Nat.le_refl _) _) _ _⟩
    exact ownsRow_base (ownsRow_setCell_below HR1.out (by show cb < w.heap.size + 1 + 1; omega) _) (by show w.heap.size ≤ w.heap.size + 1 + 1; omega)
end Go.Proofs.Ytgjgjgihceijnaa

/- stencilkeep.Cutting: a walk. -/
namespace Go.Proofs.Ytgjgjgihceijnaa
open Go.RowKit Go.Stn

theorem Row3.grown {w w' : World} {B : Nat} {v : Value} {l : List (Int × Int × Int)} (h : Row3 w B v l) (hk : ∀ k, k < B → v.ownBlock = some k → w'.heap[k]? = w.heap[k]?) (hb : B ≤ w'.heap.size) : Row3 w' w'.heap.size v l := by
  refine ⟨?_⟩
  rcases h.sh with h0 | ⟨g, cap, rfl, hg, h1, h2, h3⟩
  · exact .inl h0
  · have e := hk g hg rfl
    refine .inr ⟨g, cap, rfl, by omega, h1, h2, fun k x hx => ?_⟩
    obtain ⟨a, b, c⟩ := h3 k x hx
    exact ⟨(World.cell?_of_block (w := w) (a := ⟨g, k * 3, none⟩) e).trans a, (World.cell?_of_block (w := w) (a := ⟨g, k * 3 + 1, none⟩) e).trans b, (World.cell?_of_block (w := w) (a := ⟨g, k * 3 + 2, none⟩) e).trans c⟩

/-- What Next tells: the tokens, the word, the condition behind. -/
def nextT (s inp : ByteArray) (c : Nat) : List (Int × Int × Int) := if 300 < inp.size then [] else (cutP s inp c).1
def nextE (inp : ByteArray) : Int := if 300 < inp.size then 1 else 0
def nextC (s inp : ByteArray) (c : Nat) : Nat := if 300 < inp.size then c else (cutP s inp c).2.2

theorem pnext_all {w : World} {cb lo : Nat} {s inp : ByteArray} {c bb vg vcap : Nat} {yb : Nat → Nat} {zb : Nat → Nat → Nat} (h : CT w cb lo s c bb vg vcap yb zb) :
    Calls Try.prog 36 #[.pointer (some ⟨cb, 0, none⟩), .string inp] w fun e w' => ∃ vt, e = .returned (.tuple #[vt, .int .i64 (nextE inp)]) ∧ Row3 w' w'.heap.size vt (nextT s inp c) ∧ (∀ k, vt.ownBlock = some k → w.heap.size ≤ k) ∧
      CT w' cb lo s (nextC s inp c) bb vg vcap yb zb ∧ w.grownBy w' (some cb) := by
  unfold nextT nextE nextC
  by_cases hl : 300 < inp.size
  · rw [if_pos hl, if_pos hl, if_pos hl]
    refine (pnext_long hl).mono ?_
    rintro e w' ⟨rfl, rfl⟩
    exact ⟨_, rfl, ownsRow_row3 (World.ownsRow_nil w' w'.heap.size 61 3), fun k hk => by simp [Value.ownBlock] at hk, h, World.grownBy.refl _ _⟩
  · rw [if_neg hl, if_neg hl, if_neg hl]
    refine (pnext_any h (by omega)).mono ?_
    rintro e w' ⟨vt, rfl, hr, hc, hg⟩
    exact ⟨vt, rfl, ownsRow_row3 hr, fun k hk => (hr.lt k hk).1, hc, hg⟩

theorem nextT_len (s inp : ByteArray) (c : Nat) (hi : imgOk s = true) (hc : c < iM s) : (nextT s inp c).length ≤ 1000 := by
  unfold nextT
  split
  · simp
  · rename_i h
    have := runP_told (inp := inp) hi (inp.size + 1) 0 c [] 0 [] hc
    unfold cutP
    simp at this ⊢
    omega

theorem scan_next (s inp : ByteArray) (hs : s.size ≤ 120000) (hi : imgOk s = true) : (scanR s inp).1 = nextT s inp 0 ∧ (scanR s inp).2.2 = nextE inp := by
  unfold scanR nextT nextE
  by_cases h : 300 < inp.size
  · rw [if_pos (.inr h), if_pos h, if_pos h]; exact ⟨rfl, rfl⟩
  · rw [if_neg (by omega), if_pos hi, if_neg h, if_neg h]; exact ⟨rfl, rfl⟩

set_option maxRecDepth 100000 in
set_option maxHeartbeats 2000000 in
theorem cutting_no (s one two long : ByteArray) (hs : s.size ≤ maxLen) (hne : ((chk s : Int) != 0) = true) (hno : ¬ (s.size ≤ 120000 ∧ imgOk s = true)) (w : World) :
    Calls Try.prog 10 #[.string s, .string one, .string two, .string long] w fun e w' => e = .returned (.bool true) ∧ Below w.heap.size w w' := by
  have hck := pcheck_any s
  have hop : ∀ w, Calls Try.prog 34 #[.string s] w fun e w' => Below w.heap.size w w' ∧ e = .returned (.tuple #[.pointer none, .int .i64 (chk s)]) := fun w => by
    refine (popen_any s w).mono ?_
    rintro e w' ⟨hb, ⟨_, rfl⟩ | ⟨h1, h2, _⟩⟩
    · exact ⟨hb, rfl⟩
    · exact absurd ⟨h1, h2⟩ hno
  generalize chk s = ck at *
  have hee : ((ck : Int) == ck) = true := beq_self_eq_true _
  clear hno
  go_enter Try.func10, Try.ntmps10
  go_wp2_with fail
  refine (kex_any _).mono ?_
  rintro e w1 ⟨rfl, hb1⟩
  have HB1 := hidZ hb1
  clear hb1
  go_wp2_with fail
  refine (hck _ hs).mono ?_
  rintro e w2 ⟨rfl, hb2⟩
  have HB2 := hidZ (HB1.out.trans (hb2.mono HB1.out.size))
  clear hb2 HB1
  go_wp2_with fail
  refine (hop _).mono ?_
  rintro e w3 ⟨hb3, rfl⟩
  have HB3 := hidZ (HB2.out.trans (hb3.mono HB2.out.size))
  clear hb3 HB2
  go_wp2_with fail
  refine (hop _).mono ?_
  rintro e w4 ⟨hb4, rfl⟩
  have HB4 := hidZ (HB3.out.trans (hb4.mono HB3.out.size))
  clear hb4 HB3 hck hop
  go_wp2
  go_ret
  exact ⟨rfl, HB4.out⟩

set_option maxRecDepth 100000 in
set_option maxHeartbeats 4000000 in
theorem cutting_yes (s one two long : ByteArray) (hs : s.size ≤ 120000) (hi : imgOk s = true) (h1 : one.size ≤ maxLen) (hlo : long.size ≤ maxLen) (w : World) :
    Calls Try.prog 10 #[.string s, .string one, .string two, .string long] w fun e w' => e = .returned (.bool true) ∧ Below w.heap.size w w' := by
  have hck := pcheck_any s
  have hck0 : chk s = 0 := chk_yes hs hi
  rw [hck0] at hck
  have hop : ∀ w, Calls Try.prog 34 #[.string s] w fun e w' => Below w.heap.size w w' ∧ ∃ (cb bb vg vcap : Nat) (yb : Nat → Nat) (zb : Nat → Nat → Nat), e = .returned (.tuple #[.pointer (some ⟨cb, 0, none⟩), .int .i64 0]) ∧ CT w' cb w.heap.size s 0 bb vg vcap yb zb := fun w => by
    refine (popen_any s w).mono ?_
    rintro e w' ⟨hb, ⟨hno, _⟩ | ⟨_, _, h⟩⟩
    · exact absurd ⟨hs, hi⟩ hno
    · exact ⟨hb, h⟩
  have hsn := scan_next s one hs hi
  have hsc := fun w => pscan_any s one w (by unfold maxLen; omega) h1
  rw [hsn.1, hsn.2] at hsc
  have HLT1 := hidZ (nextT_len s one 0 hi (img_head hi).2.2.1)
  have HLT2 := hidZ (fun c hc => nextT_len s two c hi hc)
  clear hck0 hsn
  have hM := (img_head hi).2.2.1
  unfold maxLen at hlo
  go_enter Try.func10, Try.ntmps10
  go_wp2_with fail
  refine (kex_any _).mono ?_
  rintro e w1 ⟨rfl, hb1⟩
  have HB1 := hidZ hb1
  clear hb1
  go_wp2_with fail
  refine (hck _ (by unfold maxLen; omega)).mono ?_
  rintro e w2 ⟨rfl, hb2⟩
  have HB2 := hidZ (HB1.out.trans (hb2.mono HB1.out.size))
  clear hb2 HB1
  go_wp2_with fail
  refine (hop _).mono ?_
  rintro e w3 ⟨hb3, xb, bb, vg, vcap, yb, zb, rfl, hX3⟩
  have HB3 := hidZ (HB2.out.trans (hb3.mono HB2.out.size))
  have HX3 := hidZ hX3
  clear hb3 hX3
  go_wp2_with fail
  refine (hop _).mono ?_
  rintro e w4 ⟨hb4, yc, bb', vg', vcap', yb', zb', rfl, hY4⟩
  have HB4 := hidZ (HB3.out.trans (hb4.mono HB3.out.size))
  have HX4 := hidZ (HX3.out.blocks (w' := w4) (fun k _ hk => hb4.block k (by have := HX3.out.b0; omega)) hb4.size)
  have HY4 := hidZ hY4
  have hxy : xb < w3.heap.size := HX3.out.b0
  have hyl : w3.heap.size ≤ yc := HY4.out.b1
  have hxw : w.heap.size ≤ xb := by have := HX3.out.b1; have := HB2.out.size; omega
  have hyz : yc < w4.heap.size := HY4.out.b0
  clear hb4 hY4 hck hop HB3 HX3 HB2
  go_wp2_with fail
  refine (pcond_any HX4.out).mono ?_
  rintro e w4 ⟨rfl, rfl⟩
  go_wp2_with fail
  refine (pnext_all (inp := one) HX4.out).mono ?_
  rintro e w5 ⟨va, rfl, hra, hva, hX5, hg5⟩
  have HX5 := hidZ hX5
  have HY5 := hidZ (HY4.out.blocks (w' := w5) (fun k k1 k2 => hg5.block k (by omega) (by intro e; injection e; omega)) hg5.size)
  have HB5 := hidZ (HB4.out.trans ((grown_below hg5 (by omega)).mono hxw))
  have HRA5 := hidZ hra
  have HVA : Hid (∀ k, va.ownBlock = some k → w4.heap.size ≤ k) := hva
  have hz5 := hg5.size
  clear hra hva hX5 hg5 HX4 HY4 HB4
  have hcc : nextC s one 0 < iM s := HX5.out.hc
  have HLT3 := hidZ (HLT2.out _ hcc)
  clear hcc
  generalize hE1 : nextE one = E1 at *
  generalize hC1 : nextC s one 0 = C1 at *
  generalize hT1 : nextT s one 0 = T1 at *
  have hee : (E1 != E1) = false := by simp
  have hee2 : (E1 == E1) = true := by simp
  go_wp2_with fail
  refine (hsc _).mono ?_
  rintro e w6 ⟨vl, rfl, hrl, hb6⟩
  have HRL := hidZ hrl
  have HRA6 := hidZ (HRA5.out.below hb6 (Nat.le_refl _))
  have HX6 := hidZ (HX5.out.blocks (w' := w6) (fun k _ k2 => hb6.block k (by omega)) hb6.size)
  have HY6 := hidZ (HY5.out.blocks (w' := w6) (fun k _ k2 => hb6.block k (by omega)) hb6.size)
  have HB6 := hidZ (HB5.out.trans (hb6.mono HB5.out.size))
  have hz6 := hb6.size
  clear hrl hb6 HX5 HY5 HB5 HRA5 hsc
  go_wp2_with fail
  refine (even_any T1 T1 va vl _ _ _ (by have := HLT1.out; omega) (by have := HLT1.out; omega) HRA6.out HRL.out).mono ?_
  rintro e w7 ⟨rfl, q7, hw7⟩
  rw [sameB_refl]
  have HRA7 : Hid (Row3 w7 w7.heap.size va T1) := by rw [hw7]; exact HRA6.out.grown (fun _ _ _ => rfl) hz6
  have HX7 : Hid (CT w7 xb w2.heap.size s C1 bb vg vcap yb zb) := by rw [hw7]; exact HX6.out.blocks (fun _ _ _ => rfl) (Nat.le_refl _)
  have HY7 : Hid (CT w7 yc w3.heap.size s 0 bb' vg' vcap' yb' zb') := by rw [hw7]; exact HY6.out.blocks (fun _ _ _ => rfl) (Nat.le_refl _)
  have HB7 : Hid (Below w.heap.size w w7) := by rw [hw7]; exact ⟨HB6.out.os, HB6.out.tape, HB6.out.output, HB6.out.size, HB6.out.block⟩
  have hz7 : w7.heap.size = w6.heap.size := by rw [hw7]; rfl
  have hz7' : w5.heap.size ≤ w7.heap.size := by omega
  clear hw7 hz7 HRA6 HX6 HY6 HB6 HRL hz6
  go_wp2_with fail
  refine (pcond_any HX7.out).mono ?_
  rintro e w7 ⟨rfl, rfl⟩
  have hcc : ((C1 : Int) != (C1 : Int)) = false := by simp
  have hX8 := pnext_all (inp := two) HX7.out
  have hY10 := fun w (h : CT w yc w3.heap.size s C1 bb' vg' vcap' yb' zb') => pnext_all (inp := two) h
  have hY9 := fun w (h : CT w yc w3.heap.size s 0 bb' vg' vcap' yb' zb') => pnext_all (inp := one) h
  rw [hE1, hC1, hT1] at hY9
  generalize nextE two = E2 at *
  generalize nextC s two C1 = C2 at *
  generalize nextT s two C1 = T2 at *
  have hff : (E2 == E2) = true := by simp
  have hgg : ((C1 : Int) == (C1 : Int)) = true := by simp
  have hhh : ((C2 : Int) == (C2 : Int)) = true := by simp
  clear hE1 hC1 hT1
  rcases Nat.lt_or_ge 300 long.size with hlong | hlong
  all_goals first
    | (have hll : 300 < long.size := hlong
       have hd : decide ((300 : Int) < (long.size : Int)) = true := by simp; omega
       go_wp2_with fail
       refine (pnext_long hlong).mono ?_
       rintro e w7 ⟨rfl, rfl⟩
       go_wp2_with fail
       refine (pcond_any HX7.out).mono ?_
       rintro e w7 ⟨rfl, rfl⟩
       go_wp2_with fail)
    | (have hll : long.size ≤ 300 := hlong
       have hd : decide ((300 : Int) < (long.size : Int)) = false := by simp; omega
       go_wp2_with fail)
  all_goals
    refine hX8.mono ?_
    rintro e w8 ⟨vb, rfl, hrb, hvb, hXX, hg8⟩
    have HX8 := hidZ hXX
    have HY8 := hidZ (HY7.out.blocks (w' := w8) (fun k k1 k2 => hg8.block k (by omega) (by intro e; injection e; omega)) hg8.size)
    have HB8 := hidZ (HB7.out.trans ((grown_below hg8 (by omega)).mono hxw))
    have HRA8 := hidZ (HRA7.out.grown (w' := w8) (fun k hk he => hg8.block k hk (by intro e; injection e; have := HVA.out k he; omega)) hg8.size)
    have HRB8 := hidZ hrb
    have HVB : Hid (∀ k, vb.ownBlock = some k → w7.heap.size ≤ k) := hvb
    have hz8 := hg8.size
    clear hrb hvb hXX hg8 HX7 HY7 HB7 HRA7 hX8
    go_wp2_with fail
    refine (hY9 _ HY8.out).mono ?_
    rintro e w9 ⟨vc, rfl, hrc, hvc, hYY, hg9⟩
    have HY9 := hidZ hYY
    have HX9 := hidZ (HX8.out.blocks (w' := w9) (fun k k1 k2 => hg9.block k (by omega) (by intro e; injection e; omega)) hg9.size)
    have HB9 := hidZ (HB8.out.trans ((grown_below hg9 (by omega)).mono (by omega)))
    have HRA9 := hidZ (HRA8.out.grown (w' := w9) (fun k hk he => hg9.block k hk (by intro e; injection e; have := HVA.out k he; omega)) hg9.size)
    have HRB9 := hidZ (HRB8.out.grown (w' := w9) (fun k hk he => hg9.block k hk (by intro e; injection e; have := HVB.out k he; omega)) hg9.size)
    have HRC9 := hidZ hrc
    have HVC : Hid (∀ k, vc.ownBlock = some k → w8.heap.size ≤ k) := hvc
    have hz9 := hg9.size
    clear hrc hvc hYY hg9 HX8 HY8 HB8 HRA8 HRB8 hY9
    go_wp2_with fail
    refine (pcond_any HY9.out).mono ?_
    rintro e w9 ⟨rfl, rfl⟩
    go_wp2_with fail
    refine (hY10 _ HY9.out).mono ?_
    rintro e w10 ⟨vd, rfl, hrd, hvd, hYY, hg10⟩
    have HY10 := hidZ hYY
    have HX10 := hidZ (HX9.out.blocks (w' := w10) (fun k k1 k2 => hg10.block k (by omega) (by intro e; injection e; omega)) hg10.size)
    have HB10 := hidZ (HB9.out.trans ((grown_below hg10 (by omega)).mono (by omega)))
    have HRA10 := hidZ (HRA9.out.grown (w' := w10) (fun k hk he => hg10.block k hk (by intro e; injection e; have := HVA.out k he; omega)) hg10.size)
    have HRB10 := hidZ (HRB9.out.grown (w' := w10) (fun k hk he => hg10.block k hk (by intro e; injection e; have := HVB.out k he; omega)) hg10.size)
    have HRC10 := hidZ (HRC9.out.grown (w' := w10) (fun k hk he => hg10.block k hk (by intro e; injection e; have := HVC.out k he; omega)) hg10.size)
    have HRD10 := hidZ hrd
    clear hrd hvd hYY hg10 HX9 HY9 HB9 HRA9 HRB9 HRC9 hY10
    go_wp2_with fail
    refine (even_any T1 T1 va vc _ _ _ (by have := HLT1.out; omega) (by have := HLT1.out; omega) HRA10.out HRC10.out).mono ?_
    rintro e w11 ⟨rfl, q11, hw11⟩
    rw [sameB_refl]
    have HX11 : Hid (CT w11 xb w2.heap.size s C2 bb vg vcap yb zb) := by rw [hw11]; exact HX10.out.blocks (fun _ _ _ => rfl) (Nat.le_refl _)
    have HY11 : Hid (CT w11 yc w3.heap.size s C2 bb' vg' vcap' yb' zb') := by rw [hw11]; exact HY10.out.blocks (fun _ _ _ => rfl) (Nat.le_refl _)
    have HB11 : Hid (Below w.heap.size w w11) := by rw [hw11]; exact ⟨HB10.out.os, HB10.out.tape, HB10.out.output, HB10.out.size, HB10.out.block⟩
    have HRB11 : Hid (Row3 w11 w11.heap.size vb T2) := by rw [hw11]; exact HRB10.out.grown (fun _ _ _ => rfl) (Nat.le_refl _)
    have HRD11 : Hid (Row3 w11 w11.heap.size vd T2) := by rw [hw11]; exact HRD10.out.grown (fun _ _ _ => rfl) (Nat.le_refl _)
    clear hw11 HX10 HY10 HB10 HRA10 HRB10 HRC10 HRD10
    go_wp2_with fail
    refine (even_any T2 T2 vb vd _ _ _ (by have := HLT3.out; omega) (by have := HLT3.out; omega) HRB11.out HRD11.out).mono ?_
    rintro e w12 ⟨rfl, q12, hw12⟩
    rw [sameB_refl]
    have HX12 : Hid (CT w12 xb w2.heap.size s C2 bb vg vcap yb zb) := by rw [hw12]; exact HX11.out.blocks (fun _ _ _ => rfl) (Nat.le_refl _)
    have HY12 : Hid (CT w12 yc w3.heap.size s C2 bb' vg' vcap' yb' zb') := by rw [hw12]; exact HY11.out.blocks (fun _ _ _ => rfl) (Nat.le_refl _)
    have HB12 : Hid (Below w.heap.size w w12) := by rw [hw12]; exact ⟨HB11.out.os, HB11.out.tape, HB11.out.output, HB11.out.size, HB11.out.block⟩
    clear hw12 HX11 HY11 HB11 HRB11 HRD11
    go_wp2_with fail
    refine (pcond_any HX12.out).mono ?_
    rintro e w12 ⟨rfl, rfl⟩
    go_wp2_with fail
    refine (pcond_any HY12.out).mono ?_
    rintro e w12 ⟨rfl, rfl⟩
    go_wp2
    go_ret
    exact ⟨rfl, HB12.out⟩

theorem cutting_walk (s one two long : ByteArray) (hs : s.size ≤ maxLen) (h1 : one.size ≤ maxLen) (hlo : long.size ≤ maxLen) (w : World) :
    Calls Try.prog 10 #[.string s, .string one, .string two, .string long] w fun e w' => e = .returned (.bool true) ∧ Below w.heap.size w w' := by
  by_cases hok : s.size ≤ 120000 ∧ imgOk s = true
  · exact cutting_yes s one two long hok.1 hok.2 h1 hlo w
  · refine cutting_no s one two long hs ?_ hok w
    rw [bne_iff_ne]
    unfold chk
    by_cases h1 : 120000 < s.size
    · rw [if_pos h1]; decide
    · have h2 : ¬ imgOk s = true := fun h => hok ⟨by omega, h⟩
      rw [if_neg h1, if_neg h2]; decide
end Go.Proofs.Ytgjgjgihceijnaa

