/- Texts put together: CzPlayed, CzOps, CzBegun. -/
import Derived.Test.YtgjgjgihceijnaaGreatG09
import Derived.Test.YtgjgjgihceijnaaGreatG10
import Derived.ChangeArms
import Derived.Deep.Slices
import Derived.DataReads
import Derived.Great.BuildSlice
namespace Go.Stn
/-- A step of a script. -/
structure OpZ where
  kd : Int
  on : Int
  s : ByteArray
  x : ByteArray
def OpZ.cells (o : OpZ) : List Value := [.int .i64 o.kd, .int .i64 o.on, .string o.s, .string o.x]
def OpZ.ok (o : OpZ) : Prop := isZ o.on ∧ o.s.size ≤ maxLen
end Go.Stn
namespace Go.Proofs.YtgjgjgihceijnaaGreat
open Go.RowKit Go.Stn
/-- A script in memory. -/
structure OpsZ (w : World) (b o : Nat) (ops : List OpZ) : Prop where
  c : ∀ (k : Nat) (op : OpZ), ops[k]? = some op → w.rangeAt b (o + k * 4) op.cells
  ok : ∀ op ∈ ops, op.ok
  lt : b < w.heap.size
theorem Tryz.opZSize : (Tryz.prog.info? 86).map (fun i => i.size) = some 4 := by kernel_rfl
theorem klooks_any' {B p : Nat} {w : World} {O : Nat → Nat} {cs : List TwK} {vb : Nat → Value} {bc : Nat → List Value} {T : Nat → List (Int × Int × Int)} (h : PI B p w O cs vb bc 0 T) (hl : ∀ f, 1 ≤ f → f ≤ 4 → (bc f).length = p) (_h56 : (bc 5).length = (bc 6).length) (hb : p ≤ 5864062014800) :
    Calls Tryz.prog 31 #[.pointer (some ⟨B, 0, none⟩)] w fun e w' => e = .returned (.bool true) ∧ Below w.heap.size w w' :=
  klooks_any h (fun f h1 h2 => by rw [hl f h1 h2]; exact hb) (fun f h1 h2 => by rw [hl f h1 h2]; exact Nat.le_refl _)
/-- The book begins. -/
theorem PI.start (w : World) : PI w.heap.size 0 (w.alloc (.cells #[.slice none 0 0, .slice none 0 0, .slice none 0 0, .slice none 0 0, .slice none 0 0, .slice none 0 0, .slice none 0 0] 91)) (fun k => if k = w.heap.size then 1 else 0) [] (fun _ => .slice none 0 0) (fun _ => []) 0 (fun _ => []) := by
  refine ⟨fun f hf => ?_, fun i => ?_, ⟨if_pos rfl, by simp⟩, World.ownsRow_nil _ _ _ _, fun f _ _ => World.ownsRow_nil _ _ _ _, fun f k _ hk => by simp [Value.ownBlock] at hk, fun f i v _ _ hi _ => absurd hi (by omega), fun j v _ hv => by simp at hv, fun j v _ hv => by simp at hv, fun j t ht => by simp at ht, fun k hk => ?_, fun j t ht => by simp at ht⟩
  · rw [World.cell?_alloc_at _ _ _ f rfl]
    have hf' : f = 0 ∨ f = 1 ∨ f = 2 ∨ f = 3 ∨ f = 4 ∨ f = 5 ∨ f = 6 := by omega
    rcases hf' with rfl | rfl | rfl | rfl | rfl | rfl | rfl <;> rfl
  · rw [World.frozen?_alloc_new]
  · have : (w.alloc (.cells #[.slice none 0 0, .slice none 0 0, .slice none 0 0, .slice none 0 0, .slice none 0 0, .slice none 0 0, .slice none 0 0] 91)).heap.size = w.heap.size + 1 := by simp
    exact if_neg (by omega)
set_option maxRecDepth 100000 in
set_option maxHeartbeats 4000000 in
theorem kplayed_any (ops : List OpZ) (a : Option Addr) (cap : Nat) (w : World) (hops : ops = [] ∨ ∃ b o, a = some ⟨b, o, none⟩ ∧ OpsZ w b o ops) (hn : ops.length ≤ 2932031007317) :
    Calls Tryz.prog 14 #[.slice a ops.length cap, .bool false] w fun e w' => e = .returned (.bool true) ∧ Below w.heap.size w w' := by
  have HO := hidZ hops
  have HPS := hidZ (PI.start w)
  have HB0 : Hid (Below w.heap.size w (w.alloc (.cells #[.slice none 0 0, .slice none 0 0, .slice none 0 0, .slice none 0 0, .slice none 0 0, .slice none 0 0, .slice none 0 0] 91))) := (Below.refl _ _).alloc (Nat.le_refl _) _
  obtain ⟨n, en⟩ : ∃ n, ops.length = n := ⟨_, rfl⟩
  have HN := hidZ en
  rw [en] at hn ⊢
  clear hops en
  go_enter Tryz.func14, Tryz.ntmps14
  go_upto_region 2 with fail
  generalize w.alloc (.cells #[.slice none 0 0, .slice none 0 0, .slice none 0 0, .slice none 0 0, .slice none 0 0, .slice none 0 0, .slice none 0 0] 91) = W at *
  go_upto_block 0 with fail
  go_cut [6] from 16 to 45 (fun _ wc => ∃ (O : Nat → Nat) (cs : List TwK) (vb : Nat → Value) (bc : Nat → List Value) (T : Nat → List (Int × Int × Int)) (p : Nat), PI w.heap.size p wc O cs vb bc 0 T ∧ (∀ f, 1 ≤ f → f ≤ 4 → (bc f).length = p) ∧ (bc 5).length = (bc 6).length ∧ cs.length ≤ n ∧ p + (bc 5).length ≤ n ∧ Below w.heap.size w wc)
  case first =>
    go_wp2_with fail
    go_loopw [6] (fun ii wr => ∃ (k : Nat) (O : Nat → Nat) (cs : List TwK) (vb : Nat → Value) (bc : Nat → List Value) (T : Nat → List (Int × Int × Int)) (p : Nat), k ≤ n ∧ ii = .int .i64 (k : Int) ∧ PI w.heap.size p wr O cs vb bc 0 T ∧ (∀ f, 1 ≤ f → f ≤ 4 → (bc f).length = p) ∧ (bc 5).length = (bc 6).length ∧ cs.length ≤ k ∧ p + (bc 5).length ≤ k ∧ Below w.heap.size w wr) (fun ii _ => n - (intOf ii).toNat)
    case atStart => exact ⟨0, _, _, _, _, _, 0, Nat.zero_le _, rfl, HPS.out, fun _ _ _ => rfl, rfl, Nat.le_refl _, Nat.le_refl _, HB0.out⟩
    case round =>
      obtain ⟨k, O, cs, vb, bc, T, p, hk, rfl, hpi, hl, h56, hcs, hp5, hbl⟩ := hrel
      have HP := hidZ hpi
      have HL := hidZ hl
      have H56 := hidZ h56
      have HP5 := hidZ hp5
      have HBL := hidZ hbl
      clear hpi hl h56 hp5 hbl HPS HB0
      by_cases hlt : k < n
      · have hkI : (0 : Int) ≤ (k : Int) ∧ (k : Int) < (n : Int) := by omega
        rcases HO.out with e | ⟨b, o, ea, hoz⟩
        · rw [e] at HN; have := HN.out; simp at this; omega
        subst ea
        obtain ⟨op, hop⟩ : ∃ op, ops[k]? = some op := ⟨_, List.getElem?_eq_getElem (by rw [HN.out]; exact hlt)⟩
        have HRO := hidZ (rangeAt_below (hoz.c k op hop) HBL.out hoz.lt)
        obtain ⟨ok1, ok2⟩ := hoz.ok op (List.mem_of_getElem? hop)
        obtain ⟨kd, on, S, X⟩ := op
        simp only at ok1 ok2
        have h5n : (bc 5).length ≤ 5864062014800 := by have := HP5.out; omega
        have HST := hidZ (kstep_any HP.out kd on ok1 S X ok2 (by omega) H56.out h5n)
        clear hop hoz ok1 ok2 h5n
        go_upto_region 6 with (first
          | (refine wpList_load_mid rfl 86 (.tmp 25) rfl b (o + k * 4) rfl [.int .i64 kd, .int .i64 on, .string S, .string X] _ HRO.out Tryz.underlying86 rfl Tryz.opZSize ?_)
          | (go_at_call 29; refine HST.out.mono ?_; rintro e w2 ⟨rfl, O2, cs2, vb2, bc2, T2, hpi2, hc2, hf2, h562, h52, hb2⟩))
        have HP2 := hidZ hpi2
        have HC2 : Hid (cs2.length ≤ k + 1) := by unfold Hid; omega
        have HL2 : Hid (∀ f, 1 ≤ f → f ≤ 4 → (bc2 f).length = p) := fun f h1 h2 => by rw [hf2 f h2]; exact HL.out f h1 h2
        have H562 := hidZ h562
        have HP52 : Hid (p + (bc2 5).length ≤ k + 1) := by have := HP5.out; unfold Hid; omega
        have HB2 := hidZ (HBL.out.trans hb2)
        clear hpi2 hc2 hf2 h562 h52 hb2 HST HRO HP HL H56 HP5 HBL hcs
        go_upto_region 7 with fail
        go_upto_if 31 with fail
        go_cut [8] from 29 to 33 (fun bb wc => bb = .bool true ∧ ∃ (O : Nat → Nat) (cs : List TwK) (vb : Nat → Value) (bc : Nat → List Value) (T : Nat → List (Int × Int × Int)) (p : Nat), PI w.heap.size p wc O cs vb bc 0 T ∧ (∀ f, 1 ≤ f → f ≤ 4 → (bc f).length = p) ∧ (bc 5).length = (bc 6).length ∧ cs.length ≤ k + 1 ∧ p + (bc 5).length ≤ k + 1 ∧ Below w.heap.size w wc)
        case first =>
          by_cases h3 : k % 3 = 2
          · have t3 : (((k : Int) % 3) == 2) = true := by rw [beq_iff_eq]; omega
            clear h3
            go_wp2_with fail
            refine (ksettle_any HP2.out HL2.out rfl H562.out.symm (by have := HP52.out; omega)).mono ?_
            rintro e w3 ⟨rfl, O3, vb3, bc3, hpi3, hl3, h53, h63, hb3⟩
            have HP3 := hidZ hpi3
            have HB3 := hidZ (HB2.out.trans hb3)
            have HL3 := hidZ hl3
            have H53 := hidZ h53
            have H63 := hidZ h63
            clear hpi3 hb3 hl3 h53 h63
            go_wp2
            go_meet
            case rel => exact ⟨rfl, O3, cs2, vb3, bc3, T2, _, HP3.out, HL3.out, by rw [H53.out, H63.out], HC2.out, by rw [H53.out]; exact HP52.out, HB3.out⟩
          · have t3 : (((k : Int) % 3) == 2) = false := by rw [beq_eq_false_iff_ne]; omega
            clear h3
            go_wp2
            go_meet
            case rel => exact ⟨rfl, O2, cs2, vb2, bc2, T2, p, HP2.out, HL2.out, H562.out, HC2.out, HP52.out, HB2.out⟩
        case rest =>
          obtain ⟨rfl, O3, cs3, vb3, bc3, T3, p3, hpi3, hl3, h563, hc3, hp53, hb3⟩ := hcut
          have HP3 := hidZ hpi3
          have HL3 := hidZ hl3
          have H563 := hidZ h563
          have HC3 := hidZ hc3
          have HP53 := hidZ hp53
          have HB3 := hidZ hb3
          have HLK := hidZ (klooks_any' hpi3 hl3 h563 (by omega))
          clear hpi3 hl3 h563 hc3 hp53 hb3 HP2 HL2 H562 HC2 HP52 HB2
          go_wp2_with fail
          refine HLK.out.mono ?_
          rintro e w4 ⟨rfl, hb4⟩
          have HP4 := hidZ (HP3.out.below hb4)
          have HB4 := hidZ (HB3.out.trans (hb4.mono HB3.out.size))
          clear hb4
          go_wp2
          go_roundw
          case rel => exact ⟨k + 1, O3, cs3, vb3, bc3, T3, p3, hlt, by go_num, HP4.out, HL3.out, H563.out, HC3.out, HP53.out, HB4.out⟩
          case measure => simp [intOf]; omega
      · have dk : decide ((k : Int) < (n : Int)) = false := by simp; omega
        have ek : k = n := by omega
        subst ek
        go_wp2
        go_meet
        case rel => exact ⟨O, cs, vb, bc, T, p, HP.out, HL.out, H56.out, hcs, HP5.out, HBL.out⟩
  case rest =>
    obtain ⟨O, cs, vb, bc, T, p, hpi, hl, h56, hcs, hp5, hbl⟩ := hcut
    have HP := hidZ hpi
    have HL := hidZ hl
    have H56 := hidZ h56
    have HP5 := hidZ hp5
    have HBL := hidZ hbl
    clear hpi hl h56 hp5 hbl HPS HB0 HO HN
    go_wp2_with fail
    refine (ksettle_any HP.out HL.out rfl H56.out.symm (by have := HP5.out; omega)).mono ?_
    rintro e w3 ⟨rfl, O3, vb3, bc3, hpi3, hl3, h53, h63, hb3⟩
    have HP3 := hidZ hpi3
    have HB3 := hidZ (HBL.out.trans hb3)
    have HLK := hidZ (klooks_any' hpi3 hl3 (by rw [h53, h63]) (by have := HP5.out; omega))
    clear hpi3 hb3 hl3 h53 h63 HP HBL
    go_wp2_with fail
    refine HLK.out.mono ?_
    rintro e w4 ⟨rfl, hb4⟩
    have HP4 := hidZ (HP3.out.below hb4)
    have HB4 := hidZ (HB3.out.trans (hb4.mono HB3.out.size))
    clear hb4 HLK HP3 HB3
    have b0 := HP4.out.b0
    have c0 := HP4.out.wb 0 (by omega)
    obtain ⟨a0, q0, e0⟩ := rowSlice b0
    obtain ⟨m, em⟩ : ∃ m, cs.length = m := ⟨_, rfl⟩
    rw [em] at e0 b0 hcs
    rw [e0] at c0 b0
    have HBB := hidZ b0
    have HM := hidZ em
    clear b0 e0 em
    go_wp2_with fail
    go_loopw [12] (fun ii wr => ∃ k : Nat, k ≤ m ∧ ii = .int .i64 (k : Int) ∧ wr = w4) (fun ii _ => m - (intOf ii).toNat)
    case atStart => exact ⟨0, Nat.zero_le _, rfl, rfl⟩
    case round =>
      obtain ⟨k, hk, rfl, hwr⟩ := hrel
      rw [hwr]
      clear hwr
      by_cases hlt : k < m
      · obtain ⟨g0, cap0, ev, _, hgz⟩ := HBB.out.form (by omega)
        injection ev with e1 e2 e3
        subst e1
        obtain ⟨t, ht⟩ : ∃ t, cs[k]? = some t := ⟨_, List.getElem?_eq_getElem (by rw [HM.out]; exact hlt)⟩
        have HTW := hidZ (HP4.out.cu k t ht)
        obtain ⟨u0, u1⟩ := twC_get cs k t ht
        have hadd : ∀ i, (⟨g0, 0, none⟩ : Addr).add i = ⟨g0, i, none⟩ := fun i => by unfold Addr.add; split <;> simp_all
        have y0 := HBB.out.cells rfl _ _ u0
        have y1 := HBB.out.cells rfl _ _ u1
        rw [hadd] at y0 y1
        have hkI : (0 : Int) ≤ (k : Int) ∧ (k : Int) < (m : Int) := by omega
        have r1 := HTW.out.rf.c1
        clear hadd u0 u1 e2 e3 ht
        go_wp2_with (first | (go_at_call 32; refine (pcond_any HTW.out.ct).mono ?_; rintro e w5 ⟨rfl, hw5⟩; rw [hw5]; clear hw5))
        go_roundw
        case rel => exact ⟨k + 1, hlt, by go_num, trivial⟩
        case measure => simp [intOf]; omega
      · have dk : decide ((k : Int) < (m : Int)) = false := by simp; omega
        go_wp2
        go_ret
        exact ⟨rfl, HB4.out⟩
end Go.Proofs.YtgjgjgihceijnaaGreat

namespace Go.Proofs.YtgjgjgihceijnaaGreat
open Go.RowKit Go.Stn Go.ChangeShapes Go.WideShapes
theorem Tryz.opZCells : Tryz.prog.cellsOf 86 = 4 := by kernel_rfl
theorem Tryz.intCellsZ : Tryz.prog.cellsOf 3 = 1 := by kernel_rfl
theorem Tryz.strCellsZ : Tryz.prog.cellsOf 9 = 1 := by kernel_rfl
theorem wf_isZ {n : Int} (h : (Lit.int .i64 n).wf = true) : isZ n := by
  have hx : -9223372036854775808 ≤ n ∧ n ≤ 9223372036854775807 := by simpa [Lit.wf, IntKind.min, IntKind.max, IntKind.signed, IntKind.bits] using h
  exact hx
set_option maxRecDepth 100000 in
theorem opz_open {H : Type} {enc : TypeId × Value → H} {W : World} {n : Nat} {cs : List Value} {x : DataW H × List MemPlace} (h : DataW.trod enc Tryz.prog W 0 (fun _ => true) true n 86 cs = some x) : ∃ o : OpZ, cs = o.cells ∧ o.ok ∧ o.x.size ≤ maxLen := by
  obtain ⟨xs, k, hk, hxy, hl, hxl, hf⟩ := DataW.trod_struct Tryz.underlying86 h
  rw [Tryz.opZCells] at hl
  have hxl : xs.length = 4 := hxl
  match xs, hxl, cs, hl with
  | [y0, y1, y2, y3], _, [v0, v1, v2, v3], _ =>
    have g0 := hf 0 _ rfl
    have g1 := hf 1 _ rfl
    have g2 := hf 2 _ rfl
    have g3 := hf 3 _ rfl
    simp [Tryz.intCellsZ, Tryz.strCellsZ] at g0 g1 g2 g3
    obtain ⟨n0, e0, _, w0⟩ := DataW.trod_int Tryz.underlying3 g0
    obtain ⟨n1, e1, _, w1⟩ := DataW.trod_int Tryz.underlying3 g1
    obtain ⟨s2, e2, _, w2⟩ := DataW.trod_string Tryz.underlying9 g2
    obtain ⟨s3, e3, _, w3⟩ := DataW.trod_string Tryz.underlying9 g3
    refine ⟨⟨n0, n1, s2, s3⟩, ?_, ⟨wf_isZ w1, w2⟩, w3⟩
    simp at e0 e1 e2 e3
    rw [e0, e1, e2, e3]
    rfl
theorem opsz_open {H : Type} {enc : TypeId × Value → H} {W : World} {a : Option Addr} {len cap : Nat} {d : DataW H} {ps : List MemPlace} (h : DataW.Trod enc Tryz.prog W 0 (fun _ => true) true 36 (.slice a len cap) d ps) :
    len = 0 ∨ ∃ (b o : Nat) (D : Nat → DataW H) (sp : List (DataW H)) (ops : List OpZ), a = some ⟨b, o, none⟩ ∧ ops.length = len ∧ d = .slice ((List.range len).map D) sp ∧ OpsZ W b o ops ∧ ∀ op ∈ ops, op.x.size ≤ maxLen := by
  obtain ⟨fuel, h⟩ := h
  rcases Go.Deep.open_slice Tryz.underlying36 h with ⟨e, _⟩ | ⟨ad, len', cap', m, n, D, Pl, e, hb, hl, hm, hmm, hx, hall⟩
  · left
    have e : [Value.slice a len cap] = [.slice none 0 0] := e
    injection e with e _
    injection e
  · have e : [Value.slice a len cap] = [.slice (some ad) len' cap'] := e
    injection e with e _
    injection e with e1 e2 e3
    subst e1 e2 e3
    by_cases h0 : len = 0
    · exact .inl h0
    · right
      have hmle : len ≤ m := by rw [hmm]; split <;> omega
      rw [Tryz.opZCells] at hall
      have heach : ∀ i, i < len → ∃ o : OpZ, (∀ j v, o.cells[j]? = some v → W.cell? (ad.add (i * 4 + j)) = some v) ∧ o.ok ∧ o.x.size ≤ maxLen := fun i hi => by
        obtain ⟨cs, h1, h2⟩ := hall i (by omega)
        obtain ⟨o, rfl, ho⟩ := opz_open h2
        obtain ⟨_, hl3, hc⟩ := World.cells?_some h1
        refine ⟨o, fun j v hj => ?_, ho⟩
        have hj3 : j < 4 := by have := (List.getElem?_eq_some_iff.1 hj).1; rw [hl3] at this; exact this
        have := hc j hj3
        rw [Go.Deep.add_add] at this
        rw [this, hj]
      have hsp : ad.spot = none := by
        obtain ⟨o, ho, _⟩ := heach 0 (by omega)
        have := ho 0 _ rfl
        have e : ad.add (0 * 4 + 0) = ad := rfl
        rw [e] at this
        unfold World.cell? at this
        cases hs : ad.spot with
        | none => rfl
        | some k =>
          rw [hs] at this
          split at this
          · simp at this
          · cases this
      obtain ⟨b, o, s⟩ := ad
      simp only at hsp
      subst hsp
      have hch : ∃ f : Nat → OpZ, ∀ i, i < len → (∀ j v, (f i).cells[j]? = some v → W.cell? ((⟨b, o, none⟩ : Addr).add (i * 4 + j)) = some v) ∧ (f i).ok ∧ (f i).x.size ≤ maxLen :=
        ⟨fun i => if hi : i < len then Classical.choose (heach i hi) else ⟨0, 0, ByteArray.empty, ByteArray.empty⟩, fun i hi => by simp only [dif_pos hi]; exact Classical.choose_spec (heach i hi)⟩
      obtain ⟨f, hf⟩ := hch
      refine ⟨b, o, D, _, (List.range len).map f, rfl, by simp, congrArg Prod.fst hx, ⟨?_, ?_, ?_⟩, ?_⟩
      · intro k op hk j v hj
        rw [List.getElem?_map] at hk
        have hkl : k < len := by
          apply Classical.byContradiction
          intro hc
          rw [List.getElem?_eq_none (by simp; omega)] at hk
          cases hk
        rw [List.getElem?_range hkl] at hk
        injection hk with hk
        subst hk
        have := (hf k hkl).1 j v hj
        have e : (⟨b, o, none⟩ : Addr).add (k * 4 + j) = ⟨b, o + k * 4 + j, none⟩ := by
          unfold Addr.add
          split
          · rename_i hz; congr 1; omega
          · congr 1; simp only; omega
        rw [e] at this
        exact this
      · intro op hop
        rw [List.mem_map] at hop
        obtain ⟨i, hi, rfl⟩ := hop
        exact (hf i (List.mem_range.1 hi)).2.1
      · obtain ⟨op, ho, _⟩ := heach 0 (by omega)
        have := ho 0 _ rfl
        unfold World.cell? at this
        apply Classical.byContradiction
        intro hc
        have hb2 : W.heap[b]? = none := by simp; omega
        have e : (⟨b, o, none⟩ : Addr).add (0 * 4 + 0) = ⟨b, o, none⟩ := rfl
        rw [e] at this
        simp only [hb2] at this
        cases this
      · intro op hop
        rw [List.mem_map] at hop
        obtain ⟨i, hi, rfl⟩ := hop
        exact (hf i (List.mem_range.1 hi)).2.2
end Go.Proofs.YtgjgjgihceijnaaGreat

namespace Go.Proofs.YtgjgjgihceijnaaGreat
open Go.RowKit Go.Stn
set_option maxRecDepth 100000 in
set_option maxHeartbeats 2000000 in
theorem kbegun_any (w : World) : Calls Tryz.prog 13 #[] w fun e w' => e = .returned (.bool true) ∧ Below w.heap.size w w' := by
  go_enter Tryz.func13, Tryz.ntmps13
  go_wp2_with fail
  refine (small_any _).mono ?_
  rintro e w1 ⟨rfl, hb1⟩
  have HB1 := hidZ hb1
  have hsz : SM.size ≤ maxLen := by rw [small_size]; decide
  clear hb1
  generalize SM = S at *
  have HOZ : Hid (OpsZ (w1.alloc (.cells #[.int .i64 4, .int .i64 0, .string S, .string ⟨#[]⟩, .int .i64 6, .int .i64 0, .string ⟨#[]⟩, .string ⟨#[97, 98]⟩, .int .i64 5, .int .i64 0, .string ⟨#[]⟩, .string ⟨#[]⟩] 86)) w1.heap.size 0 [⟨4, 0, S, ⟨#[]⟩⟩, ⟨6, 0, ⟨#[]⟩, ⟨#[97, 98]⟩⟩, ⟨5, 0, ⟨#[]⟩, ⟨#[]⟩⟩]) := by
    have hz : (⟨#[]⟩ : ByteArray).size ≤ maxLen := by decide
    refine ⟨fun k op hk => ?_, fun op hop => ?_, by simp⟩
    · intro i v hv
      have hk3 : k = 0 ∨ k = 1 ∨ k = 2 := by
        have := (List.getElem?_eq_some_iff.1 hk).1
        simp at this
        omega
      have hi4 : i = 0 ∨ i = 1 ∨ i = 2 ∨ i = 3 := by
        have := (List.getElem?_eq_some_iff.1 hv).1
        simp [OpZ.cells] at this
        omega
      rw [World.cell?_alloc_at _ _ _ _ rfl]
      rcases hk3 with rfl | rfl | rfl
      all_goals
        simp at hk
        subst hk
        rcases hi4 with rfl | rfl | rfl | rfl
        all_goals
          simp [OpZ.cells] at hv
          subst hv
          rfl
    · simp only [List.mem_cons, List.not_mem_nil, or_false] at hop
      rcases hop with rfl | rfl | rfl
      · exact ⟨by unfold isZ; simp, hsz⟩
      · exact ⟨by unfold isZ; simp, hz⟩
      · exact ⟨by unfold isZ; simp, hz⟩
  have HBA := hidZ (HB1.out.alloc HB1.out.size (.cells #[.int .i64 4, .int .i64 0, .string S, .string ⟨#[]⟩, .int .i64 6, .int .i64 0, .string ⟨#[]⟩, .string ⟨#[97, 98]⟩, .int .i64 5, .int .i64 0, .string ⟨#[]⟩, .string ⟨#[]⟩] 86))
  clear hsz
  go_wp2_with fail
  refine (kplayed_any [⟨4, 0, S, ⟨#[]⟩⟩, ⟨6, 0, ⟨#[]⟩, ⟨#[97, 98]⟩⟩, ⟨5, 0, ⟨#[]⟩, ⟨#[]⟩⟩] _ 3 _ (.inr ⟨_, _, rfl, HOZ.out⟩) (by simp)).mono ?_
  rintro e w2 ⟨rfl, hb2⟩
  have HB2 := hidZ (HBA.out.trans (hb2.mono HBA.out.size))
  clear hb2
  go_wp2
  go_ret
  exact ⟨rfl, HB2.out⟩
set_option maxRecDepth 100000 in
set_option maxHeartbeats 2000000 in
theorem kcutters_walk (ops : List OpZ) (a : Option Addr) (cap : Nat) (w : World) (hops : ops = [] ∨ ∃ b o, a = some ⟨b, o, none⟩ ∧ OpsZ w b o ops) (hn : ops.length ≤ 2932031007317) :
    Calls Tryz.prog 4 #[.slice a ops.length cap] w fun e w' => e = .returned (.bool true) ∧ Below w.heap.size w w' := by
  have HO := hidZ hops
  clear hops
  go_enter Tryz.func4, Tryz.ntmps4
  go_wp2_with fail
  refine (kbegun_any _).mono ?_
  rintro e w1 ⟨rfl, hb1⟩
  have HB1 := hidZ hb1
  clear hb1
  go_wp2_with fail
  refine (kplayed_any ops a cap w1 (HO.out.imp id (fun ⟨b, o, e, h⟩ => ⟨b, o, e, ⟨fun k op hk => rangeAt_below (h.c k op hk) HB1.out h.lt, h.ok, Nat.lt_of_lt_of_le h.lt HB1.out.size⟩⟩)) hn).mono ?_
  rintro e w2 ⟨rfl, hb2⟩
  have HB2 := hidZ (HB1.out.trans (hb2.mono HB1.out.size))
  clear hb2
  go_wp2
  go_ret
  exact ⟨rfl, HB2.out⟩
end Go.Proofs.YtgjgjgihceijnaaGreat

