/- Texts put together: CzOwnW, CzSettle, CzFull. -/
import Derived.Test.YtgjgjgihceijnaaGreatG09
import Derived.Test.YtgjgjgihceijnaaGreatG08
import Derived.BigQuiet
import Derived.Test.YtgjgjgihceijnaaGreatG07
namespace Go.Proofs.YtgjgjgihceijnaaGreat
open Go.RowKit Go.Stn
theorem row_frozen2 {w : World} {base e size g n cap : Nat} {xs : List Value} (h : w.ownsRow base e size (.slice (some ⟨g, 0, none⟩) n cap) n xs) (i : Nat) : w.frozen? ⟨g, i, none⟩ = false := by
  rcases h.2 with ⟨hn, _⟩ | ⟨g', cap', cur, he, hbg, hg, _⟩
  · cases hn
  · cases he
    unfold World.frozen?
    simp only [hg]
    simp
/-- The four lists are marked as their owner's. -/
theorem OW.fin {w0 : World} {B p q : Nat} {w : World} {O : Nat → Nat} {cs : List TwK} {vb : Nat → Value} {bc : Nat → List Value} {T : Nat → List (Int × Int × Int)} (h : OW w0 B p q w O cs vb bc T) {v1 v2 v3 v4 : Value} {S : Nat → Prop}
    (hS : ∀ k, S k → v1.ownBlock = some k ∨ v2.ownBlock = some k ∨ v3.ownBlock = some k ∨ v4.ownBlock = some k) (hfree : ∀ k, (v1.ownBlock = some k ∨ v2.ownBlock = some k ∨ v3.ownBlock = some k ∨ v4.ownBlock = some k) → O k = 0 ∧ k < w.heap.size)
    (hb : ∀ f v, 1 ≤ f → f ≤ 4 → (bc f)[p]? = some v → FB w S p 2000 v) : ∃ O', PI B (p + 1) w O' cs vb bc q T := by
  refine ⟨fun k => if (v1.ownBlock = some k ∨ v2.ownBlock = some k ∨ v3.ownBlock = some k ∨ v4.ownBlock = some k) then 16 + 4 * p else O k, ?_⟩
  refine (h.pi.keep (O' := fun k => if (v1.ownBlock = some k ∨ v2.ownBlock = some k ∨ v3.ownBlock = some k ∨ v4.ownBlock = some k) then 16 + 4 * p else O k) (Nat.le_refl _) (fun k _ h0 => ⟨rfl, if_neg (fun e => h0 (hfree k e).1)⟩) (fun k hk => ?_)).raise (fun f v h1 h2 hv => ?_)
  · have : ¬ (v1.ownBlock = some k ∨ v2.ownBlock = some k ∨ v3.ownBlock = some k ∨ v4.ownBlock = some k) := fun e => by have := (hfree k e).2; omega
    simp only [if_neg this]
    exact h.pi.fr k hk
  · obtain ⟨a, n, cap, e, hn, h0⟩ := hb f v h1 h2 hv
    refine ⟨a, n, cap, e, hn, fun hp => ?_⟩
    obtain ⟨g, ea, hg, hs, hc⟩ := h0 hp
    exact ⟨g, ea, hg, if_pos (hS g hs), hc⟩
/-- What own comes to. -/
def OwnAt (B p q : Nat) (w : World) (cs : List TwK) (bc : Nat → List Value) (T : Nat → List (Int × Int × Int)) (e : Ending) (w' : World) : Prop :=
  e = .returned (.tuple #[]) ∧ ∃ O' vb' bc', PI B (p + 1) w' O' cs vb' bc' q T ∧ (∀ f, 1 ≤ f → f ≤ 4 → (bc' f).length = p + 1) ∧ bc' 5 = bc 5 ∧ bc' 6 = bc 6 ∧ Below B w w'
set_option maxRecDepth 100000 in
set_option maxHeartbeats 4000000 in
theorem kown_any {B p q : Nat} {w : World} {O : Nat → Nat} {cs : List TwK} {vb : Nat → Value} {bc : Nat → List Value} {T : Nat → List (Int × Int × Int)} (h : PI B p w O cs vb bc q T) {v : Value} {L : List (Int × Int × Int)} {j : Nat}
    (hv : w.ownsRow (B + 1) 79 3 v L.length (cells3 L)) (htag : ∀ k, v.ownBlock = some k → O k = 17 + 4 * j) (hj : j < q) (hL : L.length ≤ 1000) (hlen : ∀ f, 1 ≤ f → f ≤ 4 → (bc f).length = p) (hpb : p ≤ 5864062014800) :
    Calls Tryz.prog 63 #[.pointer (some ⟨B, 0, none⟩), v] w (OwnAt B p q w cs bc T) := by
  have hB1 := h.wt.2
  have hfr := h.fr w.heap.size (Nat.le_refl _)
  obtain ⟨O0, eO⟩ : ∃ O0 : Nat → Nat, O0 = fun k => if O k = 17 + 4 * j then 0 else O k := ⟨_, rfl⟩
  have HVF : Hid (∀ k, v.ownBlock = some k → O0 k = 0 ∧ k ≠ w.heap.size ∧ B ≤ k) := fun k hk => by
    have := hv.lt k hk
    refine ⟨?_, by omega, by omega⟩
    rw [eO]
    exact if_pos (htag k hk)
  have hO0 : O0 w.heap.size = 0 := by rw [eO]; simp only [hfr]; simp
  have h0 := h.free hj
  rw [← eO] at h0
  have hb1 := h0.bk 1 (by omega) (by omega)
  have c1 := h0.wb 1 (by omega)
  obtain ⟨a1, k1, e1⟩ := rowSlice hb1
  rw [hlen 1 (by omega) (by omega)] at e1
  rw [e1] at c1
  have hbm : Below w.heap.size w (w.alloc (.cells #[.int .i64 (-9), .int .i64 (p : Int), .int .i64 (-9)] 79)) := (Below.refl _ _).alloc (Nat.le_refl _) _
  have HOW : Hid (OW w B p q (w.alloc (.cells #[.int .i64 (-9), .int .i64 (p : Int), .int .i64 (-9)] 79)) O0 cs vb bc T) :=
    ⟨h0.below hbm, (World.cell?_alloc_at _ _ _ 0 rfl).trans rfl, (World.cell?_alloc_at _ _ _ 1 rfl).trans rfl, (World.cell?_alloc_at _ _ _ 2 rfl).trans rfl, hbm.mono (Nat.le_of_lt hB1), by simp, hB1, hO0⟩
  have HV1 := hidZ (hv.alloc (.cells #[.int .i64 (-9), .int .i64 (p : Int), .int .i64 (-9)] 79))
  have HLN := hidZ hlen
  have HE1 := hidZ e1
  obtain ⟨va, vc, hve⟩ := rowSlice hv
  obtain ⟨n, en⟩ : ∃ n, L.length = n := ⟨_, rfl⟩
  rw [en] at HV1 hve hL
  subst hve
  clear h htag hfr eO h0 hb1 hv hbm hlen e1 hO0 en
  go_enter Tryz.func63, Tryz.ntmps63
  go_upto_region 1 with fail
  generalize w.alloc (.cells #[.int .i64 (-9), .int .i64 (p : Int), .int .i64 (-9)] 79) = W1 at *
  clear c1
  go_upto_block 0 with fail
  go_cut [5] from 15 to 24 (fun _ wc => ∃ xs, OW w B p q wc O0 cs vb bc T ∧ wc.ownsRow (B + 1) 79 3 (.slice va n vc) n xs ∧ MX p n xs)
  case first =>
    go_wp2_with fail
    go_loopw [5] (fun ii wr => ∃ (k : Nat) (xs : List Value), k ≤ n ∧ ii = .int .i64 (k : Int) ∧ OW w B p q wr O0 cs vb bc T ∧ wr.ownsRow (B + 1) 79 3 (.slice va n vc) n xs ∧ MX p k xs) (fun ii _ => n - (intOf ii).toNat)
    case atStart => exact ⟨0, _, Nat.zero_le _, rfl, HOW.out, HV1.out, fun k hk => absurd hk (by omega)⟩
    case round =>
      obtain ⟨k, xs, hk, rfl, how, hro, hmx⟩ := hrel
      have HW := hidZ how
      have HR := hidZ hro
      have HM := hidZ hmx
      clear how hro hmx HOW HV1
      by_cases hlt : k < n
      · obtain ⟨g, cap', ev, _, hgz⟩ := HR.out.form (by omega)
        injection ev with e1 e2 e3
        subst e1
        have hkI : (0 : Int) ≤ (k : Int) ∧ (k : Int) < (n : Int) := by omega
        have m0 := HW.out.m0
        have m1 := HW.out.m1
        have m2 := HW.out.m2
        have hxl := HR.out.1
        obtain ⟨u0, hu0⟩ : ∃ u, xs[k * 3]? = some u := ⟨_, List.getElem?_eq_getElem (by omega)⟩
        obtain ⟨u1, hu1⟩ : ∃ u, xs[k * 3 + 1]? = some u := ⟨_, List.getElem?_eq_getElem (by omega)⟩
        obtain ⟨u2, hu2⟩ : ∃ u, xs[k * 3 + 2]? = some u := ⟨_, List.getElem?_eq_getElem (by omega)⟩
        have hadd : ∀ i, (⟨g, 0, none⟩ : Addr).add i = ⟨g, i, none⟩ := fun i => by unfold Addr.add; split <;> simp_all
        have x0 := HR.out.cells rfl _ _ hu0
        have x1 := HR.out.cells rfl _ _ hu1
        have x2 := HR.out.cells rfl _ _ hu2
        rw [hadd] at x0 x1 x2
        have y0 := row_frozen2 HR.out (k * 3)
        have y1 := row_frozen2 HR.out (k * 3 + 1)
        have y2 := row_frozen2 HR.out (k * 3 + 2)
        have HRR := hidZ (row_setZ (row_setZ (row_setZ HR.out (k * 3) (.int .i64 (-9))) (k * 3 + 1) (.int .i64 (p : Int))) (k * 3 + 2) (.int .i64 (-9)))
        have HMM := hidZ (HM.out.set (by omega))
        clear hadd hu0 hu1 hu2 e2 e3
        have HWW : Hid (OW w B p q (((wr.setCell ⟨g, k * 3, none⟩ (.int .i64 (-9))).setCell ⟨g, k * 3 + 1, none⟩ (.int .i64 (p : Int))).setCell ⟨g, k * 3 + 2, none⟩ (.int .i64 (-9))) O0 cs vb bc T) := by
          obtain ⟨f1, f2, f3⟩ := HVF.out g rfl
          refine HW.out.keep rfl rfl rfl (by simp [World.setCell]) (fun i hi hc => ?_)
          have hne : i ≠ g := fun e => by
            subst e
            rcases hc with hc | hc | hc
            · exact hc f1
            · exact f2 hc
            · omega
          rw [set_keep _ g _ _ hne, set_keep _ g _ _ hne, set_keep _ g _ _ hne]
        go_wp2
        go_roundw
        case rel => exact ⟨k + 1, _, hlt, by go_num, HWW.out, HRR.out, HMM.out⟩
        case measure => simp [intOf]; omega
      · have dk : decide ((k : Int) < (n : Int)) = false := by simp; omega
        have HMM : Hid (MX p n xs) := fun i hi => HM.out i (by omega)
        go_wp2
        go_meet
        case rel => exact ⟨xs, HW.out, HR.out, HMM.out⟩
  case rest =>
    obtain ⟨xs, how, hro, hmx⟩ := hcut
    have HW := hidZ how
    have HR := hidZ hro
    have HM := hidZ hmx
    clear how hro hmx HOW HV1
    have hz0 := HW.out.lt
    have c1 := HW.out.pi.wb 1 (by omega)
    have f1 := HW.out.pi.wz 1
    have HB1 := hidZ (HW.out.pi.bk 1 (by omega) (by omega))
    rw [HE1.out] at c1 HB1
    rw [HLN.out 1 (by omega) (by omega)] at HB1
    have HL1 : Hid (∀ k, (Value.slice a1 p k1).ownBlock = some k → B + 1 ≤ k) := fun k hk => (HB1.out.lt k hk).1
    go_upto_region 6 with (first
      | (at_builtin; refine wpList_appL wc rfl (.tmp 29) (.tmp 31) 89 rfl (B + 1) 29 (.slice none 0 0) 1 24 Tryz.underlying89 Tryz.infoTokL rfl (by decide) (by decide) (.slice a1 p k1) p (bc 1) [.slice va n vc] _ rfl HB1.out _ rfl rfl rfl (by simp [Value.oneCell']) (by omega) (by omega) ?_; intro g5 cap5 w5 hown5 hgrow5 hat5 hlt5; have m5 := ((grow_cell hgrow5 (k := B) (show B < wc.heap.size by omega) (fun e => by have := HL1.out B e.symm; omega)).1 1).trans c1; have n5 := ((grow_cell hgrow5 (k := B) (show B < wc.heap.size by omega) (fun e => by have := HL1.out B e.symm; omega)).2 1).trans f1; have HO5 := hidZ hown5; have HG5 := hidZ hgrow5; have HA5 := hidZ hat5; clear hown5 hgrow5 hat5))
    obtain ⟨hw5, hk5⟩ := HW.out.push (f := 1) (by omega) (by omega) (HLN.out 1 (by omega) (by omega)) (Nat.le_refl _) HE1.out HO5.out HG5.out HA5.out
    obtain ⟨O5, eO5⟩ : ∃ O5 : Nat → Nat, O5 = fun k => if k = g5 then 2 + 1 else O0 k := ⟨_, rfl⟩
    rw [← eO5] at hw5
    have hr5 := row_top (w' := w5.setCell ⟨B, 1, none⟩ (.slice (some ⟨g5, 0, none⟩) (p + 1) cap5)) HR.out (fun k hk => (hk5 k (HR.out.lt k hk).2 (HVF.out k hk).1).1)
    have hvf5 : ∀ k, (Value.slice va n vc).ownBlock = some k → O5 k = 0 ∧ k ≠ w.heap.size ∧ B ≤ k := fun k hk => ⟨by rw [eO5]; exact (hk5 k (HR.out.lt k hk).2 (HVF.out k hk).1).2, (HVF.out k hk).2⟩
    have HW5 := hidZ hw5
    have HR5 := hidZ hr5
    have HVF5 := hidZ hvf5
    clear hw5 hr5 hvf5 hk5 eO5 c1 f1 m5 n5 HO5 HG5 HA5 HB1 HL1 HR HVF HW HE1
    generalize w5.setCell ⟨B, 1, none⟩ (.slice (some ⟨g5, 0, none⟩) (p + 1) cap5) = W5 at *
    have m0 := HW5.out.m0
    have m1 := HW5.out.m1
    have m2 := HW5.out.m2
    have hz5 := HW5.out.lt
    go_upto_region 7 with (first
      | (at_builtin; refine wpList_appZ W5 rfl (.tmp 35) (.tmp 37) rfl (B + 1) (.slice va n vc) n (xs) rfl HR5.out (.int .i64 (-9)) (.int .i64 (p : Int)) (.int .i64 (-9)) rfl rfl rfl rfl (by omega) (by omega) ?_; intro g6 cap6 w6 hown6 hgrow6 hat6 hlt6; have HO6 := hidZ hown6; have HG6 := hidZ hgrow6; have HA6 := hidZ hat6; clear hown6 hgrow6 hat6))
    have HM6 := hidZ (HM.out.app HR5.out.1)
    have HW6 := hidZ (HW5.out.app HVF5.out HG6.out)
    have HVF6 : Hid (∀ k, (Value.slice (some ⟨g6, 0, none⟩) (n + 1) cap6).ownBlock = some k → O5 k = 0 ∧ k ≠ w.heap.size ∧ B ≤ k) := fun k hk => by
      have ek : g6 = k := by simpa [Value.ownBlock] using hk
      subst ek
      rcases HA6.out with e | ⟨e, _⟩
      · exact HVF5.out _ e
      · exact ⟨HW5.out.pi.fr _ (by omega), by omega, by omega⟩
    have FBv6 := hidZ ((FB.of HR5.out HM.out).app (by omega) HG6.out HA6.out HO6.out HM6.out)
    have m06 := HW6.out.m0
    have m16 := HW6.out.m1
    have m26 := HW6.out.m2
    have hz6 := HW6.out.lt
    have HZ56 : Hid (W5.heap.size ≤ w6.heap.size) := by have := HG6.out.size; simp at this; unfold Hid; omega
    clear m0 m1 m2 HG6 HA6
    go_upto_region 8 with (first
      | (at_builtin; refine wpList_appZ w6 rfl (.tmp 39) (.tmp 41) rfl (B + 1) (.slice (some ⟨g6, 0, none⟩) (n + 1) cap6) (n + 1) (xs ++ [.int .i64 (-9), .int .i64 (p : Int), .int .i64 (-9)]) rfl HO6.out (.int .i64 (-9)) (.int .i64 (p : Int)) (.int .i64 (-9)) rfl rfl rfl rfl (by omega) (by omega) ?_; intro g7 cap7 w7 hown7 hgrow7 hat7 hlt7; have HO7 := hidZ hown7; have HG7 := hidZ hgrow7; have HA7 := hidZ hat7; clear hown7 hgrow7 hat7))
    have HM7 := hidZ (HM6.out.app HO6.out.1)
    have HW7 := hidZ (HW6.out.app HVF6.out HG7.out)
    have HVF7 : Hid (∀ k, (Value.slice (some ⟨g7, 0, none⟩) ((n + 1) + 1) cap7).ownBlock = some k → O5 k = 0 ∧ k ≠ w.heap.size ∧ B ≤ k) := fun k hk => by
      have ek : g7 = k := by simpa [Value.ownBlock] using hk
      subst ek
      rcases HA7.out with e | ⟨e, _⟩
      · exact HVF6.out _ e
      · exact ⟨HW6.out.pi.fr _ (by omega), by omega, by omega⟩
    have FBv7 := hidZ (FBv6.out.app (by omega) HG7.out HA7.out HO7.out HM7.out)
    have FBo67 := hidZ ((FB.of HO6.out HM6.out).app (by omega) HG7.out HA7.out HO7.out HM7.out)
    have m07 := HW7.out.m0
    have m17 := HW7.out.m1
    have m27 := HW7.out.m2
    have hz7 := HW7.out.lt
    have HZ67 : Hid (w6.heap.size ≤ w7.heap.size) := by have := HG7.out.size; simp at this; unfold Hid; omega
    clear m06 m16 m26 HG7 HA7
    go_upto_region 9 with (first
      | (at_builtin; refine wpList_appZ w7 rfl (.tmp 43) (.tmp 45) rfl (B + 1) (.slice (some ⟨g7, 0, none⟩) ((n + 1) + 1) cap7) (n + 1 + 1) (xs ++ [.int .i64 (-9), .int .i64 (p : Int), .int .i64 (-9)] ++ [.int .i64 (-9), .int .i64 (p : Int), .int .i64 (-9)]) rfl HO7.out (.int .i64 (-9)) (.int .i64 (p : Int)) (.int .i64 (-9)) rfl rfl rfl rfl (by omega) (by omega) ?_; intro g8 cap8 w8 hown8 hgrow8 hat8 hlt8; have HO8 := hidZ hown8; have HG8 := hidZ hgrow8; have HA8 := hidZ hat8; clear hown8 hgrow8 hat8))
    have HM8 := hidZ (HM7.out.app HO7.out.1)
    have HW8 := hidZ (HW7.out.app HVF7.out HG8.out)
    have HVF8 : Hid (∀ k, (Value.slice (some ⟨g8, 0, none⟩) ((n + 1 + 1) + 1) cap8).ownBlock = some k → O5 k = 0 ∧ k ≠ w.heap.size ∧ B ≤ k) := fun k hk => by
      have ek : g8 = k := by simpa [Value.ownBlock] using hk
      subst ek
      rcases HA8.out with e | ⟨e, _⟩
      · exact HVF7.out _ e
      · exact ⟨HW7.out.pi.fr _ (by omega), by omega, by omega⟩
    have FBv8 := hidZ (FBv7.out.app (by omega) HG8.out HA8.out HO8.out HM8.out)
    have FBo68 := hidZ (FBo67.out.app (by omega) HG8.out HA8.out HO8.out HM8.out)
    have FBo78 := hidZ ((FB.of HO7.out HM7.out).app (by omega) HG8.out HA8.out HO8.out HM8.out)
    have m08 := HW8.out.m0
    have m18 := HW8.out.m1
    have m28 := HW8.out.m2
    have hz8 := HW8.out.lt
    have HZ78 : Hid (w7.heap.size ≤ w8.heap.size) := by have := HG8.out.size; simp at this; unfold Hid; omega
    have HZ68 : Hid (w6.heap.size ≤ w8.heap.size) := Nat.le_trans HZ67.out HZ78.out
    have HZ58 : Hid (W5.heap.size ≤ w8.heap.size) := Nat.le_trans HZ56.out HZ68.out
    clear m07 m17 m27 HG8 HA8
    have FBo88 := hidZ (FB.of HO8.out HM8.out)
    obtain ⟨vb5, evb5⟩ : ∃ x : Nat → Value, x = upd vb 1 (.slice (some ⟨g5, 0, none⟩) (p + 1) cap5) := ⟨_, rfl⟩
    obtain ⟨bc5, ebc5⟩ : ∃ x : Nat → List Value, x = upd bc 1 (bc 1 ++ [.slice va n vc]) := ⟨_, rfl⟩
    rw [← evb5, ← ebc5] at HW8
    have HBC5 : Hid (∀ f, f ≠ 1 → bc5 f = bc f) := fun f hf => by rw [ebc5]; exact upd_other _ _ hf
    have HN5 : Hid (bc5 1 = bc 1 ++ [.slice va n vc]) := by unfold Hid; rw [ebc5, upd_same]
    have HF1 : Hid (∀ k, (Value.slice va n vc).ownBlock = some k → O5 k = 0 ∧ k < w8.heap.size) := fun k hk => ⟨(HVF5.out k hk).1, Nat.lt_of_lt_of_le (HR5.out.lt k hk).2 HZ58.out⟩
    have HF2 : Hid (∀ k, (Value.slice (some ⟨g6, 0, none⟩) (n + 1) cap6).ownBlock = some k → O5 k = 0 ∧ k < w8.heap.size) := fun k hk => ⟨(HVF6.out k hk).1, Nat.lt_of_lt_of_le (HO6.out.lt k hk).2 HZ68.out⟩
    have HF3 : Hid (∀ k, (Value.slice (some ⟨g7, 0, none⟩) (n + 1 + 1) cap7).ownBlock = some k → O5 k = 0 ∧ k < w8.heap.size) := fun k hk => ⟨(HVF7.out k hk).1, Nat.lt_of_lt_of_le (HO7.out.lt k hk).2 HZ78.out⟩
    have HF4 : Hid (∀ k, (Value.slice (some ⟨g8, 0, none⟩) (n + 1 + 1 + 1) cap8).ownBlock = some k → O5 k = 0 ∧ k < w8.heap.size) := fun k hk => ⟨(HVF8.out k hk).1, (HO8.out.lt k hk).2⟩
    clear evb5 ebc5 m08 m18 m28 HVF5 HVF6 HVF7 HVF8 HR5 HO6 HO7 HO8 HM HM6 HM7 HM8 HW5 HW6 HW7 FBv6 FBv7 FBo67 HZ58 HZ68 HZ78
    have hb9 := HW8.out.pi.bk 2 (by omega) (by omega)
    have c9 := HW8.out.pi.wb 2 (by omega)
    have f9 := HW8.out.pi.wz 2
    obtain ⟨a9, k9, e9⟩ := rowSlice hb9
    have l9 : (bc5 2).length = p := by rw [HBC5.out 2 (by omega)]; exact HLN.out 2 (by omega) (by omega)
    rw [l9] at e9 hb9
    rw [e9] at c9 hb9
    have HB9 := hidZ hb9
    have HE9 := hidZ e9
    have HL9 := hidZ l9
    have HLB9 : Hid (∀ k, (Value.slice a9 p k9).ownBlock = some k → B + 1 ≤ k) := fun k hk => (HB9.out.lt k hk).1
    have hzz9 := HW8.out.lt
    clear hb9 e9 l9
    go_upto_region 10 with (first
      | (at_builtin; refine wpList_appL w8 rfl (.tmp 51) (.tmp 53) 89 rfl (B + 1) 29 (.slice none 0 0) 1 24 Tryz.underlying89 Tryz.infoTokL rfl (by decide) (by decide) (.slice a9 p k9) p (bc5 2) [.slice (some ⟨g6, 0, none⟩) (n + 1) cap6] _ rfl HB9.out _ rfl rfl rfl (by simp [Value.oneCell']) (by omega) (by omega) ?_; intro g9 cap9 w9 hown9 hgrow9 hat9 hlt9; have m9 := ((grow_cell hgrow9 (k := B) (show B < w8.heap.size by omega) (fun e => by have := HLB9.out B e.symm; omega)).1 2).trans c9; have n9 := ((grow_cell hgrow9 (k := B) (show B < w8.heap.size by omega) (fun e => by have := HLB9.out B e.symm; omega)).2 2).trans f9; have HO9 := hidZ hown9; have HG9 := hidZ hgrow9; have HA9 := hidZ hat9; clear hown9 hgrow9 hat9))
    obtain ⟨hw9, hk9⟩ := HW8.out.push (f := 2) (by omega) (by omega) HL9.out (Nat.le_refl _) HE9.out HO9.out HG9.out HA9.out
    obtain ⟨O9, eO9⟩ : ∃ x : Nat → Nat, x = fun k => if k = g9 then 2 + 2 else O5 k := ⟨_, rfl⟩
    obtain ⟨vb9, evb9⟩ : ∃ x : Nat → Value, x = upd vb5 2 (.slice (some ⟨g9, 0, none⟩) (p + 1) cap9) := ⟨_, rfl⟩
    obtain ⟨bc9, ebc9⟩ : ∃ x : Nat → List Value, x = upd bc5 2 (bc5 2 ++ [.slice (some ⟨g6, 0, none⟩) (n + 1) cap6]) := ⟨_, rfl⟩
    rw [← eO9, ← evb9, ← ebc9] at hw9
    have HK9 : Hid (∀ k, k < w8.heap.size → O5 k = 0 → (w9.setCell ⟨B, 2, none⟩ (.slice (some ⟨g9, 0, none⟩) (p + 1) cap9)).heap[k]? = w8.heap[k]? ∧ O9 k = 0) := fun k h1 h2 => by rw [eO9]; exact hk9 k h1 h2
    have HW9 := hidZ hw9
    have HZ9 : Hid (w8.heap.size ≤ (w9.setCell ⟨B, 2, none⟩ (.slice (some ⟨g9, 0, none⟩) (p + 1) cap9)).heap.size) := by
      have h1 := HG9.out.size
      have h2 : (w8.alloc (.cells #[.slice (some ⟨g6, 0, none⟩) (n + 1) cap6] 29)).heap.size = w8.heap.size + 1 := by simp
      have h3 : (w9.setCell ⟨B, 2, none⟩ (.slice (some ⟨g9, 0, none⟩) (p + 1) cap9)).heap.size = w9.heap.size := by simp [World.setCell]
      unfold Hid
      have h4 : w8.heap.size + 1 ≤ w9.heap.size := by rw [← h2]; exact h1
      omega
    have FB19 := hidZ (FBv8.out.keep HZ9.out (fun k h1 h2 => (HK9.out k h1 (HF1.out k h2).1).1))
    have FB29 := hidZ (FBo68.out.keep HZ9.out (fun k h1 h2 => (HK9.out k h1 (HF2.out k h2).1).1))
    have FB39 := hidZ (FBo78.out.keep HZ9.out (fun k h1 h2 => (HK9.out k h1 (HF3.out k h2).1).1))
    have FB49 := hidZ (FBo88.out.keep HZ9.out (fun k h1 h2 => (HK9.out k h1 (HF4.out k h2).1).1))
    replace HF1 : Hid (∀ k, (Value.slice va n vc).ownBlock = some k → O9 k = 0 ∧ k < (w9.setCell ⟨B, 2, none⟩ (.slice (some ⟨g9, 0, none⟩) (p + 1) cap9)).heap.size) := fun k hk => ⟨(HK9.out k (HF1.out k hk).2 (HF1.out k hk).1).2, Nat.lt_of_lt_of_le (HF1.out k hk).2 HZ9.out⟩
    replace HF2 : Hid (∀ k, (Value.slice (some ⟨g6, 0, none⟩) (n + 1) cap6).ownBlock = some k → O9 k = 0 ∧ k < (w9.setCell ⟨B, 2, none⟩ (.slice (some ⟨g9, 0, none⟩) (p + 1) cap9)).heap.size) := fun k hk => ⟨(HK9.out k (HF2.out k hk).2 (HF2.out k hk).1).2, Nat.lt_of_lt_of_le (HF2.out k hk).2 HZ9.out⟩
    replace HF3 : Hid (∀ k, (Value.slice (some ⟨g7, 0, none⟩) (n + 1 + 1) cap7).ownBlock = some k → O9 k = 0 ∧ k < (w9.setCell ⟨B, 2, none⟩ (.slice (some ⟨g9, 0, none⟩) (p + 1) cap9)).heap.size) := fun k hk => ⟨(HK9.out k (HF3.out k hk).2 (HF3.out k hk).1).2, Nat.lt_of_lt_of_le (HF3.out k hk).2 HZ9.out⟩
    replace HF4 : Hid (∀ k, (Value.slice (some ⟨g8, 0, none⟩) (n + 1 + 1 + 1) cap8).ownBlock = some k → O9 k = 0 ∧ k < (w9.setCell ⟨B, 2, none⟩ (.slice (some ⟨g9, 0, none⟩) (p + 1) cap9)).heap.size) := fun k hk => ⟨(HK9.out k (HF4.out k hk).2 (HF4.out k hk).1).2, Nat.lt_of_lt_of_le (HF4.out k hk).2 HZ9.out⟩
    have HBC9 : Hid (∀ f, f ≠ 1 → f ≠ 2 → bc9 f = bc f) := fun f h1 h2 => by rw [ebc9, upd_other _ _ h2]; exact HBC5.out f h1
    replace HN5 : Hid (bc9 1 = bc 1 ++ [.slice va n vc]) := by unfold Hid; rw [ebc9, upd_other _ _ (by omega)]; exact HN5.out
    have HN9 : Hid (bc9 2 = bc 2 ++ [.slice (some ⟨g6, 0, none⟩) (n + 1) cap6]) := by unfold Hid; rw [ebc9, upd_same, HBC5.out 2 (by omega)]
    clear hw9 hk9 eO9 evb9 ebc9 c9 f9 m9 n9 HO9 HG9 HA9 HB9 HE9 HL9 HLB9 HK9 HZ9 HW8
    generalize w9.setCell ⟨B, 2, none⟩ (.slice (some ⟨g9, 0, none⟩) (p + 1) cap9) = W9 at *
    have hb10 := HW9.out.pi.bk 3 (by omega) (by omega)
    have c10 := HW9.out.pi.wb 3 (by omega)
    have f10 := HW9.out.pi.wz 3
    obtain ⟨a10, k10, e10⟩ := rowSlice hb10
    have l10 : (bc9 3).length = p := by rw [HBC9.out 3 (by omega) (by omega)]; exact HLN.out 3 (by omega) (by omega)
    rw [l10] at e10 hb10
    rw [e10] at c10 hb10
    have HB10 := hidZ hb10
    have HE10 := hidZ e10
    have HL10 := hidZ l10
    have HLB10 : Hid (∀ k, (Value.slice a10 p k10).ownBlock = some k → B + 1 ≤ k) := fun k hk => (HB10.out.lt k hk).1
    have hzz10 := HW9.out.lt
    clear hb10 e10 l10
    go_upto_region 11 with (first
      | (at_builtin; refine wpList_appL W9 rfl (.tmp 61) (.tmp 63) 89 rfl (B + 1) 29 (.slice none 0 0) 1 24 Tryz.underlying89 Tryz.infoTokL rfl (by decide) (by decide) (.slice a10 p k10) p (bc9 3) [.slice (some ⟨g7, 0, none⟩) (n + 1 + 1) cap7] _ rfl HB10.out _ rfl rfl rfl (by simp [Value.oneCell']) (by omega) (by omega) ?_; intro g10 cap10 w10 hown10 hgrow10 hat10 hlt10; have m10 := ((grow_cell hgrow10 (k := B) (show B < W9.heap.size by omega) (fun e => by have := HLB10.out B e.symm; omega)).1 3).trans c10; have n10 := ((grow_cell hgrow10 (k := B) (show B < W9.heap.size by omega) (fun e => by have := HLB10.out B e.symm; omega)).2 3).trans f10; have HO10 := hidZ hown10; have HG10 := hidZ hgrow10; have HA10 := hidZ hat10; clear hown10 hgrow10 hat10))
    obtain ⟨hw10, hk10⟩ := HW9.out.push (f := 3) (by omega) (by omega) HL10.out (Nat.le_refl _) HE10.out HO10.out HG10.out HA10.out
    obtain ⟨O10, eO10⟩ : ∃ x : Nat → Nat, x = fun k => if k = g10 then 2 + 3 else O9 k := ⟨_, rfl⟩
    obtain ⟨vb10, evb10⟩ : ∃ x : Nat → Value, x = upd vb9 3 (.slice (some ⟨g10, 0, none⟩) (p + 1) cap10) := ⟨_, rfl⟩
    obtain ⟨bc10, ebc10⟩ : ∃ x : Nat → List Value, x = upd bc9 3 (bc9 3 ++ [.slice (some ⟨g7, 0, none⟩) (n + 1 + 1) cap7]) := ⟨_, rfl⟩
    rw [← eO10, ← evb10, ← ebc10] at hw10
    have HK10 : Hid (∀ k, k < W9.heap.size → O9 k = 0 → (w10.setCell ⟨B, 3, none⟩ (.slice (some ⟨g10, 0, none⟩) (p + 1) cap10)).heap[k]? = W9.heap[k]? ∧ O10 k = 0) := fun k h1 h2 => by rw [eO10]; exact hk10 k h1 h2
    have HW10 := hidZ hw10
    have HZ10 : Hid (W9.heap.size ≤ (w10.setCell ⟨B, 3, none⟩ (.slice (some ⟨g10, 0, none⟩) (p + 1) cap10)).heap.size) := by
      have h1 := HG10.out.size
      have h2 : (W9.alloc (.cells #[.slice (some ⟨g7, 0, none⟩) (n + 1 + 1) cap7] 29)).heap.size = W9.heap.size + 1 := by simp
      have h3 : (w10.setCell ⟨B, 3, none⟩ (.slice (some ⟨g10, 0, none⟩) (p + 1) cap10)).heap.size = w10.heap.size := by simp [World.setCell]
      unfold Hid
      have h4 : W9.heap.size + 1 ≤ w10.heap.size := by rw [← h2]; exact h1
      omega
    have FB110 := hidZ (FB19.out.keep HZ10.out (fun k h1 h2 => (HK10.out k h1 (HF1.out k h2).1).1))
    have FB210 := hidZ (FB29.out.keep HZ10.out (fun k h1 h2 => (HK10.out k h1 (HF2.out k h2).1).1))
    have FB310 := hidZ (FB39.out.keep HZ10.out (fun k h1 h2 => (HK10.out k h1 (HF3.out k h2).1).1))
    have FB410 := hidZ (FB49.out.keep HZ10.out (fun k h1 h2 => (HK10.out k h1 (HF4.out k h2).1).1))
    replace HF1 : Hid (∀ k, (Value.slice va n vc).ownBlock = some k → O10 k = 0 ∧ k < (w10.setCell ⟨B, 3, none⟩ (.slice (some ⟨g10, 0, none⟩) (p + 1) cap10)).heap.size) := fun k hk => ⟨(HK10.out k (HF1.out k hk).2 (HF1.out k hk).1).2, Nat.lt_of_lt_of_le (HF1.out k hk).2 HZ10.out⟩
    replace HF2 : Hid (∀ k, (Value.slice (some ⟨g6, 0, none⟩) (n + 1) cap6).ownBlock = some k → O10 k = 0 ∧ k < (w10.setCell ⟨B, 3, none⟩ (.slice (some ⟨g10, 0, none⟩) (p + 1) cap10)).heap.size) := fun k hk => ⟨(HK10.out k (HF2.out k hk).2 (HF2.out k hk).1).2, Nat.lt_of_lt_of_le (HF2.out k hk).2 HZ10.out⟩
    replace HF3 : Hid (∀ k, (Value.slice (some ⟨g7, 0, none⟩) (n + 1 + 1) cap7).ownBlock = some k → O10 k = 0 ∧ k < (w10.setCell ⟨B, 3, none⟩ (.slice (some ⟨g10, 0, none⟩) (p + 1) cap10)).heap.size) := fun k hk => ⟨(HK10.out k (HF3.out k hk).2 (HF3.out k hk).1).2, Nat.lt_of_lt_of_le (HF3.out k hk).2 HZ10.out⟩
    replace HF4 : Hid (∀ k, (Value.slice (some ⟨g8, 0, none⟩) (n + 1 + 1 + 1) cap8).ownBlock = some k → O10 k = 0 ∧ k < (w10.setCell ⟨B, 3, none⟩ (.slice (some ⟨g10, 0, none⟩) (p + 1) cap10)).heap.size) := fun k hk => ⟨(HK10.out k (HF4.out k hk).2 (HF4.out k hk).1).2, Nat.lt_of_lt_of_le (HF4.out k hk).2 HZ10.out⟩
    have HBC10 : Hid (∀ f, f ≠ 1 → f ≠ 2 → f ≠ 3 → bc10 f = bc f) := fun f h1 h2 h3 => by rw [ebc10, upd_other _ _ h3]; exact HBC9.out f h1 h2
    replace HN5 : Hid (bc10 1 = bc 1 ++ [.slice va n vc]) := by unfold Hid; rw [ebc10, upd_other _ _ (by omega)]; exact HN5.out
    replace HN9 : Hid (bc10 2 = bc 2 ++ [.slice (some ⟨g6, 0, none⟩) (n + 1) cap6]) := by unfold Hid; rw [ebc10, upd_other _ _ (by omega)]; exact HN9.out
    have HN10 : Hid (bc10 3 = bc 3 ++ [.slice (some ⟨g7, 0, none⟩) (n + 1 + 1) cap7]) := by unfold Hid; rw [ebc10, upd_same, HBC9.out 3 (by omega) (by omega)]
    clear hw10 hk10 eO10 evb10 ebc10 c10 f10 m10 n10 HO10 HG10 HA10 HB10 HE10 HL10 HLB10 HK10 HZ10 HW9
    generalize w10.setCell ⟨B, 3, none⟩ (.slice (some ⟨g10, 0, none⟩) (p + 1) cap10) = W10 at *
    have hb11 := HW10.out.pi.bk 4 (by omega) (by omega)
    have c11 := HW10.out.pi.wb 4 (by omega)
    have f11 := HW10.out.pi.wz 4
    obtain ⟨a11, k11, e11⟩ := rowSlice hb11
    have l11 : (bc10 4).length = p := by rw [HBC10.out 4 (by omega) (by omega) (by omega)]; exact HLN.out 4 (by omega) (by omega)
    rw [l11] at e11 hb11
    rw [e11] at c11 hb11
    have HB11 := hidZ hb11
    have HE11 := hidZ e11
    have HL11 := hidZ l11
    have HLB11 : Hid (∀ k, (Value.slice a11 p k11).ownBlock = some k → B + 1 ≤ k) := fun k hk => (HB11.out.lt k hk).1
    have hzz11 := HW10.out.lt
    clear hb11 e11 l11
    go_wp2_with (first
      | (at_builtin; refine wpList_appL W10 rfl (.tmp 71) (.tmp 73) 89 rfl (B + 1) 29 (.slice none 0 0) 1 24 Tryz.underlying89 Tryz.infoTokL rfl (by decide) (by decide) (.slice a11 p k11) p (bc10 4) [.slice (some ⟨g8, 0, none⟩) (n + 1 + 1 + 1) cap8] _ rfl HB11.out _ rfl rfl rfl (by simp [Value.oneCell']) (by omega) (by omega) ?_; intro g11 cap11 w11 hown11 hgrow11 hat11 hlt11; have m11 := ((grow_cell hgrow11 (k := B) (show B < W10.heap.size by omega) (fun e => by have := HLB11.out B e.symm; omega)).1 4).trans c11; have n11 := ((grow_cell hgrow11 (k := B) (show B < W10.heap.size by omega) (fun e => by have := HLB11.out B e.symm; omega)).2 4).trans f11; have HO11 := hidZ hown11; have HG11 := hidZ hgrow11; have HA11 := hidZ hat11; clear hown11 hgrow11 hat11))
    obtain ⟨hw11, hk11⟩ := HW10.out.push (f := 4) (by omega) (by omega) HL11.out (Nat.le_refl _) HE11.out HO11.out HG11.out HA11.out
    obtain ⟨O11, eO11⟩ : ∃ x : Nat → Nat, x = fun k => if k = g11 then 2 + 4 else O10 k := ⟨_, rfl⟩
    obtain ⟨vb11, evb11⟩ : ∃ x : Nat → Value, x = upd vb10 4 (.slice (some ⟨g11, 0, none⟩) (p + 1) cap11) := ⟨_, rfl⟩
    obtain ⟨bc11, ebc11⟩ : ∃ x : Nat → List Value, x = upd bc10 4 (bc10 4 ++ [.slice (some ⟨g8, 0, none⟩) (n + 1 + 1 + 1) cap8]) := ⟨_, rfl⟩
    rw [← eO11, ← evb11, ← ebc11] at hw11
    have HK11 : Hid (∀ k, k < W10.heap.size → O10 k = 0 → (w11.setCell ⟨B, 4, none⟩ (.slice (some ⟨g11, 0, none⟩) (p + 1) cap11)).heap[k]? = W10.heap[k]? ∧ O11 k = 0) := fun k h1 h2 => by rw [eO11]; exact hk11 k h1 h2
    have HW11 := hidZ hw11
    have HZ11 : Hid (W10.heap.size ≤ (w11.setCell ⟨B, 4, none⟩ (.slice (some ⟨g11, 0, none⟩) (p + 1) cap11)).heap.size) := by
      have h1 := HG11.out.size
      have h2 : (W10.alloc (.cells #[.slice (some ⟨g8, 0, none⟩) (n + 1 + 1 + 1) cap8] 29)).heap.size = W10.heap.size + 1 := by simp
      have h3 : (w11.setCell ⟨B, 4, none⟩ (.slice (some ⟨g11, 0, none⟩) (p + 1) cap11)).heap.size = w11.heap.size := by simp [World.setCell]
      unfold Hid
      have h4 : W10.heap.size + 1 ≤ w11.heap.size := by rw [← h2]; exact h1
      omega
    have FB111 := hidZ (FB110.out.keep HZ11.out (fun k h1 h2 => (HK11.out k h1 (HF1.out k h2).1).1))
    have FB211 := hidZ (FB210.out.keep HZ11.out (fun k h1 h2 => (HK11.out k h1 (HF2.out k h2).1).1))
    have FB311 := hidZ (FB310.out.keep HZ11.out (fun k h1 h2 => (HK11.out k h1 (HF3.out k h2).1).1))
    have FB411 := hidZ (FB410.out.keep HZ11.out (fun k h1 h2 => (HK11.out k h1 (HF4.out k h2).1).1))
    replace HF1 : Hid (∀ k, (Value.slice va n vc).ownBlock = some k → O11 k = 0 ∧ k < (w11.setCell ⟨B, 4, none⟩ (.slice (some ⟨g11, 0, none⟩) (p + 1) cap11)).heap.size) := fun k hk => ⟨(HK11.out k (HF1.out k hk).2 (HF1.out k hk).1).2, Nat.lt_of_lt_of_le (HF1.out k hk).2 HZ11.out⟩
    replace HF2 : Hid (∀ k, (Value.slice (some ⟨g6, 0, none⟩) (n + 1) cap6).ownBlock = some k → O11 k = 0 ∧ k < (w11.setCell ⟨B, 4, none⟩ (.slice (some ⟨g11, 0, none⟩) (p + 1) cap11)).heap.size) := fun k hk => ⟨(HK11.out k (HF2.out k hk).2 (HF2.out k hk).1).2, Nat.lt_of_lt_of_le (HF2.out k hk).2 HZ11.out⟩
    replace HF3 : Hid (∀ k, (Value.slice (some ⟨g7, 0, none⟩) (n + 1 + 1) cap7).ownBlock = some k → O11 k = 0 ∧ k < (w11.setCell ⟨B, 4, none⟩ (.slice (some ⟨g11, 0, none⟩) (p + 1) cap11)).heap.size) := fun k hk => ⟨(HK11.out k (HF3.out k hk).2 (HF3.out k hk).1).2, Nat.lt_of_lt_of_le (HF3.out k hk).2 HZ11.out⟩
    replace HF4 : Hid (∀ k, (Value.slice (some ⟨g8, 0, none⟩) (n + 1 + 1 + 1) cap8).ownBlock = some k → O11 k = 0 ∧ k < (w11.setCell ⟨B, 4, none⟩ (.slice (some ⟨g11, 0, none⟩) (p + 1) cap11)).heap.size) := fun k hk => ⟨(HK11.out k (HF4.out k hk).2 (HF4.out k hk).1).2, Nat.lt_of_lt_of_le (HF4.out k hk).2 HZ11.out⟩
    have HBC11 : Hid (∀ f, f ≠ 1 → f ≠ 2 → f ≠ 3 → f ≠ 4 → bc11 f = bc f) := fun f h1 h2 h3 h4 => by rw [ebc11, upd_other _ _ h4]; exact HBC10.out f h1 h2 h3
    replace HN5 : Hid (bc11 1 = bc 1 ++ [.slice va n vc]) := by unfold Hid; rw [ebc11, upd_other _ _ (by omega)]; exact HN5.out
    replace HN9 : Hid (bc11 2 = bc 2 ++ [.slice (some ⟨g6, 0, none⟩) (n + 1) cap6]) := by unfold Hid; rw [ebc11, upd_other _ _ (by omega)]; exact HN9.out
    replace HN10 : Hid (bc11 3 = bc 3 ++ [.slice (some ⟨g7, 0, none⟩) (n + 1 + 1) cap7]) := by unfold Hid; rw [ebc11, upd_other _ _ (by omega)]; exact HN10.out
    have HN11 : Hid (bc11 4 = bc 4 ++ [.slice (some ⟨g8, 0, none⟩) (n + 1 + 1 + 1) cap8]) := by unfold Hid; rw [ebc11, upd_same, HBC10.out 4 (by omega) (by omega) (by omega)]
    clear hw11 hk11 eO11 evb11 ebc11 c11 f11 m11 n11 HO11 HG11 HA11 HB11 HE11 HL11 HLB11 HK11 HZ11 HW10
    generalize w11.setCell ⟨B, 4, none⟩ (.slice (some ⟨g11, 0, none⟩) (p + 1) cap11) = W11 at *
    refine bodyPost_ret (results_none rfl _ _ _) rfl ?_
    have hat : ∀ (l : List Value) (u x : Value), l.length = p → (l ++ [u])[p]? = some x → x = u := fun l u x hl hx => by
      rw [List.getElem?_append_right (by omega), hl, Nat.sub_self] at hx
      simpa using hx.symm
    have hll : ∀ (l : List Value) (u : Value), l.length = p → (l ++ [u]).length = p + 1 := fun l u hl => by rw [List.length_append, hl]; rfl
    obtain ⟨O', hO'⟩ := HW11.out.fin (S := fun k => (Value.slice va n vc).ownBlock = some k ∨ (Value.slice (some ⟨g6, 0, none⟩) (n + 1) cap6).ownBlock = some k ∨ (Value.slice (some ⟨g7, 0, none⟩) (n + 1 + 1) cap7).ownBlock = some k ∨ (Value.slice (some ⟨g8, 0, none⟩) (n + 1 + 1 + 1) cap8).ownBlock = some k)
      (v1 := .slice va n vc) (v2 := .slice (some ⟨g6, 0, none⟩) (n + 1) cap6) (v3 := .slice (some ⟨g7, 0, none⟩) (n + 1 + 1) cap7) (v4 := .slice (some ⟨g8, 0, none⟩) (n + 1 + 1 + 1) cap8) (fun k hk => hk) (fun k hk => by
        rcases hk with e | e | e | e
        · exact HF1.out k e
        · exact HF2.out k e
        · exact HF3.out k e
        · exact HF4.out k e) (fun f x h1 h2 hx => by
        have hf : f = 1 ∨ f = 2 ∨ f = 3 ∨ f = 4 := by omega
        rcases hf with rfl | rfl | rfl | rfl
        · rw [HN5.out] at hx
          rw [hat _ _ _ (HLN.out 1 (by omega) (by omega)) hx]
          exact FB111.out.more (fun k hk => .inl hk) (by omega)
        · rw [HN9.out] at hx
          rw [hat _ _ _ (HLN.out 2 (by omega) (by omega)) hx]
          exact FB211.out.more (fun k hk => .inr (.inl hk)) (by omega)
        · rw [HN10.out] at hx
          rw [hat _ _ _ (HLN.out 3 (by omega) (by omega)) hx]
          exact FB311.out.more (fun k hk => .inr (.inr (.inl hk))) (by omega)
        · rw [HN11.out] at hx
          rw [hat _ _ _ (HLN.out 4 (by omega) (by omega)) hx]
          exact FB411.out.more (fun k hk => .inr (.inr (.inr hk))) (by omega))
    refine ⟨rfl, O', _, _, hO', fun f h1 h2 => ?_, HBC11.out 5 (by omega) (by omega) (by omega) (by omega), HBC11.out 6 (by omega) (by omega) (by omega) (by omega), HW11.out.bl⟩
    have hf : f = 1 ∨ f = 2 ∨ f = 3 ∨ f = 4 := by omega
    rcases hf with rfl | rfl | rfl | rfl
    · rw [HN5.out]; exact hll _ _ (HLN.out 1 (by omega) (by omega))
    · rw [HN9.out]; exact hll _ _ (HLN.out 2 (by omega) (by omega))
    · rw [HN10.out]; exact hll _ _ (HLN.out 3 (by omega) (by omega))
    · rw [HN11.out]; exact hll _ _ (HLN.out 4 (by omega) (by omega))
end Go.Proofs.YtgjgjgihceijnaaGreat

namespace Go.Proofs.YtgjgjgihceijnaaGreat
open Go.RowKit Go.Stn
/-- A book is emptied. -/
theorem PI.clear {B p q : Nat} {w : World} {O : Nat → Nat} {cs : List TwK} {vb : Nat → Value} {bc : Nat → List Value} {T : Nat → List (Int × Int × Int)} (h : PI B p w O cs vb bc q T) {f : Nat} (hf : f = 5 ∨ f = 6) :
    PI B p (w.setCell ⟨B, f, none⟩ (.slice none 0 0)) O cs (upd vb f (.slice none 0 0)) (upd bc f []) q T := by
  obtain ⟨o1, b1⟩ := h.wt
  have hz : w.heap.size ≤ (w.setCell ⟨B, f, none⟩ (.slice none 0 0)).heap.size := by simp [World.setCell]
  have hk : ∀ k, k < w.heap.size → O k ≠ 1 → (w.setCell ⟨B, f, none⟩ (.slice none 0 0)).heap[k]? = w.heap[k]? ∧ O k = O k := fun k _ hn => ⟨set_keep w B f _ (fun e => hn (by rw [e]; exact o1)), rfl⟩
  refine ⟨fun f' hf' => ?_, fun i => by rw [World.frozen?_setCell]; exact h.wz i, ⟨o1, Nat.lt_of_lt_of_le b1 hz⟩, ?_, fun f' a1 a2 => ?_, fun f' k hf' hk' => ?_, fun f' i u a1 a2 hip hu => ?_, fun j u hj hu => ?_, fun j u hj hu => ?_, fun j t hj => (h.cu j t hj).keep hz (fun k hk2 ho => hk k hk2 (by omega)), fun k hk2 => h.fr k (Nat.le_trans hz hk2), h.cl⟩
  · by_cases e : f' = f
    · subst e
      rw [upd_same]
      exact World.cell?_setCell_same _ _ _ (h.wb f' hf')
    · rw [upd_other _ _ e, World.cell?_setCell_other (h := by intro e'; injection e'; omega)]
      exact h.wb f' hf'
  · rw [upd_other _ _ (by omega)]
    exact ownsRow_setCell_below h.b0 (show B < B + 1 by omega) _
  · by_cases e : f' = f
    · subst e
      rw [upd_same, upd_same]
      exact World.ownsRow_nil _ _ _ _
    · rw [upd_other _ _ e, upd_other _ _ e]
      exact ownsRow_setCell_below (h.bk f' a1 a2) (show B < B + 1 by omega) _
  · by_cases e : f' = f
    · subst e
      rw [upd_same] at hk'
      simp [Value.ownBlock] at hk'
    · rw [upd_other _ _ e] at hk'
      exact h.bt f' k hf' hk'
  · rw [upd_other _ _ (by omega)] at hu
    exact (h.mm f' i u a1 a2 hip hu).keep hz (fun k hk2 ho => hk k hk2 (by omega))
  · by_cases e : 5 = f
    · subst e
      rw [upd_same] at hu
      simp at hu
    · rw [upd_other _ _ e] at hu
      exact (h.wa j u hj hu).keep (fun k hk2 ho => hk k hk2 (by omega))
  · by_cases e : 6 = f
    · subst e
      rw [upd_same] at hu
      simp at hu
    · rw [upd_other _ _ e] at hu
      exact (h.we j u hj hu).keep (fun k hk2 ho => hk k hk2 (by omega))
theorem PI.again {B p q : Nat} {w : World} {O : Nat → Nat} {cs : List TwK} {vb : Nat → Value} {bc : Nat → List Value} {T : Nat → List (Int × Int × Int)} (h : PI B p w O cs vb bc q T) (h5 : bc 5 = []) (h6 : bc 6 = []) : PI B p w O cs vb bc 0 T :=
  ⟨h.wb, h.wz, h.wt, h.b0, h.bk, h.bt, h.mm, fun j v _ hv => by rw [h5] at hv; simp at hv, fun j v _ hv => by rw [h6] at hv; simp at hv, h.cu, h.fr, h.cl⟩
theorem sameB_self (l : List (Int × Int × Int)) : sameB l l = true := by unfold sameB; simp
/-- What settle comes to. -/
def SettleAt (B p m : Nat) (w : World) (cs : List TwK) (T : Nat → List (Int × Int × Int)) (e : Ending) (w' : World) : Prop :=
  e = .returned (.bool true) ∧ ∃ O' vb' bc', PI B (p + m) w' O' cs vb' bc' 0 T ∧ (∀ f, 1 ≤ f → f ≤ 4 → (bc' f).length = p + m) ∧ bc' 5 = [] ∧ bc' 6 = [] ∧ Below B w w'
set_option maxRecDepth 100000 in
set_option maxHeartbeats 4000000 in
theorem ksettle_any {B p : Nat} {w : World} {O : Nat → Nat} {cs : List TwK} {vb : Nat → Value} {bc : Nat → List Value} {T : Nat → List (Int × Int × Int)} (h : PI B p w O cs vb bc 0 T) {m : Nat}
    (hlen : ∀ f, 1 ≤ f → f ≤ 4 → (bc f).length = p) (h5 : (bc 5).length = m) (h6 : (bc 6).length = m) (hpb : p + m ≤ 5864062014800) :
    Calls Tryz.prog 30 #[.pointer (some ⟨B, 0, none⟩)] w (SettleAt B p m w cs T) := by
  have HH := hidZ h
  have HLN := hidZ hlen
  have H5 := hidZ h5
  have H6 := hidZ h6
  have hb5 := h.bk 5 (by omega) (by omega)
  have hb6 := h.bk 6 (by omega) (by omega)
  have c5 := h.wb 5 (by omega)
  have c6 := h.wb 6 (by omega)
  obtain ⟨a5, k5, e5⟩ := rowSlice hb5
  obtain ⟨a6, k6, e6⟩ := rowSlice hb6
  rw [h5] at e5 hb5
  rw [h6] at e6 hb6
  rw [e5] at c5 hb5
  rw [e6] at c6 hb6
  have HB5 := hidZ hb5
  have HB6 := hidZ hb6
  have hB1 := h.wt.2
  clear h hlen h5 h6 hb5 hb6 e5 e6
  go_enter Tryz.func30, Tryz.ntmps30
  go_upto_block 0 with fail
  go_cut [3, 4] from 7 to 34 (fun b _ wc => b = .bool true ∧ ∃ nq, wc = w.drewN nq)
  case first =>
    go_wp2_with fail
    go_loopw [3, 4] (fun b ii wr => ∃ (k nq0 : Nat), k ≤ m ∧ b = .bool true ∧ ii = .int .i64 (k : Int) ∧ wr = w.drewN nq0) (fun _ ii _ => m - (intOf ii).toNat)
    case atStart => exact ⟨0, 0, Nat.zero_le _, rfl, rfl, rfl⟩
    case round =>
      obtain ⟨k, nq0, hk, rfl, rfl, hwr⟩ := hrel
      have d5 : wr.cell? ⟨B, 5, none⟩ = some (.slice a5 m k5) := by rw [hwr]; exact c5
      have d6 : wr.cell? ⟨B, 6, none⟩ = some (.slice a6 m k6) := by rw [hwr]; exact c6
      have HWR := hidZ hwr
      clear hwr
      by_cases hlt : k < m
      · obtain ⟨v, hv⟩ : ∃ v, (bc 5)[k]? = some v := ⟨_, List.getElem?_eq_getElem (by rw [H5.out]; exact hlt)⟩
        obtain ⟨u, hu⟩ : ∃ u, (bc 6)[k]? = some u := ⟨_, List.getElem?_eq_getElem (by rw [H6.out]; exact hlt)⟩
        have ov := HH.out.wa k v (Nat.zero_le _) hv
        have ou := HH.out.we k u (Nat.zero_le _) hu
        obtain ⟨g5, cap5, ev5, _, _⟩ := HB5.out.form (by omega)
        injection ev5 with e1 e2 e3
        subst e1
        obtain ⟨g6, cap6, ev6, _, _⟩ := HB6.out.form (by omega)
        injection ev6 with e4 e5 e6
        subst e4
        have x5 := row_range HB5.out k v hv
        have x6 := row_range HB6.out k u hu
        rw [Nat.zero_add] at x5 x6
        replace x5 : wr.cell? ⟨g5, k, none⟩ = some v := by rw [HWR.out]; exact x5
        replace x6 : wr.cell? ⟨g6, k, none⟩ = some u := by rw [HWR.out]; exact x6
        have HSM : Hid (∀ z, Calls Tryz.prog 12 #[v, u] (wr.drewN z) fun e w' => e = .returned (.bool true) ∧ ∃ y, w' = (wr.drewN z).drewN y) := fun z => by
          rw [HWR.out]
          have := same_any (T k) (T k) v u w.heap.size w.heap.size ((w.drewN nq0).drewN z) (by have := ov.ln; omega) (by have := ov.ln; omega) ⟨(ownsRow_row3 ov.ro).sh⟩ ⟨(ownsRow_row3 ou.ro).sh⟩
          rw [sameB_self] at this
          exact this
        obtain ⟨va, vc, hve⟩ := rowSlice ov.ro
        obtain ⟨ua, uc, hue⟩ := rowSlice ou.ro
        have hkI : (0 : Int) ≤ (k : Int) ∧ (k : Int) < (m : Int) := by omega
        subst hve hue
        clear ov ou hv hu e2 e3 e5 e6 c5 c6
        go_wp2
        go_quiet ((go_at_call 12; exact Calls.quiet_of (HSM.out _)))
        go_wp2
        go_roundw
        case rel => exact ⟨k + 1, nq0 + nq, hlt, rfl, by go_num, by rw [HWR.out, World.drewN_drewN]⟩
        case measure => simp [intOf]; omega
      · have dk : decide ((k : Int) < (m : Int)) = false := by simp; omega
        go_wp2
        go_meet
        case rel => exact ⟨rfl, nq0, HWR.out⟩
  case rest =>
    obtain ⟨rfl, nq, rfl⟩ := hcut
    have HD := hidZ (HH.out.draw nq)
    have HBD : Hid (Below B w (w.drewN nq)) := ⟨rfl, rfl, rfl, Nat.le_refl _, fun _ _ => rfl⟩
    clear c5 c6 HB5 HB6
    generalize w.drewN nq = W at *
    go_upto_block 2 with fail
    go_cut [6] from 35 to 52 (fun _ wc => ∃ O' vb' bc', PI B (p + m) wc O' cs vb' bc' m T ∧ (∀ f, 1 ≤ f → f ≤ 4 → (bc' f).length = p + m) ∧ bc' 5 = bc 5 ∧ bc' 6 = bc 6 ∧ Below B w wc)
    case first =>
      go_wp2_with fail
      go_loopw [6] (fun ii wr => ∃ (k : Nat) (O' : Nat → Nat) (vb' : Nat → Value) (bc' : Nat → List Value), k ≤ m ∧ ii = .int .i64 (k : Int) ∧ PI B (p + k) wr O' cs vb' bc' k T ∧ (∀ f, 1 ≤ f → f ≤ 4 → (bc' f).length = p + k) ∧ bc' 5 = bc 5 ∧ bc' 6 = bc 6 ∧ Below B w wr) (fun ii _ => m - (intOf ii).toNat)
      case atStart => exact ⟨0, O, vb, bc, Nat.zero_le _, rfl, HD.out, HLN.out, rfl, rfl, HBD.out⟩
      case round =>
        obtain ⟨k, O1, vb1, bc1, hk, rfl, hpi, hln, hb5, hb6, hbl⟩ := hrel
        have HP := hidZ hpi
        have HL1 := hidZ hln
        have HB15 := hidZ hb5
        have HB16 := hidZ hb6
        have HBL := hidZ hbl
        have hr5 := hpi.bk 5 (by omega) (by omega)
        have c5 := hpi.wb 5 (by omega)
        obtain ⟨a5, k5, e5⟩ := rowSlice hr5
        rw [hb5, H5.out] at e5 hr5
        rw [e5] at c5 hr5
        have HR5 := hidZ hr5
        clear hpi hln hb5 hb6 hbl hr5 e5 HD HBD
        by_cases hlt : k < m
        · obtain ⟨v, hv⟩ : ∃ v, (bc 5)[k]? = some v := ⟨_, List.getElem?_eq_getElem (by rw [H5.out]; exact hlt)⟩
          have ov := HP.out.wa k v (Nat.le_refl _) (by rw [HB15.out]; exact hv)
          obtain ⟨g5, cap5, ev5, _, _⟩ := HR5.out.form (by omega)
          injection ev5 with e1 e2 e3
          subst e1
          have x5 := row_range HR5.out k v hv
          rw [Nat.zero_add] at x5
          have hkI : (0 : Int) ≤ (k : Int) ∧ (k : Int) < (m : Int) := by omega
          have HOV := hidZ ov
          obtain ⟨va, vc, hve⟩ := rowSlice ov.ro
          subst hve
          clear ov hv e2 e3
          go_wp2_with fail
          refine (kown_any (HP.out.later (Nat.le_succ k)) HOV.out.ro HOV.out.tg (Nat.lt_succ_self k) HOV.out.ln HL1.out (by omega)).mono ?_
          rintro e w2 ⟨rfl, O2, vb2, bc2, hpi2, hln2, h52, h62, hbl2⟩
          have HP2 := hidZ hpi2
          have HL2 := hidZ hln2
          have H52 : Hid (bc2 5 = bc 5) := h52.trans HB15.out
          have H62 : Hid (bc2 6 = bc 6) := h62.trans HB16.out
          have HBL2 := hidZ (HBL.out.trans hbl2)
          clear hpi2 hln2 h52 h62 hbl2 c5 x5
          go_wp2
          go_roundw
          case rel => exact ⟨k + 1, O2, vb2, bc2, hlt, by go_num, HP2.out, HL2.out, H52.out, H62.out, HBL2.out⟩
          case measure => simp [intOf]; omega
        · have dk : decide ((k : Int) < (m : Int)) = false := by simp; omega
          have e : k = m := by omega
          subst e
          go_wp2
          go_meet
          case rel => exact ⟨O1, vb1, bc1, HP.out, HL1.out, HB15.out, HB16.out, HBL.out⟩
    case rest =>
      obtain ⟨O1, vb1, bc1, hpi, hln, hb5, hb6, hbl⟩ := hcut
      have c5 := hpi.wb 5 (by omega)
      have c6 := hpi.wb 6 (by omega)
      have f5 := hpi.wz 5
      have f6 := hpi.wz 6
      have q6 : (wc.setCell ⟨B, 5, none⟩ (.slice none 0 0)).cell? ⟨B, 6, none⟩ = some (vb1 6) := by
        rw [World.cell?_setCell_other (h := by intro e'; injection e'; omega)]; exact c6
      have g6 : (wc.setCell ⟨B, 5, none⟩ (.slice none 0 0)).frozen? ⟨B, 6, none⟩ = false := by rw [World.frozen?_setCell]; exact f6
      have HF := hidZ (((hpi.clear (f := 5) (.inl rfl)).clear (f := 6) (.inr rfl)).again (by rw [upd_other _ _ (by omega), upd_same]) (by rw [upd_same]))
      have HLF : Hid (∀ f, 1 ≤ f → f ≤ 4 → (upd (upd bc1 5 []) 6 [] f).length = p + m) := fun f h1 h2 => by rw [upd_other _ _ (by omega), upd_other _ _ (by omega)]; exact hln f h1 h2
      have HBF : Hid (Below B w ((wc.setCell ⟨B, 5, none⟩ (.slice none 0 0)).setCell ⟨B, 6, none⟩ (.slice none 0 0))) := (hbl.setCell (p := ⟨B, 5, none⟩) (Nat.le_refl _) _).setCell (p := ⟨B, 6, none⟩) (Nat.le_refl _) _
      clear hpi hln hb5 hb6 hbl HD HBD
      go_wp2
      go_ret
      exact ⟨rfl, _, _, _, HF.out, HLF.out, by rw [upd_other _ _ (by omega), upd_same], by rw [upd_same], HBF.out⟩
end Go.Proofs.YtgjgjgihceijnaaGreat

namespace Go.Proofs.YtgjgjgihceijnaaGreat
open Go.RowKit Go.Stn
set_option maxRecDepth 100000 in
set_option maxHeartbeats 2000000 in
theorem kfull_any {O : Nat → Nat} (v : Value) (l : List Value) (base : Nat) (w : World) (hro : w.ownsRow base 29 1 v l.length l) (hmk : ∀ i u, l[i]? = some u → MK w O i u) (hl : l.length ≤ 5864062014800) :
    Calls Tryz.prog 64 #[v] w fun e w' => e = .returned (.bool true) ∧ Below w.heap.size w w' := by
  have HSH := hidZ (ownsRow_shape hro)
  have HLT := hidZ (fun k => hro.lt k)
  have HRO := hidZ hro
  obtain ⟨a, cap, hv⟩ := rowSlice hro
  subst hv
  have HMK := hidZ hmk
  clear hro hmk
  go_enter Tryz.func64, Tryz.ntmps64
  go_wp2_with fail
  go_loopw [3] (fun ii wr => ∃ k : Nat, k ≤ l.length ∧ ii = .int .i64 (k : Int) ∧ Below w.heap.size w wr) (fun ii _ => l.length - (intOf ii).toNat)
  case atStart => exact ⟨0, Nat.zero_le _, rfl, Below.refl _ _⟩
  case round =>
    obtain ⟨k, hk, rfl, hb⟩ := hrel
    have HB := hidZ hb
    clear hb
    by_cases hlt : k < l.length
    · obtain ⟨u, hu⟩ : ∃ u, l[k]? = some u := ⟨_, List.getElem?_eq_getElem hlt⟩
      obtain ⟨ua, n, ucap, hue, hn, h0⟩ := HMK.out k u hu
      subst hue
      rcases HSH.out with e | ⟨g, c2, e⟩
      · injection e with _ e; omega
      injection e with e1 e2 e3
      subst e1
      have hgz := (HLT.out g rfl).2
      have c0 := row_range HRO.out k _ hu
      rw [Nat.zero_add] at c0
      have c1 := (HB.out.cell (p := ⟨g, k, none⟩) hgz).trans c0
      have hkI : (0 : Int) ≤ (k : Int) ∧ (k : Int) < (l.length : Int) := by omega
      have HBA : Hid (Below wr.heap.size wr (wr.alloc (.cells #[.int .i64 (-9), .int .i64 (k : Int), .int .i64 (-9)] 79))) := (Below.refl _ _).alloc (Nat.le_refl _) _
      have c2 := (HBA.out.cell (p := ⟨g, k, none⟩) (Nat.lt_of_lt_of_le hgz HB.out.size)).trans c1
      have m0 : (wr.alloc (.cells #[.int .i64 (-9), .int .i64 (k : Int), .int .i64 (-9)] 79)).cell? ⟨wr.heap.size, 0, none⟩ = some (.int .i64 (-9)) := (World.cell?_alloc_at _ _ _ 0 rfl).trans rfl
      have m1 : (wr.alloc (.cells #[.int .i64 (-9), .int .i64 (k : Int), .int .i64 (-9)] 79)).cell? ⟨wr.heap.size, 1, none⟩ = some (.int .i64 (k : Int)) := (World.cell?_alloc_at _ _ _ 1 rfl).trans rfl
      have m2 : (wr.alloc (.cells #[.int .i64 (-9), .int .i64 (k : Int), .int .i64 (-9)] 79)).cell? ⟨wr.heap.size, 2, none⟩ = some (.int .i64 (-9)) := (World.cell?_alloc_at _ _ _ 2 rfl).trans rfl
      have HB4 := hidZ (HB.out.alloc HB.out.size (.cells #[.int .i64 (-9), .int .i64 (k : Int), .int .i64 (-9)] 79))
      have H0 : Hid (∀ j, j < n → ∃ g2, ua = some ⟨g2, 0, none⟩ ∧ (wr.alloc (.cells #[.int .i64 (-9), .int .i64 (k : Int), .int .i64 (-9)] 79)).cell? ⟨g2, j * 3, none⟩ = some (.int .i64 (-9)) ∧ (wr.alloc (.cells #[.int .i64 (-9), .int .i64 (k : Int), .int .i64 (-9)] 79)).cell? ⟨g2, j * 3 + 1, none⟩ = some (.int .i64 (k : Int)) ∧ (wr.alloc (.cells #[.int .i64 (-9), .int .i64 (k : Int), .int .i64 (-9)] 79)).cell? ⟨g2, j * 3 + 2, none⟩ = some (.int .i64 (-9))) := fun j hj => by
        obtain ⟨g2, ea, hg2, _, hc⟩ := h0 (by omega)
        obtain ⟨x, y, z⟩ := hc j hj
        exact ⟨g2, ea, (HB4.out.cell (p := ⟨g2, j * 3, none⟩) hg2).trans x, (HB4.out.cell (p := ⟨g2, j * 3 + 1, none⟩) hg2).trans y, (HB4.out.cell (p := ⟨g2, j * 3 + 2, none⟩) hg2).trans z⟩
      clear hu h0 c0 c1 e2 e3 HB HBA
      go_upto_region 5 with fail
      generalize wr.alloc (.cells #[.int .i64 (-9), .int .i64 (k : Int), .int .i64 (-9)] 79) = W4 at *
      go_wp2
      go_loopw [5] (fun jj wq => ∃ j q : Nat, j ≤ n ∧ jj = .int .i64 (j : Int) ∧ wq = W4.drewN q) (fun jj _ => n - (intOf jj).toNat)
      case atStart => exact ⟨0, 0, Nat.zero_le _, rfl, rfl⟩
      case round =>
        obtain ⟨j, q, hj, rfl, rfl⟩ := hrel
        by_cases hlj : j < n
        · obtain ⟨g2, ea, x, y, z⟩ := H0.out j hlj
          subst ea
          have hjI : (0 : Int) ≤ (j : Int) ∧ (j : Int) < (n : Int) := by omega
          go_wp2
          go_quiet (fail)
          go_wp2
          go_roundw
          case rel => exact ⟨j + 1, _, hlj, by go_num, rfl⟩
          case measure => simp [intOf]; omega
        · have dj : decide ((j : Int) < (n : Int)) = false := by simp; omega
          go_wp2
          go_roundw
          case rel => exact ⟨k + 1, hlt, by go_num, ⟨HB4.out.os, HB4.out.tape, HB4.out.output, HB4.out.size, HB4.out.block⟩⟩
          case measure => simp [intOf]; omega
    · have dk : decide ((k : Int) < (l.length : Int)) = false := by simp; omega
      go_wp2
      go_ret
      exact ⟨rfl, HB.out⟩
set_option maxRecDepth 100000 in
set_option maxHeartbeats 2000000 in
theorem klooks_any {B p q : Nat} {w : World} {O : Nat → Nat} {cs : List TwK} {vb : Nat → Value} {bc : Nat → List Value} {T : Nat → List (Int × Int × Int)} (h : PI B p w O cs vb bc q T) (hl : ∀ f, 1 ≤ f → f ≤ 4 → (bc f).length ≤ 5864062014800) (hp : ∀ f, 1 ≤ f → f ≤ 4 → (bc f).length ≤ p) :
    Calls Tryz.prog 31 #[.pointer (some ⟨B, 0, none⟩)] w fun e w' => e = .returned (.bool true) ∧ Below w.heap.size w w' := by
  have HH := hidZ h
  have HL := hidZ hl
  have HPP := hidZ hp
  have HF : Hid (∀ f w', 1 ≤ f → f ≤ 4 → Below w.heap.size w w' → w'.cell? ⟨B, f, none⟩ = some (vb f) ∧ Calls Tryz.prog 64 #[vb f] w' fun e w'' => e = .returned (.bool true) ∧ Below w'.heap.size w' w'') := fun f w' h1 h2 hB => by
    have := HH.out.below hB
    exact ⟨this.wb f (by omega), kfull_any (O := O) (vb f) (bc f) (B + 1) w' (this.bk f h1 (by omega)) (fun i u hu => this.mm f i u h1 h2 (Nat.lt_of_lt_of_le (List.getElem?_eq_some_iff.1 hu).1 (HPP.out f h1 h2)) hu) (HL.out f h1 h2)⟩
  obtain ⟨a1, f1⟩ := HF.out 1 w (by omega) (by omega) (Below.refl _ _)
  clear h hl hp
  go_enter Tryz.func31, Tryz.ntmps31
  go_wp2_with fail
  refine f1.mono ?_
  rintro e w1 ⟨rfl, hb1⟩
  have HB1 := hidZ hb1
  obtain ⟨a2, f2⟩ := HF.out 2 w1 (by omega) (by omega) hb1
  clear hb1 a1 f1
  go_wp2_with fail
  refine f2.mono ?_
  rintro e w2 ⟨rfl, hb2⟩
  have HB2 := hidZ (HB1.out.trans (hb2.mono HB1.out.size))
  obtain ⟨a3, f3⟩ := HF.out 3 w2 (by omega) (by omega) HB2.out
  clear hb2 a2 f2 HB1
  go_wp2_with fail
  refine f3.mono ?_
  rintro e w3 ⟨rfl, hb3⟩
  have HB3 := hidZ (HB2.out.trans (hb3.mono HB2.out.size))
  obtain ⟨a4, f4⟩ := HF.out 4 w3 (by omega) (by omega) HB3.out
  clear hb3 a3 f3 HB2
  go_wp2_with fail
  refine f4.mono ?_
  rintro e w4 ⟨rfl, hb4⟩
  have HB4 := hidZ (HB3.out.trans (hb4.mono HB3.out.size))
  clear hb4 a4 f4 HB3
  go_wp2
  go_ret
  exact ⟨rfl, HB4.out⟩
end Go.Proofs.YtgjgjgihceijnaaGreat

