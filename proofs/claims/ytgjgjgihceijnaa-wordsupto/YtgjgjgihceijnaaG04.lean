/- Texts put together: StAlike, LyCond, ScPure2, ScPure3, ScPure4, LyPure2. -/
import Derived.Test.YtgjgjgihceijnaaG02
import Derived.Test.YtgjgjgihceijnaaG03
namespace Go.Stn
open Go.RowKit
/-- States in memory, below top: their list lies at g. -/
structure SIn (w : World) (top g n K : Nat) (zb : Nat → Nat) (tk : Nat → Nat) (nx : Nat → Nat → Int) : Prop where
  tkc : ∀ s, s < n → w.cell? ⟨g, s * 2, none⟩ = some (.int .i64 (tk s))
  nxc : ∀ s, s < n → w.cell? ⟨g, s * 2 + 1, none⟩ = some (.slice (some ⟨zb s, 0, none⟩) K K)
  ldc : ∀ s k, s < n → k < K → w.cell? ⟨zb s, k, none⟩ = some (.int .i64 (nx s k))
  bg : g < top
  bz : ∀ s, s < n → zb s < top
theorem SIn.below {w w' : World} {top g n K B : Nat} {zb tk : Nat → Nat} {nx : Nat → Nat → Int} (h : SIn w top g n K zb tk nx) (hB : Below B w w') (hb : top ≤ B) : SIn w' top g n K zb tk nx :=
  ⟨fun s hs => (hB.cell (p := ⟨g, s * 2, none⟩) (Nat.lt_of_lt_of_le h.bg hb)).trans (h.tkc s hs), fun s hs => (hB.cell (p := ⟨g, s * 2 + 1, none⟩) (Nat.lt_of_lt_of_le h.bg hb)).trans (h.nxc s hs),
    fun s k hs hk => (hB.cell (p := ⟨zb s, k, none⟩) (Nat.lt_of_lt_of_le (h.bz s hs) hb)).trans (h.ldc s k hs hk), h.bg, h.bz⟩
theorem SIn.drewN {w : World} {top g n K : Nat} {zb tk : Nat → Nat} {nx : Nat → Nat → Int} (h : SIn w top g n K zb tk nx) (q : Nat) : SIn (w.drewN q) top g n K zb tk nx := ⟨h.tkc, h.nxc, h.ldc, h.bg, h.bz⟩
/-- Numbers in memory. -/
def NIn (w : World) (g n : Nat) (f : Nat → Int) : Prop := ∀ i, i < n → w.cell? ⟨g, i, none⟩ = some (.int .i64 (f i))
theorem NIn.below {w w' : World} {g n B : Nat} {f : Nat → Int} (h : NIn w g n f) (hB : Below B w w') (hb : g < B) : NIn w' g n f := fun i hi => (hB.cell (p := ⟨g, i, none⟩) hb).trans (h i hi)
theorem NIn.of_row {w : World} {base e g cap : Nat} {l : List Nat} (h : w.ownsRow base e 1 (.slice (some ⟨g, 0, none⟩) l.length cap) l.length (natC l)) : NIn w g l.length (listF l) := fun i hi => by
  have h1 := h.cells rfl i (.int .i64 (listF l i)) (by
    unfold natC listF
    rw [List.getElem?_map, List.getElem?_eq_getElem hi, List.getD_eq_getElem?_getD, List.getElem?_eq_getElem hi]; rfl)
  by_cases hj : i = 0
  · subst hj; simpa [Addr.add] using h1
  · simpa [Addr.add, hj] using h1
theorem ledB_no {pt : Nat → Int} {nx : Nat → Nat → Int} {s t K g : Nat} (hg : g < K) (h : prtP pt (nx s g) ≠ prtP pt (nx t g)) : ledB pt nx s t K = false := by
  unfold ledB; rw [decide_eq_false_iff_not]; intro q; exact h (q g hg)
theorem ledB_yes {pt : Nat → Int} {nx : Nat → Nat → Int} {s t K : Nat} (h : ∀ g, g < K → prtP pt (nx s g) = prtP pt (nx t g)) : ledB pt nx s t K = true := by
  unfold ledB; rw [decide_eq_true_eq]; exact h
end Go.Stn
namespace Go.Proofs.Ytgjgjgihceijnaa
open Go.RowKit Go.Stn

theorem spartOf_any (pt : Nat → Int) (g n cap : Nat) (x : Int) (w : World) (hx : x = -1 ∨ (0 ≤ x ∧ x < n)) (h : NIn w g n pt) :
    Calls Try.prog 122 #[.slice (some ⟨g, 0, none⟩) n cap, .int .i64 x] w fun e w' => e = .returned (.int .i64 (prtP pt x)) ∧ w' = w := by
  by_cases hm : x = -1
  · subst hm
    go_enter Try.func122, Try.ntmps122
    go_wp2
    go_ret
    exact ⟨rfl, rfl⟩
  · have hd : (x == -1) = false := beq_eq_false_iff_ne.2 hm
    obtain ⟨k, rfl⟩ : ∃ k : Nat, x = (k : Int) := ⟨x.toNat, by omega⟩
    have hk : k < n := by omega
    have hc := h k hk
    have HE : Hid (prtP pt (k : Int) = pt k) := by unfold Hid prtP; rw [if_neg hm]; simp
    have hkI : (0 : Int) ≤ (k : Int) ∧ (k : Int) < (n : Int) := by omega
    clear hm hx h
    go_enter Try.func122, Try.ntmps122
    go_wp2
    go_ret
    exact ⟨by rw [HE.out]; rfl, rfl⟩

set_option maxRecDepth 100000 in
set_option maxHeartbeats 1000000 in
theorem salike_any (pt : Nat → Int) (g n cap K top pg pcap : Nat) (zb tk : Nat → Nat) (nx : Nat → Nat → Int) (s t : Nat) (w : World) (hs : s < n) (ht : t < n) (hK : K ≤ 300)
    (hr : ∀ i k, i < n → k < K → nx i k = -1 ∨ (0 ≤ nx i k ∧ nx i k < n)) (hS : SIn w top g n K zb tk nx) (hP : NIn w pg n pt) :
    Calls Try.prog 121 #[.slice (some ⟨g, 0, none⟩) n cap, .slice (some ⟨pg, 0, none⟩) n pcap, .int .i64 s, .int .i64 t] w fun e w' => e = .returned (.bool (alikeB pt tk nx K s t)) ∧ ∃ q, w' = w.drewN q := by
  have p1 := hP s hs
  have p2 := hP t ht
  have t1 := hS.tkc s hs
  have t2 := hS.tkc t ht
  have n1 := hS.nxc s hs
  have n2 := hS.nxc t ht
  have hsI : (0 : Int) ≤ (s : Int) ∧ (s : Int) < (n : Int) := by omega
  have htI : (0 : Int) ≤ (t : Int) ∧ (t : Int) < (n : Int) := by omega
  have HS := hidZ hS
  have HP := hidZ hP
  have HR := hidZ hr
  clear hS hP hr
  by_cases e1 : pt s = pt t
  · have hd1 : (pt s != pt t) = false := by rw [e1]; simp
    by_cases e2 : tk s = tk t
    · have hd2 : ((tk s : Int) != (tk t : Int)) = false := by rw [e2]; simp
      have HE : Hid (alikeB pt tk nx K s t = ledB pt nx s t K) := by unfold Hid alikeB; rw [decide_eq_true e1, decide_eq_true e2]; simp
      generalize pt s = a1 at *
      generalize pt t = a2 at *
      generalize tk s = a3 at *
      generalize tk t = a4 at *
      clear e1 e2
      go_enter Try.func121, Try.ntmps121
      go_wp2_with fail
      go_quiet (fail)
      go_wp2_with fail
      go_loopw [41] (fun x wr => ∃ (k q : Nat), x = .int .i64 (k : Int) ∧ k ≤ K ∧ wr = w.drewN q ∧ ∀ j, j < k → prtP pt (nx s j) = prtP pt (nx t j)) (fun x _ => K - (intOf x).toNat)
      case atStart => exact ⟨0, nq, rfl, Nat.zero_le _, rfl, fun j hj => absurd hj (Nat.not_lt_zero _)⟩
      case round =>
        obtain ⟨k, q, rfl, hk, rfl, hall⟩ := hrel
        have HA := hidZ hall
        clear hall
        by_cases hlt : k < K
        · have c1 := HS.out.ldc s k hs hlt
          have c2 := HS.out.ldc t k ht hlt
          have HC1 := hidZ (fun W (hW : NIn W pg n pt) => spartOf_any pt pg n pcap (nx s k) W (HR.out s k hs hlt) hW)
          have HC2 := hidZ (fun W (hW : NIn W pg n pt) => spartOf_any pt pg n pcap (nx t k) W (HR.out t k ht hlt) hW)
          have HN := hidZ (@ledB_no pt nx s t K k hlt)
          have HL : Hid (prtP pt (nx s k) = prtP pt (nx t k) → ∀ j, j < k + 1 → prtP pt (nx s j) = prtP pt (nx t j)) := fun h j hj => by
            by_cases e : j = k
            · rw [e]; exact h
            · exact HA.out j (by omega)
          have hkI : (0 : Int) ≤ (k : Int) ∧ (k : Int) < (K : Int) := by omega
          have hd3 : decide ((k : Int) < (K : Int)) = true := by simp; omega
          generalize nx s k = x1 at *
          generalize nx t k = x2 at *
          go_wp2_with fail
          refine (HC1.out (w.drewN q) HP.out).mono ?_
          rintro e w2 ⟨rfl, rfl⟩
          go_wp2_with fail
          refine (HC2.out (w.drewN q) HP.out).mono ?_
          rintro e w2 ⟨rfl, rfl⟩
          by_cases hne : prtP pt x1 = prtP pt x2
          · have hd4 : (prtP pt x1 != prtP pt x2) = false := by rw [hne]; simp
            have HA2 := hidZ (HL.out hne)
            generalize prtP pt x1 = y1 at *
            generalize prtP pt x2 = y2 at *
            clear hne
            go_wp2
            go_roundw
            case rel => exact ⟨k + 1, q, by go_num, hlt, rfl, HA2.out⟩
            case measure => simp [intOf]; omega
          · have hd4 : (prtP pt x1 != prtP pt x2) = true := by rw [bne_iff_ne]; exact hne
            have HE2 := hidZ (HN.out hne)
            generalize prtP pt x1 = y1 at *
            generalize prtP pt x2 = y2 at *
            clear hne
            go_wp2
            go_ret
            exact ⟨by rw [HE.out, HE2.out]; rfl, _, rfl⟩
        · have e : k = K := by omega
          subst e
          have HE2 : Hid (ledB pt nx s t k = true) := ledB_yes HA.out
          have hd3 : decide ((k : Int) < (k : Int)) = false := by simp
          go_wp2
          go_ret
          exact ⟨by rw [HE.out, HE2.out]; rfl, _, rfl⟩
    · have hd2 : ((tk s : Int) != (tk t : Int)) = true := by rw [bne_iff_ne]; omega
      have HE : Hid (alikeB pt tk nx K s t = false) := by unfold Hid alikeB; rw [decide_eq_false e2]; simp
      generalize pt s = a1 at *
      generalize pt t = a2 at *
      generalize tk s = a3 at *
      generalize tk t = a4 at *
      clear e1 e2
      go_enter Try.func121, Try.ntmps121
      go_wp2_with fail
      go_quiet (fail)
      go_wp2
      go_ret
      exact ⟨by rw [HE.out]; rfl, _, rfl⟩
  · have hd1 : (pt s != pt t) = true := by rw [bne_iff_ne]; exact e1
    have HE : Hid (alikeB pt tk nx K s t = false) := by unfold Hid alikeB; rw [decide_eq_false e1]; simp
    generalize pt s = a1 at *
    generalize pt t = a2 at *
    clear e1
    go_enter Try.func121, Try.ntmps121
    go_wp2_with fail
    go_quiet (fail)
    go_wp2
    go_ret
    exact ⟨by rw [HE.out]; rfl, _, rfl⟩
end Go.Proofs.Ytgjgjgihceijnaa

namespace Go.Stn
/-- States as they lie in memory: the token, the row's head. -/
def stC (cl : Nat) (zs : List ((Nat × List Int) × Nat)) : List Value := zs.flatMap fun z => [Value.int .i64 (z.1.1 : Int), Value.slice (some ⟨z.2, 0, none⟩) cl cl]
theorem stC_snoc (cl : Nat) (zs : List ((Nat × List Int) × Nat)) (z : (Nat × List Int) × Nat) : stC cl (zs ++ [z]) = stC cl zs ++ [Value.int .i64 (z.1.1 : Int), Value.slice (some ⟨z.2, 0, none⟩) cl cl] := by simp [stC]
/-- The rows of the states. -/
def StRows (w : World) (lo : Nat) (zs : List ((Nat × List Int) × Nat)) : Prop := ∀ z ∈ zs, lo ≤ z.2 ∧ z.2 < w.heap.size ∧ w.rangeAt z.2 0 (intC z.1.2)
theorem StRows.grown {w w' : World} {lo g : Nat} {zs : List ((Nat × List Int) × Nat)} (h : StRows w lo zs) (hg : w.grownBy w' (some g)) (hl : g < lo) : StRows w' lo zs := fun z hz => by
  obtain ⟨h1, h2, h3⟩ := h z hz
  exact ⟨h1, Nat.lt_of_lt_of_le h2 hg.size, rangeAt_block h3 (hg.block z.2 h2 (by intro e; injection e; omega))⟩
theorem StRows.nil (w : World) (lo : Nat) : StRows w lo [] := fun _ hz => absurd hz (List.not_mem_nil)
theorem StRows.snoc {w : World} {lo : Nat} {zs : List ((Nat × List Int) × Nat)} {z : (Nat × List Int) × Nat} (h : StRows w lo zs) (h1 : lo ≤ z.2 ∧ z.2 < w.heap.size ∧ w.rangeAt z.2 0 (intC z.1.2)) : StRows w lo (zs ++ [z]) := fun y hy => by
  rcases List.mem_append.1 hy with h2 | h2
  · exact h y h2
  · rw [List.mem_singleton] at h2; rw [h2]; exact h1
theorem StRows.below {w w' : World} {lo B : Nat} {zs : List ((Nat × List Int) × Nat)} (h : StRows w lo zs) (hg : RowKit.Below B w w') (hl : w.heap.size ≤ B) : StRows w' lo zs := fun z hz => by
  obtain ⟨h1, h2, h3⟩ := h z hz
  exact ⟨h1, Nat.lt_of_lt_of_le h2 hg.size, rangeAt_block h3 (hg.block z.2 (by omega))⟩
theorem row_range {w : World} {base e g k cap : Nat} {xs : List Value} (h : w.ownsRow base e 1 (.slice (some ⟨g, 0, none⟩) k cap) k xs) : w.rangeAt g 0 xs := fun j v hv => by
  have := h.cells rfl j v hv
  by_cases hj : j = 0
  · subst hj; simpa [Addr.add] using this
  · simpa [Addr.add, hj] using this
end Go.Stn
namespace Go.Proofs.Ytgjgjgihceijnaa
open Go.RowKit Go.Stn

theorem Try.infoState : (Try.prog.info? 153).map (fun i => (i.zero, i.size, i.bytes)) = some (some (.agg #[.int .i64 0, .slice none 0 0]), 2, 32) := by kernel_rfl

set_option maxRecDepth 100000 in
set_option maxHeartbeats 1000000 in
theorem lcond_any (s : ByteArray) (r : LSt) (ru cl : Nat) (rb : Nat) (w : World) (hs : s.size ≤ 120000) (hcl : cl ≤ 256) (h : LRd w rb s r) (hr : r.1 ≤ s.size) :
    Calls Try.prog 87 #[.pointer (some ⟨rb, 0, none⟩), .int .i64 ru, .int .i64 cl] w fun e w' =>
      ∃ (B : Nat) (zs : List ((Nat × List Int) × Nat)), w.heap.size ≤ B ∧ e = .returned (.slice (some ⟨B, 0, none⟩) zs.length zs.length) ∧ zs.map (·.1) = (condP s ru cl r).1 ∧
      w'.ownsRow B 153 2 (.slice (some ⟨B, 0, none⟩) zs.length zs.length) zs.length (stC cl zs) ∧ StRows w' (B + 1) zs ∧ w.grownBy w' (some rb) ∧ LRd w' rb s (condP s ru cl r).2 := by
  obtain ⟨i0, hi0, hz0, hz1, hz2⟩ := info_parts Try.infoInt
  have HI : Hid (Try.prog.info? 3 = some i0 ∧ i0.zero = some (.int .i64 0) ∧ i0.size = 1 ∧ i0.bytes = 8) := ⟨hi0, hz0, hz1, hz2⟩
  clear hi0 hz0 hz1 hz2
  obtain ⟨i1, hi0, hz0, hz1, hz2⟩ := info_parts Try.infoState
  have HI1 : Hid (Try.prog.info? 153 = some i1 ∧ i1.zero = some (.agg #[.int .i64 0, .slice none 0 0]) ∧ i1.size = 2 ∧ i1.bytes = 32) := ⟨hi0, hz0, hz1, hz2⟩
  clear hi0 hz0 hz1 hz2
  have hn := lnumber_any s r 1 100 rb w hs h hr
  have HP : Hid (condP s ru cl r = stsP s ru cl (numP s 1 100 r).1 (numP s 1 100 r).1 [] (numP s 1 100 r).2) := rfl
  have hnl := numP_le (s := s) (lo := 1) (hi := 100) (r := r) (by omega)
  have hna := numP_at (lo := 1) (hi := 100) hr
  have hrb := h.hb
  generalize numP s 1 100 r = N at *
  obtain ⟨n, r1⟩ := N
  simp only at *
  clear h
  go_enter Try.func87, Try.ntmps87
  go_wp2_with fail
  refine hn.mono ?_
  rintro e w1 ⟨rfl, hg1, hl1⟩
  have HG1 := hidZ hg1
  have HL1 := hidZ hl1
  have hsz1 := hg1.size
  clear hg1 hl1 hn
  go_wp2_with (first | (at_make; refine wpList_make_own w1 rfl _ _ 143 rfl w1.heap.size 153 i1 _ 2 Try.underlying143 HI1.out.1 HI1.out.2.1 HI1.out.2.2.1 .i64 .i64 _ n rfl rfl rfl (by rw [HI1.out.2.2.2]; omega) (by unfold maxLen; omega) (Nat.le_refl _) ?_; intro w2 hown hg))
  have HR2 := hidZ (HL1.out.grown hg (by simp))
  have HG2 := hidZ (grown_trans HG1.out (grown_any hg (some rb)))
  have HO2 := hidZ hown
  have hrb1 : rb < w1.heap.size := by omega
  clear hown hg HL1 HG1
  generalize w1.heap.size = B at *
  go_loopg [8] n (fun gk x wr => ∃ (zs : List ((Nat × List Int) × Nat)) (k : Nat) (r' : LSt), x = .slice (some ⟨B, 0, none⟩) k n ∧ zs.length = k ∧ k + gk = n ∧ r'.1 ≤ s.size ∧ condP s ru cl r = stsP s ru cl n gk (zs.map (·.1)) r' ∧
    wr.ownsRow B 153 2 (.slice (some ⟨B, 0, none⟩) k n) k (stC cl zs) ∧ StRows wr (B + 1) zs ∧ w.grownBy wr (some rb) ∧ LRd wr rb s r')
  case atStart => exact ⟨[], 0, r1, rfl, rfl, by omega, hna, HP.out, HO2.out, StRows.nil _ _, HG2.out, HR2.out⟩
  case round =>
    obtain ⟨zs, k, r', rfl, hxl, hkn, hr', heq, hown, hrow, hg, hl⟩ := hrel
    have HQ := hidZ heq
    have HO := hidZ hown
    have HW := hidZ hrow
    have HG := hidZ hg
    have HL := hidZ hl
    have HX := hidZ hxl
    have hsz : B < wr.heap.size := by have := (hown.lt B rfl).2; omega
    clear heq hown hg hl hxl hrow HR2 HG2 HO2
    by_cases hlt : k < n
    · obtain ⟨g', rfl⟩ : ∃ g', gk = g' + 1 := ⟨gk - 1, by omega⟩
      have HQ2 : Hid (condP s ru cl r = stsP s ru cl n g' (zs.map (·.1) ++ [((numP s 0 ru r').1, (leadsP s n cl [] (numP s 0 ru r').2).1)]) (leadsP s n cl [] (numP s 0 ru r').2).2) := HQ.out
      have hc := lnumber_any s r' 0 ru rb wr hs HL.out hr'
      have ha := numP_at (lo := 0) (hi := ru) hr'
      generalize numP s 0 ru r' = N at *
      obtain ⟨tk, r2⟩ := N
      simp only at *
      have hd : decide ((k : Int) < (n : Int)) = true := by simp; omega
      go_wp2_with fail
      refine hc.mono ?_
      rintro e w3 ⟨rfl, hg3, hl3⟩
      have HO3 : Hid (w3.ownsRow B 153 2 (.slice (some ⟨B, 0, none⟩) k n) k (stC cl zs)) := hidZ (HO.out.kept hg3 (.inr (by simp [Value.ownBlock]; omega)))
      have HW3 := hidZ (HW.out.grown hg3 (by omega))
      have HG3 := hidZ (grown_trans HG.out hg3)
      have HL3 := hidZ hl3
      have hsz3 : B < w3.heap.size := by have := hg3.size; omega
      clear hg3 hl3 HO HG HL hc HW
      go_wp2_with (first | (at_make; refine wpList_make_own w3 rfl _ _ 30 rfl w3.heap.size 3 i0 (.int .i64 0) 1 Try.underlying30 HI.out.1 HI.out.2.1 HI.out.2.2.1 .i64 .i64 _ cl rfl rfl rfl (by rw [HI.out.2.2.2]; omega) (by unfold maxLen; omega) (Nat.le_refl _) ?_; intro w4 hown4 hg4))
      have HR4 := hidZ (HL3.out.grown hg4 (by simp))
      have HG4 := hidZ (grown_any hg4 (some rb))
      have HO4 := hidZ hown4
      clear hown4 hg4 HL3
      generalize hC : w3.heap.size = C at *
      go_loopg [10] cl (fun gj x wj => ∃ (xs : List Int) (m : Nat) (rj : LSt), x = .slice (some ⟨C, 0, none⟩) m cl ∧ xs.length = m ∧ m + gj = cl ∧ rj.1 ≤ s.size ∧ leadsP s n cl [] r2 = leadsP s n gj xs rj ∧
        wj.ownsRow C 3 1 (.slice (some ⟨C, 0, none⟩) m cl) m (intC xs) ∧ w3.grownBy wj (some rb) ∧ LRd wj rb s rj)
      case atStart => exact ⟨[], 0, r2, rfl, rfl, by omega, ha, rfl, HO4.out, HG4.out, HR4.out⟩
      case round =>
        obtain ⟨xs, m, rj, rfl, hxl, hmn, hrj, heq, hown, hg, hl⟩ := hrel
        have HQJ := hidZ heq
        have HOJ := hidZ hown
        have HGJ := hidZ hg
        have HLJ := hidZ hl
        have HXJ := hidZ hxl
        have hszj : C < wr.heap.size := by have := (hown.lt C rfl).2; omega
        clear heq hown hg hl hxl HR4 HG4 HO4
        by_cases hltj : m < cl
        · obtain ⟨j', rfl⟩ : ∃ j', gk = j' + 1 := ⟨gk - 1, by omega⟩
          have HQ3 : Hid (leadsP s n cl [] r2 = leadsP s n j' (xs ++ [(leadP s n rj).1]) (leadP s n rj).2) := HQJ.out
          have hc := llead_any s rj n rb wr hs HLJ.out hrj
          have ha := leadP_at (n := n) hrj
          generalize leadP s n rj = N at *
          obtain ⟨x, r3⟩ := N
          simp only at *
          have hdj : decide ((m : Int) < (cl : Int)) = true := by simp; omega
          go_wp2_with fail
          refine hc.mono ?_
          rintro e w5 ⟨rfl, hg5, hl5⟩
          have HO5 : Hid (w5.ownsRow C 3 1 (.slice (some ⟨C, 0, none⟩) m cl) m (intC xs)) := hidZ (HOJ.out.kept hg5 (.inr (by simp [Value.ownBlock]; omega)))
          have HG5 := hidZ (grown_trans HGJ.out hg5)
          have HL5 := hidZ hl5
          have hsz5 : C < w5.heap.size := by have := hg5.size; omega
          clear hg5 hl5 HOJ HGJ HLJ hc
          go_wp2_with (first | (at_builtin; refine wpList_fits1 w5 rfl _ _ 30 rfl C 3 (.int .i64 0) 1 8 Try.underlying30 Try.infoInt C m cl (intC xs) [.int .i64 x] _ rfl HO5.out _ rfl rfl rfl (by simp [Value.oneCell']) (by omega) ?_; intro w6 hown6 hgrow6))
          go_roundg j'
          case measure => omega
          case rel =>
            have hg6 := grown_alloc2 HG5.out (.cells #[.int .i64 x] 3)
            refine ⟨xs ++ [x], m + 1, r3, rfl, by simp [HXJ.out], by omega, ha, HQ3.out, by rw [intC_snoc]; exact hown6, grown_new hg6 hgrow6 (by omega), ?_⟩
            exact (HL5.out.below ((Below.refl _ _).alloc (Nat.le_of_lt hsz5) _) (by omega)).grown hgrow6 (by simp; omega)
        · have e : m = cl := by omega
          subst e
          have e2 : gk = 0 := by omega
          subst e2
          have HE : Hid (leadsP s n m [] r2 = (xs, rj)) := HQJ.out
          have hdj : decide ((m : Int) < (m : Int)) = false := by simp
          have HO6 : Hid (wr.ownsRow B 153 2 (.slice (some ⟨B, 0, none⟩) k n) k (stC m zs)) := hidZ (HO3.out.kept HGJ.out (.inr (by simp [Value.ownBlock]; omega)))
          have HW6 := hidZ (HW3.out.grown HGJ.out (by omega))
          have HG6 := hidZ (grown_trans HG3.out HGJ.out)
          have HRW := hidZ (row_range HOJ.out)
          have hsz6 : B < wr.heap.size := by omega
          clear HO3 HW3 HG3 HOJ HGJ
          go_wp2_with (first | (at_builtin; refine wpList_fits1 wr rfl _ _ 143 rfl B 153 (.agg #[.int .i64 0, .slice none 0 0]) 2 32 Try.underlying143 Try.infoState B k n (stC m zs) [.int .i64 (tk : Int), .slice (some ⟨C, 0, none⟩) m m] _ rfl HO6.out _ rfl rfl rfl (by simp [Value.oneCell']) (by omega) ?_; intro w6 hown6 hgrow6))
          go_roundg g'
          case measure => omega
          case rel =>
            have hg6 := grown_alloc2 HG6.out (.cells #[.int .i64 (tk : Int), .slice (some ⟨C, 0, none⟩) m m] 153)
            have hq := HQ2.out
            rw [HE.out] at hq
            have hsz7 := hgrow6.size
            simp at hsz7
            refine ⟨zs ++ [((tk, xs), C)], k + 1, rj, rfl, by simp [HX.out], by omega, hrj, by rw [List.map_append]; exact hq, by rw [stC_snoc]; exact hown6, ?_, grown_new hg6 hgrow6 (by omega), ?_⟩
            · refine ((HW6.out.grown (grown_alloc2 (World.grownBy.refl _ (some B)) _) (by omega)).snoc ⟨by omega, by simp; omega, ?_⟩).grown hgrow6 (by omega)
              exact rangeAt_block HRW.out (Below.heap_alloc wr _ C hszj)
            · exact (HLJ.out.below ((Below.refl _ _).alloc (Nat.le_of_lt hsz6) _) (by omega)).grown hgrow6 (by simp; omega)
    · have e : k = n := by omega
      subst e
      have e2 : gk = 0 := by omega
      subst e2
      have HE : Hid (condP s ru cl r = (zs.map (·.1), r')) := HQ.out
      have hd : decide ((k : Int) < (k : Int)) = false := by simp
      go_wp2
      go_ret
      rw [HE.out]
      have hx := HX.out
      subst hx
      exact ⟨B, zs, hsz1, rfl, rfl, HO.out, HW.out, HG.out, HL.out⟩
end Go.Proofs.Ytgjgjgihceijnaa

namespace Go.Stn
/-- The state behind d bytes from p on; none: nowhere. -/
def stepTo (s inp : ByteArray) (c p : Nat) : Nat → Option Nat
  | 0 => some 0
  | d + 1 => match stepTo s inp c p d with
    | none => none
    | some st => if leadN s c st (bt inp (p + d)) = 255 then none else some (leadN s c st (bt inp (p + d)))

/-- The rule of the d bytes from p on; none: they are no token. -/
def tokAt (s inp : ByteArray) (c p d : Nat) : Option Nat :=
  match stepTo s inp c p d with
  | none => none
  | some st => if 0 < markN s c st then some (markN s c st - 1) else none

/-- The longest token of at most d bytes: its rule and its end; -1 and p: there is none. -/
def longD (s inp : ByteArray) (c p : Nat) : Nat → Int × Nat
  | 0 => (-1, p)
  | d + 1 => match tokAt s inp c p (d + 1) with
    | some r => ((r : Int), p + (d + 1))
    | none => longD s inp c p d

theorem stepTo_succ {s inp : ByteArray} {c p d st : Nat} (h : stepTo s inp c p d = some st) :
    stepTo s inp c p (d + 1) = if leadN s c st (bt inp (p + d)) = 255 then none else some (leadN s c st (bt inp (p + d))) := by
  rw [stepTo, h]

theorem stepTo_lt {s inp : ByteArray} (hi : imgOk s = true) {c p : Nat} (hc : c < iM s) : ∀ d st, stepTo s inp c p d = some st → st < nSt s c := by
  intro d
  induction d with
  | zero => intro st h; rw [stepTo] at h; have := (nSt_le hi hc).2; simp at h; omega
  | succ n ih =>
    intro st h
    cases h2 : stepTo s inp c p n with
    | none => rw [stepTo, h2] at h; cases h
    | some t =>
      rw [stepTo_succ h2] at h
      split at h
      · cases h
      · rcases lead_lt hi hc (ih t h2) (bt_lt inp (p + n)) with h3 | h3
        · simp at h; omega
        · contradiction

theorem longD_none {s inp : ByteArray} {c p d : Nat} (h : tokAt s inp c p (d + 1) = none) : longD s inp c p (d + 1) = longD s inp c p d := by
  rw [longD, h]
theorem longD_some {s inp : ByteArray} {c p d r : Nat} (h : tokAt s inp c p (d + 1) = some r) : longD s inp c p (d + 1) = ((r : Int), p + (d + 1)) := by
  rw [longD, h]
/-- Is it among them? -/
def memB (l : List (Int × Int × Int)) (x : Int × Int × Int) : Bool := l.contains x

/-- What longest answers. -/
def lng (s inp : ByteArray) (c p : Nat) : Int × Nat := longD s inp c p (inp.size - p)

end Go.Stn

namespace Go.Stn
/-- A stand: a condition, a state, a place. -/
def std (c st i : Nat) : Int × Int × Int := ((c : Int), (st : Int), (i : Int))

/-- Looking on from a stand, d bytes ahead of the input's end: what stood since the last token, the steps. -/
def lookP (s inp : ByteArray) (c : Nat) (H : List (Int × Int × Int)) : Nat → Nat → Nat → List (Int × Int × Int) → Nat → List (Int × Int × Int) × Nat
  | 0, _, _, S, n => (S, n)
  | d + 1, st, i, S, n =>
    if memB H (std c st i) = true then (S, n)
    else if leadN s c st (bt inp i) = 255 then (S ++ [std c st i], n + 1)
    else lookP s inp c H d (leadN s c st (bt inp i)) (i + 1) (if 0 < markN s c (leadN s c st (bt inp i)) then [] else S ++ [std c st i]) (n + 1)

theorem lookP_known {s inp : ByteArray} {c d st i n : Nat} {H S : List (Int × Int × Int)} (h : memB H (std c st i) = true) : lookP s inp c H (d + 1) st i S n = (S, n) := by
  rw [lookP, if_pos h]
theorem lookP_nowhere {s inp : ByteArray} {c d st i n : Nat} {H S : List (Int × Int × Int)} (h : memB H (std c st i) = false) (hl : leadN s c st (bt inp i) = 255) :
    lookP s inp c H (d + 1) st i S n = (S ++ [std c st i], n + 1) := by
  rw [lookP, if_neg (by rw [h]; decide), if_pos hl]
theorem lookP_token {s inp : ByteArray} {c d st i n : Nat} {H S : List (Int × Int × Int)} (h : memB H (std c st i) = false) (hl : leadN s c st (bt inp i) ≠ 255) (hm : 0 < markN s c (leadN s c st (bt inp i))) :
    lookP s inp c H (d + 1) st i S n = lookP s inp c H d (leadN s c st (bt inp i)) (i + 1) [] (n + 1) := by
  rw [lookP, if_neg (by rw [h]; decide), if_neg hl, if_pos hm]
theorem lookP_step {s inp : ByteArray} {c d st i n : Nat} {H S : List (Int × Int × Int)} (h : memB H (std c st i) = false) (hl : leadN s c st (bt inp i) ≠ 255) (hm : markN s c (leadN s c st (bt inp i)) = 0) :
    lookP s inp c H (d + 1) st i S n = lookP s inp c H d (leadN s c st (bt inp i)) (i + 1) (S ++ [std c st i]) (n + 1) := by
  rw [lookP, if_neg (by rw [h]; decide), if_neg hl, if_neg (by omega)]

/-- Looking from p. -/
def lookFrom (s inp : ByteArray) (c : Nat) (H : List (Int × Int × Int)) (p : Nat) : List (Int × Int × Int) × Nat := lookP s inp c H (inp.size - p) 0 p [] 0

theorem lookP_len {s inp : ByteArray} {c : Nat} {H : List (Int × Int × Int)} : ∀ d st i S n, (lookP s inp c H d st i S n).1.length ≤ S.length + d ∧ (lookP s inp c H d st i S n).2 ≤ n + d := by
  intro d
  induction d with
  | zero => intro st i S n; simp [lookP]
  | succ e ih =>
    intro st i S n
    rw [lookP]
    split
    · exact ⟨by simp only; omega, by simp only; omega⟩
    · split
      · simp
      · have := ih (leadN s c st (bt inp i)) (i + 1) (if 0 < markN s c (leadN s c st (bt inp i)) then [] else S ++ [std c st i]) (n + 1)
        split at this
        · rename_i hm; rw [if_pos hm]; simp at this ⊢; omega
        · rename_i hm; rw [if_neg hm]; simp at this ⊢; omega

end Go.Stn

namespace Go.Stn
/-- A rule's byte. -/
def thenB (s : ByteArray) (r : Nat) : Nat := bt s (4 + r)

/-- The cut from p on, in condition c: what was told, the steps, the condition in the end. -/
def runP (s inp : ByteArray) : Nat → Nat → Nat → List (Int × Int × Int) → Nat → List (Int × Int × Int) → List (Int × Int × Int) × Nat × Nat
  | 0, _, c, _, n, T => (T, n, c)
  | f + 1, p, c, H, n, T =>
    if p < inp.size then
      if (lng s inp c p).1 = -1 then (T ++ [(-1, (p : Int), (p : Int))], n + (lookFrom s inp c H p).2, c)
      else runP s inp f (lng s inp c p).2 (if 1 < thenB s (lng s inp c p).1.toNat then thenB s (lng s inp c p).1.toNat - 2 else c) (H ++ (lookFrom s inp c H p).1) (n + (lookFrom s inp c H p).2)
        (if thenB s (lng s inp c p).1.toNat = 1 then T else T ++ [((lng s inp c p).1, (p : Int), ((lng s inp c p).2 : Int))])
    else (T, n, c)

/-- The cut that begins at place 0 in condition c. -/
def cutP (s inp : ByteArray) (c : Nat) : List (Int × Int × Int) × Nat × Nat := runP s inp (inp.size + 1) 0 c [] 0 []

theorem longD_cases {s inp : ByteArray} (hi : imgOk s = true) {c p : Nat} (hc : c < iM s) : ∀ d, longD s inp c p d = (-1, p) ∨ ∃ r q : Nat, longD s inp c p d = ((r : Int), q) ∧ r < iR s ∧ p < q ∧ q ≤ p + d := by
  intro d
  induction d with
  | zero => exact .inl rfl
  | succ e ih =>
    cases ht : tokAt s inp c p (e + 1) with
    | none =>
      rw [longD_none ht]
      rcases ih with h | ⟨r, q, h1, h2, h3, h4⟩
      · exact .inl h
      · exact .inr ⟨r, q, h1, h2, h3, by omega⟩
    | some r =>
      right
      refine ⟨r, p + (e + 1), longD_some ht, ?_, by omega, by omega⟩
      unfold tokAt at ht
      split at ht
      · cases ht
      · rename_i st hst
        split at ht
        · rename_i hm
          have := mark_le hi hc (stepTo_lt hi hc _ _ hst)
          simp at ht
          omega
        · cases ht

theorem lng_cases {s inp : ByteArray} (hi : imgOk s = true) {c p : Nat} (hc : c < iM s) (hp : p ≤ inp.size) : lng s inp c p = (-1, p) ∨ ∃ r q : Nat, lng s inp c p = ((r : Int), q) ∧ r < iR s ∧ p < q ∧ q ≤ inp.size := by
  unfold lng
  rcases longD_cases hi hc (inp := inp) (p := p) (inp.size - p) with h | ⟨r, q, h1, h2, h3, h4⟩
  · exact .inl h
  · exact .inr ⟨r, q, h1, h2, h3, by omega⟩

theorem then_le {s : ByteArray} (hi : imgOk s = true) {r : Nat} (hr : r < iR s) : thenB s r ≤ 1 + iM s := by
  have hC := (imgOk_iff.1 hi).2.2.1
  unfold headC at hC
  simp only [Bool.and_eq_true] at hC
  have := belowB_le hC.1 r hr
  unfold thenB
  omega

theorem runP_end {s inp : ByteArray} {f p c n : Nat} {H T : List (Int × Int × Int)} (h : ¬ p < inp.size) : runP s inp (f + 1) p c H n T = (T, n, c) := by
  rw [runP, if_neg h]
theorem runP_none {s inp : ByteArray} {f p c n : Nat} {H T : List (Int × Int × Int)} (h : p < inp.size) (hl : lng s inp c p = (-1, p)) :
    runP s inp (f + 1) p c H n T = (T ++ [(-1, (p : Int), (p : Int))], n + (lookFrom s inp c H p).2, c) := by
  rw [runP, if_pos h, hl, if_pos rfl]
theorem runP_some {s inp : ByteArray} {f p c n r q : Nat} {H T : List (Int × Int × Int)} (h : p < inp.size) (hl : lng s inp c p = ((r : Int), q)) :
    runP s inp (f + 1) p c H n T = runP s inp f q (if 1 < thenB s r then thenB s r - 2 else c) (H ++ (lookFrom s inp c H p).1) (n + (lookFrom s inp c H p).2)
      (if thenB s r = 1 then T else T ++ [((r : Int), (p : Int), (q : Int))]) := by
  rw [runP, if_pos h, hl, if_neg (by simp)]
  simp

theorem lookFrom_len {s inp : ByteArray} {c p : Nat} {H : List (Int × Int × Int)} : (lookFrom s inp c H p).1.length ≤ inp.size - p ∧ (lookFrom s inp c H p).2 ≤ inp.size - p := by
  have := lookP_len (s := s) (inp := inp) (c := c) (H := H) (inp.size - p) 0 p [] 0
  unfold lookFrom
  simp at this
  exact this

end Go.Stn

namespace Go.Stn
theorem condsP_bad {s : ByteArray} {ru cl : Nat} : ∀ n l (r : LSt), r.2 = true → (condsP s ru cl n l r).2.2 = true := by
  intro n; induction n with
  | zero => intro l r h; exact h
  | succ k ih => intro l r h; exact ih _ _ (condP_bad h)

theorem overB_no {l : List Nat} {m : Nat} (h : overB l m = false) : ∀ x ∈ l, x ≤ m := by
  intro x hx
  unfold overB at h
  rw [decide_eq_false_iff_not] at h
  exact Nat.le_of_not_lt (fun hl => h ⟨x, hx, hl⟩)
theorem overB_of {l : List Nat} {m : Nat} (h : ∀ x ∈ l, x ≤ m) : overB l m = false := by
  unfold overB
  rw [decide_eq_false_iff_not]
  rintro ⟨x, hx, hl⟩
  have := h x hx
  omega

/-- The head is read. -/
structure HeadRd (s : ByteArray) : Prop where
  r3 : lh3 s = (3, false)
  ru : lRules s = iR s
  r4 : lh4 s = (4, false)
  be : lBehind s = (List.range (iR s)).map (thenB s)
  r5 : lh5 s = (4 + iR s, false)
  mn : lMany s = iM s
  r6 : lh6 s = (5 + iR s, false)
  cl : lClasses s = iK s
  r7 : lh7 s = (6 + iR s, false)
  co : lClassOf s = (List.range 256).map (clsN s)
  r8 : lh8 s = (iAt s 0, false)

theorem head_read {s : ByteArray} (h0 : 4 ≤ s.size) (hb : bt s 0 = 83 ∧ bt s 1 = 84 ∧ bt s 2 = 1) (hr : 1 ≤ iR s ∧ iR s ≤ 8)
    (hbe : 4 + iR s ≤ s.size ∧ ∀ j, j < iR s → thenB s j ≤ 5) (hm : 4 + iR s < s.size ∧ 1 ≤ iM s ∧ iM s ≤ 4) (ho : ∀ j, j < iR s → thenB s j ≤ 1 + iM s)
    (hk : 5 + iR s < s.size) (hc : 6 + iR s + 256 ≤ s.size ∧ ∀ j, j < 256 → clsN s j ≤ iK s - 1) : HeadRd s := by
  have e0 : numP s 83 83 (0, false) = (83, (1, false)) := by rw [numP_yes (by omega) (by omega) (by omega), hb.1]
  have e1 : numP s 84 84 (1, false) = (84, (2, false)) := by rw [numP_yes (by omega) (by omega) (by omega), hb.2.1]
  have e2 : numP s 1 1 (2, false) = (1, (3, false)) := by rw [numP_yes (by omega) (by omega) (by omega), hb.2.2]
  have r3 : lh3 s = (3, false) := by unfold lh3; rw [e0]; simp only; rw [e1]; simp only; rw [e2]
  have e3 : numP s 1 8 (3, false) = (iR s, (4, false)) := numP_yes (by omega) hr.1 hr.2
  have ru : lRules s = iR s := by unfold lRules; rw [r3, e3]
  have r4 : lh4 s = (4, false) := by unfold lh4; rw [r3, e3]
  have e4 := numsP_yes (s := s) (hi := 5) (iR s) [] 4 hbe.1 hbe.2
  have be : lBehind s = (List.range (iR s)).map (thenB s) := by unfold lBehind; rw [ru, r4, e4]; rfl
  have r5 : lh5 s = (4 + iR s, false) := by unfold lh5; rw [ru, r4, e4]
  have e5 : numP s 1 4 (4 + iR s, false) = (iM s, (4 + iR s + 1, false)) := numP_yes hm.1 hm.2.1 hm.2.2
  have mn : lMany s = iM s := by unfold lMany; rw [r5, e5]
  have ov : overB (lBehind s) (1 + lMany s) = false := overB_of (fun x hx => by
    rw [be, List.mem_map] at hx
    obtain ⟨j, hj, rfl⟩ := hx
    rw [mn]; exact ho j (List.mem_range.1 hj))
  have r6 : lh6 s = (5 + iR s, false) := by unfold lh6; rw [r5, e5, ov]; simp only [Bool.or_self]; congr 1; omega
  have e6 : numP s 0 255 (5 + iR s, false) = (bt s (5 + iR s), (5 + iR s + 1, false)) := numP_yes hk (by omega) (by have := bt_lt s (5 + iR s); omega)
  have cl : lClasses s = iK s := by unfold lClasses; rw [r6, e6]; unfold iK; simp only; omega
  have r7 : lh7 s = (6 + iR s, false) := by unfold lh7; rw [r6, e6]; simp only; congr 1; omega
  have e7 := numsP_yes (s := s) (hi := iK s - 1) 256 [] (6 + iR s) hc.1 hc.2
  have co : lClassOf s = (List.range 256).map (clsN s) := by unfold lClassOf; rw [cl, r7, e7]; simp only [List.nil_append]; exact List.map_congr_left (fun j _ => rfl)
  have ea : 6 + iR s + 256 = iAt s 0 := by show _ = 262 + iR s; omega
  have r8 : lh8 s = (iAt s 0, false) := by unfold lh8; rw [cl, r7, e7, ea]
  exact ⟨r3, ru, r4, be, r5, mn, r6, cl, r7, co, r8⟩

theorem img_read {s : ByteArray} (h : imgOk s = true) : HeadRd s := by
  obtain ⟨h1, h2, h3, h4, h5⟩ := img_head h
  have hA := headA_iff.1 (imgOk_iff.1 h).1
  refine head_read hA.1 hA.2.1 ⟨h2, h1⟩ ⟨by omega, fun j hj => by have := then_le h hj; omega⟩ ⟨by omega, h3, h4⟩ (fun j hj => then_le h hj) (by omega) ⟨h5, fun j hj => by have := cls_lt h j hj; omega⟩

/-- The states of a condition, as they are read. -/
def condV (s : ByteArray) (c : Nat) : List (Nat × List Int) := (List.range (nSt s c)).map fun st => rowV s (iK s) (rwAt s c st)

theorem img_conds {s : ByteArray} (h : imgOk s = true) : lConds s = (List.range (iM s)).map (condV s) ∧ lh9 s = (s.size, false) := by
  have hd := img_read h
  have e := condsP_yes (s := s) (iM s) [] 0 (fun j hj => by rw [Nat.zero_add]; exact img_st h hj)
  refine ⟨?_, ?_⟩
  · unfold lConds; rw [hd.ru, hd.cl, hd.mn, hd.r8, e]
    simp only [List.nil_append]
    refine List.map_congr_left (fun j _ => ?_)
    rw [Nat.zero_add]; rfl
  · unfold lh9; rw [hd.ru, hd.cl, hd.mn, hd.r8, e, Nat.zero_add, (imgOk_iff.1 h).2.2.2.2.2]

theorem read_img {s : ByteArray} (h : (lh9 s).2 = false) (hs : (lh9 s).1 = s.size) : imgOk s = true := by
  have h8 : (lh8 s).2 = false := by
    cases hb : (lh8 s).2 with
    | false => rfl
    | true => unfold lh9 at h; rw [condsP_bad _ _ _ hb] at h; cases h
  obtain ⟨h7, k7, c7⟩ := numsP_good _ _ _ h8
  obtain ⟨h6, p6, a6, b6⟩ := numP_good h7
  have h6' := h6
  unfold lh6 at h6'
  simp only [Bool.or_eq_false_iff] at h6'
  obtain ⟨h5, p5, a5, b5⟩ := numP_good h6'.1
  obtain ⟨h4, k4, c4⟩ := numsP_good _ _ _ h5
  obtain ⟨h3, p3, a3, b3⟩ := numP_good h4
  obtain ⟨h2, p2, a2, b2⟩ := numP_good h3
  obtain ⟨h1, p1, a1, b1⟩ := numP_good h2
  obtain ⟨h0, p0, a0, b0⟩ := numP_good h1
  simp only at p0 a0 b0
  have e0 : numP s 83 83 (0, false) = (bt s 0, (1, false)) := numP_yes (by omega) (by omega) (by omega)
  rw [e0] at p1 a1 b1
  simp only at p1 a1 b1
  have e1 : numP s 84 84 (1, false) = (bt s 1, (2, false)) := numP_yes p1 a1 b1
  rw [e0] at p2 a2 b2
  simp only at p2 a2 b2
  rw [e1] at p2 a2 b2
  simp only at p2 a2 b2
  have e2 : numP s 1 1 (2, false) = (bt s 2, (3, false)) := numP_yes p2 a2 b2
  have r3 : lh3 s = (3, false) := by unfold lh3; rw [e0]; simp only; rw [e1]; simp only; rw [e2]
  rw [r3] at p3 a3 b3
  simp only at p3 a3 b3
  have e3 : numP s 1 8 (3, false) = (iR s, (4, false)) := numP_yes p3 a3 b3
  have ru : lRules s = iR s := by unfold lRules; rw [r3, e3]
  have r4 : lh4 s = (4, false) := by unfold lh4; rw [r3, e3]
  rw [r4, ru] at k4
  rw [r4, ru] at c4
  simp only at k4 c4
  have k4 := k4 (by omega)
  have e4 := numsP_yes (s := s) (hi := 5) (iR s) [] 4 k4 c4
  have r5 : lh5 s = (4 + iR s, false) := by unfold lh5; rw [ru, r4, e4]
  have be : lBehind s = (List.range (iR s)).map (thenB s) := by unfold lBehind; rw [ru, r4, e4]; rfl
  rw [r5] at p5 a5 b5
  simp only at p5 a5 b5
  have e5 : numP s 1 4 (4 + iR s, false) = (iM s, (4 + iR s + 1, false)) := numP_yes p5 a5 b5
  have mn : lMany s = iM s := by unfold lMany; rw [r5, e5]
  have r6 : lh6 s = (5 + iR s, false) := by unfold lh6; rw [r5, e5, h6'.2]; simp only [Bool.or_self]; congr 1; omega
  have ho : ∀ j, j < iR s → thenB s j ≤ 1 + iM s := fun j hj => by
    have := overB_no h6'.2 (thenB s j) (by rw [be, List.mem_map]; exact ⟨j, List.mem_range.2 hj, rfl⟩)
    rw [mn] at this; exact this
  rw [r6] at p6
  simp only at p6
  have e6 : numP s 0 255 (5 + iR s, false) = (bt s (5 + iR s), (5 + iR s + 1, false)) := numP_yes p6 (by omega) (by have := bt_lt s (5 + iR s); omega)
  have cl : lClasses s = iK s := by unfold lClasses; rw [r6, e6]; unfold iK; simp only; omega
  have r7 : lh7 s = (6 + iR s, false) := by unfold lh7; rw [r6, e6]; simp only; congr 1; omega
  rw [r7] at k7
  rw [r7, cl] at c7
  simp only at k7 c7
  have k7 := k7 (by omega)
  have a3' : 1 ≤ iR s := a3
  have b3' : iR s ≤ 8 := b3
  have a5' : 1 ≤ iM s := a5
  have b5' : iM s ≤ 4 := b5
  have hd := head_read (s := s) (by omega) ⟨by omega, by omega, by omega⟩ ⟨a3', b3'⟩ ⟨k4, c4⟩ ⟨p5, a5', b5'⟩ ho p6 ⟨k7, c7⟩
  have h9 := h
  unfold lh9 at h9 hs
  rw [hd.ru, hd.cl, hd.mn] at h9 hs
  obtain ⟨q1, q2, q3⟩ := condsP_good (s := s) (iM s) [] 0 (lh8 s) (by rw [hd.r8]) h9
  rw [q3, Nat.zero_add] at hs
  refine imgOk_iff.2 ⟨headA_iff.2 ⟨by omega, ⟨by omega, by omega, by omega⟩, a3', b3'⟩, ?_, ?_, ?_, fun c hc => by have := q2 c hc; rw [Nat.zero_add] at this; exact this, hs⟩
  · unfold headB
    rw [Bool.and_eq_true]
    refine ⟨belowB_yes (by omega) (fun j hj => ?_), decide_eq_true (by omega)⟩
    have e : j = 0 := by omega
    subst e
    have : bt s (4 + iR s + 0) = iM s := rfl
    omega
  · unfold headC
    rw [Bool.and_eq_true]
    refine ⟨belowB_yes k4 (fun j hj => ?_), belowB_yes (by omega) (fun j hj => ?_)⟩
    · have := ho j hj
      unfold thenB at this
      omega
    · have := bt_lt s (5 + iR s + j); omega
  · unfold headD
    refine belowB_yes k7 (fun j hj => ?_)
    have := c7 j hj
    have := iK_pos s
    omega

theorem lh9_at (s : ByteArray) : (lh9 s).1 ≤ s.size := by
  unfold lh9 lh8 lh7 lh6 lh5 lh4 lh3
  refine condsP_at _ _ _ (numsP_at _ _ _ (numP_at ?_))
  exact numP_at (numsP_at _ _ _ (numP_at (numP_at (numP_at (numP_at (by simp))))))

/-- What Read refuses is no image. -/
theorem read_iff (s : ByteArray) : ((lh9 s).2 || decide ((lh9 s).1 < s.size)) = !(imgOk s) := by
  have h1 := lh9_at s
  cases hi : imgOk s with
  | true => rw [(img_conds hi).2]; simp
  | false =>
    cases h2 : (lh9 s).2 with
    | true => rfl
    | false =>
      by_cases h3 : (lh9 s).1 < s.size
      · simp [h3]
      · rw [read_img h2 (by omega)] at hi; cases hi

end Go.Stn

