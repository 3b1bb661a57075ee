/- layout's reader: cond: a walk. -/
import Derived.Test.YtgjgjgihceijnaaLyNums
namespace Go.Stn
/-- States as they lie in memory: the token, the row's head. -/
def stC (cl : Nat) (zs : List ((Nat × List Int) × Nat)) : List Value := zs.flatMap fun z => [Value.int .i64 (z.1.1 : Int), Value.slice (some ⟨z.2, 0, none⟩) cl cl]
theorem stC_snoc (cl : Nat) (zs : List ((Nat × List Int) × Nat)) (z : (Nat × List Int) × Nat) : stC cl (zs ++ [z]) = stC cl zs ++ [Value.int .i64 (z.1.1 : Int), Value.slice (some ⟨z.2, 0, none⟩) cl cl] := by simp [stC]
/-- The rows of the states. -/
def StRows (w : World) (lo : Nat) (zs : List ((Nat × List Int) × Nat)) : Prop := ∀ z ∈ zs, lo ≤ z.2 ∧ z.2 < w.heap.size ∧ w.rangeAt z.2 0 (intC z.1.2)
theorem StRows.grown {w w' : World} {lo g : Nat} {zs : List ((Nat × List Int) × Nat)} (h : StRows w lo zs) (hg : w.grownBy w' (some g)) (hl : g < lo) : StRows w' lo zs := fun z hz => by
  obtain ⟨h1, h2, h3⟩ := h z hz
  exact ⟨h1, Nat.lt_of_lt_of_le h2 hg.size, rangeAt_block h3 (hg.block z.2 h2 (by intro e; injection e; omega))⟩
theorem StRows.nil (w : World) (lo : Nat) : StRows w lo [] := fun _ hz => absurd hz (List.not_mem_nil)
theorem StRows.snoc {w : World} {lo : Nat} {zs : List ((Nat × List Int) × Nat)} {z : (Nat × List Int) × Nat} (h : StRows w lo zs) (h1 : lo ≤ z.2 ∧ z.2 < w.heap.size ∧ w.rangeAt z.2 0 (intC z.1.2)) : StRows w lo (zs ++ [z]) := fun y hy => by
  rcases List.mem_append.1 hy with h2 | h2
  · exact h y h2
  · rw [List.mem_singleton] at h2; rw [h2]; exact h1
theorem StRows.below {w w' : World} {lo B : Nat} {zs : List ((Nat × List Int) × Nat)} (h : StRows w lo zs) (hg : RowKit.Below B w w') (hl : w.heap.size ≤ B) : StRows w' lo zs := fun z hz => by
  obtain ⟨h1, h2, h3⟩ := h z hz
  exact ⟨h1, Nat.lt_of_lt_of_le h2 hg.size, rangeAt_block h3 (hg.block z.2 (by omega))⟩
theorem row_range {w : World} {base e g k cap : Nat} {xs : List Value} (h : w.ownsRow base e 1 (.slice (some ⟨g, 0, none⟩) k cap) k xs) : w.rangeAt g 0 xs := fun j v hv => by
  have := h.cells rfl j v hv
  by_cases hj : j = 0
  · subst hj; simpa [Addr.add] using this
  · simpa [Addr.add, hj] using this
end Go.Stn
namespace Go.Proofs.Ytgjgjgihceijnaa
open Go.RowKit Go.Stn

theorem Try.infoState : (Try.prog.info? 153).map (fun i => (i.zero, i.size, i.bytes)) = some (some (.agg #[.int .i64 0, .slice none 0 0]), 2, 32) := by kernel_rfl

set_option maxRecDepth 100000 in
set_option maxHeartbeats 1000000 in
theorem lcond_any (s : ByteArray) (r : LSt) (ru cl : Nat) (rb : Nat) (w : World) (hs : s.size ≤ 120000) (hcl : cl ≤ 256) (h : LRd w rb s r) (hr : r.1 ≤ s.size) :
    Calls Try.prog 87 #[.pointer (some ⟨rb, 0, none⟩), .int .i64 ru, .int .i64 cl] w fun e w' =>
      ∃ (B : Nat) (zs : List ((Nat × List Int) × Nat)), w.heap.size ≤ B ∧ e = .returned (.slice (some ⟨B, 0, none⟩) zs.length zs.length) ∧ zs.map (·.1) = (condP s ru cl r).1 ∧
      w'.ownsRow B 153 2 (.slice (some ⟨B, 0, none⟩) zs.length zs.length) zs.length (stC cl zs) ∧ StRows w' (B + 1) zs ∧ w.grownBy w' (some rb) ∧ LRd w' rb s (condP s ru cl r).2 := by
  obtain ⟨i0, hi0, hz0, hz1, hz2⟩ := info_parts Try.infoInt
  have HI : Hid (Try.prog.info? 3 = some i0 ∧ i0.zero = some (.int .i64 0) ∧ i0.size = 1 ∧ i0.bytes = 8) := ⟨hi0, hz0, hz1, hz2⟩
  clear hi0 hz0 hz1 hz2
  obtain ⟨i1, hi0, hz0, hz1, hz2⟩ := info_parts Try.infoState
  have HI1 : Hid (Try.prog.info? 153 = some i1 ∧ i1.zero = some (.agg #[.int .i64 0, .slice none 0 0]) ∧ i1.size = 2 ∧ i1.bytes = 32) := ⟨hi0, hz0, hz1, hz2⟩
  clear hi0 hz0 hz1 hz2
  have hn := lnumber_any s r 1 100 rb w hs h hr
  have HP : Hid (condP s ru cl r = stsP s ru cl (numP s 1 100 r).1 (numP s 1 100 r).1 [] (numP s 1 100 r).2) := rfl
  have hnl := numP_le (s := s) (lo := 1) (hi := 100) (r := r) (by omega)
  have hna := numP_at (lo := 1) (hi := 100) hr
  have hrb := h.hb
  generalize numP s 1 100 r = N at *
  obtain ⟨n, r1⟩ := N
  simp only at *
  clear h
  go_enter Try.func87, Try.ntmps87
  go_wp2_with fail
  refine hn.mono ?_
  rintro e w1 ⟨rfl, hg1, hl1⟩
  have HG1 := hidZ hg1
  have HL1 := hidZ hl1
  have hsz1 := hg1.size
  clear hg1 hl1 hn
  go_wp2_with (first | (at_make; refine wpList_make_own w1 rfl _ _ 143 rfl w1.heap.size 153 i1 _ 2 Try.underlying143 HI1.out.1 HI1.out.2.1 HI1.out.2.2.1 .i64 .i64 _ n rfl rfl rfl (by rw [HI1.out.2.2.2]; omega) (by unfold maxLen; omega) (Nat.le_refl _) ?_; intro w2 hown hg))
  have HR2 := hidZ (HL1.out.grown hg (by simp))
  have HG2 := hidZ (grown_trans HG1.out (grown_any hg (some rb)))
  have HO2 := hidZ hown
  have hrb1 : rb < w1.heap.size := by omega
  clear hown hg HL1 HG1
  generalize w1.heap.size = B at *
  go_loopg [8] n (fun gk x wr => ∃ (zs : List ((Nat × List Int) × Nat)) (k : Nat) (r' : LSt), x = .slice (some ⟨B, 0, none⟩) k n ∧ zs.length = k ∧ k + gk = n ∧ r'.1 ≤ s.size ∧ condP s ru cl r = stsP s ru cl n gk (zs.map (·.1)) r' ∧
    wr.ownsRow B 153 2 (.slice (some ⟨B, 0, none⟩) k n) k (stC cl zs) ∧ StRows wr (B + 1) zs ∧ w.grownBy wr (some rb) ∧ LRd wr rb s r')
  case atStart => exact ⟨[], 0, r1, rfl, rfl, by omega, hna, HP.out, HO2.out, StRows.nil _ _, HG2.out, HR2.out⟩
  case round =>
    obtain ⟨zs, k, r', rfl, hxl, hkn, hr', heq, hown, hrow, hg, hl⟩ := hrel
    have HQ := hidZ heq
    have HO := hidZ hown
    have HW := hidZ hrow
    have HG := hidZ hg
    have HL := hidZ hl
    have HX := hidZ hxl
    have hsz : B < wr.heap.size := by have := (hown.lt B rfl).2; omega
    clear heq hown hg hl hxl hrow HR2 HG2 HO2
    by_cases hlt : k < n
    · obtain ⟨g', rfl⟩ : ∃ g', gk = g' + 1 := ⟨gk - 1, by omega⟩
      have HQ2 : Hid (condP s ru cl r = stsP s ru cl n g' (zs.map (·.1) ++ [((numP s 0 ru r').1, (leadsP s n cl [] (numP s 0 ru r').2).1)]) (leadsP s n cl [] (numP s 0 ru r').2).2) := HQ.out
      have hc := lnumber_any s r' 0 ru rb wr hs HL.out hr'
      have ha := numP_at (lo := 0) (hi := ru) hr'
      generalize numP s 0 ru r' = N at *
      obtain ⟨tk, r2⟩ := N
      simp only at *
      have hd : decide ((k : Int) < (n : Int)) = true := by simp; omega
      go_wp2_with fail
      refine hc.mono ?_
      rintro e w3 ⟨rfl, hg3, hl3⟩
      have HO3 : Hid (w3.ownsRow B 153 2 (.slice (some ⟨B, 0, none⟩) k n) k (stC cl zs)) := hidZ (HO.out.kept hg3 (.inr (by simp [Value.ownBlock]; omega)))
      have HW3 := hidZ (HW.out.grown hg3 (by omega))
      have HG3 := hidZ (grown_trans HG.out hg3)
      have HL3 := hidZ hl3
      have hsz3 : B < w3.heap.size := by have := hg3.size; omega
      clear hg3 hl3 HO HG HL hc HW
      go_wp2_with (first | (at_make; refine wpList_make_own w3 rfl _ _ 30 rfl w3.heap.size 3 i0 (.int .i64 0) 1 Try.underlying30 HI.out.1 HI.out.2.1 HI.out.2.2.1 .i64 .i64 _ cl rfl rfl rfl (by rw [HI.out.2.2.2]; omega) (by unfold maxLen; omega) (Nat.le_refl _) ?_; intro w4 hown4 hg4))
      have HR4 := hidZ (HL3.out.grown hg4 (by simp))
      have HG4 := hidZ (grown_any hg4 (some rb))
      have HO4 := hidZ hown4
      clear hown4 hg4 HL3
      generalize hC : w3.heap.size = C at *
      go_loopg [10] cl (fun gj x wj => ∃ (xs : List Int) (m : Nat) (rj : LSt), x = .slice (some ⟨C, 0, none⟩) m cl ∧ xs.length = m ∧ m + gj = cl ∧ rj.1 ≤ s.size ∧ leadsP s n cl [] r2 = leadsP s n gj xs rj ∧
        wj.ownsRow C 3 1 (.slice (some ⟨C, 0, none⟩) m cl) m (intC xs) ∧ w3.grownBy wj (some rb) ∧ LRd wj rb s rj)
      case atStart => exact ⟨[], 0, r2, rfl, rfl, by omega, ha, rfl, HO4.out, HG4.out, HR4.out⟩
      case round =>
        obtain ⟨xs, m, rj, rfl, hxl, hmn, hrj, heq, hown, hg, hl⟩ := hrel
        have HQJ := hidZ heq
        have HOJ := hidZ hown
        have HGJ := hidZ hg
        have HLJ := hidZ hl
        have HXJ := hidZ hxl
        have hszj : C < wr.heap.size := by have := (hown.lt C rfl).2; omega
        clear heq hown hg hl hxl HR4 HG4 HO4
        by_cases hltj : m < cl
        · obtain ⟨j', rfl⟩ : ∃ j', gk = j' + 1 := ⟨gk - 1, by omega⟩
          have HQ3 : Hid (leadsP s n cl [] r2 = leadsP s n j' (xs ++ [(leadP s n rj).1]) (leadP s n rj).2) := HQJ.out
          have hc := llead_any s rj n rb wr hs HLJ.out hrj
          have ha := leadP_at (n := n) hrj
          generalize leadP s n rj = N at *
          obtain ⟨x, r3⟩ := N
          simp only at *
          have hdj : decide ((m : Int) < (cl : Int)) = true := by simp; omega
          go_wp2_with fail
          refine hc.mono ?_
          rintro e w5 ⟨rfl, hg5, hl5⟩
          have HO5 : Hid (w5.ownsRow C 3 1 (.slice (some ⟨C, 0, none⟩) m cl) m (intC xs)) := hidZ (HOJ.out.kept hg5 (.inr (by simp [Value.ownBlock]; omega)))
          have HG5 := hidZ (grown_trans HGJ.out hg5)
          have HL5 := hidZ hl5
          have hsz5 : C < w5.heap.size := by have := hg5.size; omega
          clear hg5 hl5 HOJ HGJ HLJ hc
          go_wp2_with (first | (at_builtin; refine wpList_fits1 w5 rfl _ _ 30 rfl C 3 (.int .i64 0) 1 8 Try.underlying30 Try.infoInt C m cl (intC xs) [.int .i64 x] _ rfl HO5.out _ rfl rfl rfl (by simp [Value.oneCell']) (by omega) ?_; intro w6 hown6 hgrow6))
          go_roundg j'
          case measure => omega
          case rel =>
            have hg6 := grown_alloc2 HG5.out (.cells #[.int .i64 x] 3)
            refine ⟨xs ++ [x], m + 1, r3, rfl, by simp [HXJ.out], by omega, ha, HQ3.out, by rw [intC_snoc]; exact hown6, grown_new hg6 hgrow6 (by omega), ?_⟩
            exact (HL5.out.below ((Below.refl _ _).alloc (Nat.le_of_lt hsz5) _) (by omega)).grown hgrow6 (by simp; omega)
        · have e : m = cl := by omega
          subst e
          have e2 : gk = 0 := by omega
          subst e2
          have HE : Hid (leadsP s n m [] r2 = (xs, rj)) := HQJ.out
          have hdj : decide ((m : Int) < (m : Int)) = false := by simp
          have HO6 : Hid (wr.ownsRow B 153 2 (.slice (some ⟨B, 0, none⟩) k n) k (stC m zs)) := hidZ (HO3.out.kept HGJ.out (.inr (by simp [Value.ownBlock]; omega)))
          have HW6 := hidZ (HW3.out.grown HGJ.out (by omega))
          have HG6 := hidZ (grown_trans HG3.out HGJ.out)
          have HRW := hidZ (row_range HOJ.out)
          have hsz6 : B < wr.heap.size := by omega
          clear HO3 HW3 HG3 HOJ HGJ
          go_wp2_with (first | (at_builtin; refine wpList_fits1 wr rfl _ _ 143 rfl B 153 (.agg #[.int .i64 0, .slice none 0 0]) 2 32 Try.underlying143 Try.infoState B k n (stC m zs) [.int .i64 (tk : Int), .slice (some ⟨C, 0, none⟩) m m] _ rfl HO6.out _ rfl rfl rfl (by simp [Value.oneCell']) (by omega) ?_; intro w6 hown6 hgrow6))
          go_roundg g'
          case measure => omega
          case rel =>
            have hg6 := grown_alloc2 HG6.out (.cells #[.int .i64 (tk : Int), .slice (some ⟨C, 0, none⟩) m m] 153)
            have hq := HQ2.out
            rw [HE.out] at hq
            have hsz7 := hgrow6.size
            simp at hsz7
            refine ⟨zs ++ [((tk, xs), C)], k + 1, rj, rfl, by simp [HX.out], by omega, hrj, by rw [List.map_append]; exact hq, by rw [stC_snoc]; exact hown6, ?_, grown_new hg6 hgrow6 (by omega), ?_⟩
            · refine ((HW6.out.grown (grown_alloc2 (World.grownBy.refl _ (some B)) _) (by omega)).snoc ⟨by omega, by simp; omega, ?_⟩).grown hgrow6 (by omega)
              exact rangeAt_block HRW.out (Below.heap_alloc wr _ C hszj)
            · exact (HLJ.out.below ((Below.refl _ _).alloc (Nat.le_of_lt hsz6) _) (by omega)).grown hgrow6 (by simp; omega)
    · have e : k = n := by omega
      subst e
      have e2 : gk = 0 := by omega
      subst e2
      have HE : Hid (condP s ru cl r = (zs.map (·.1), r')) := HQ.out
      have hd : decide ((k : Int) < (k : Int)) = false := by simp
      go_wp2
      go_ret
      rw [HE.out]
      have hx := HX.out
      subst hx
      exact ⟨B, zs, hsz1, rfl, rfl, HO.out, HW.out, HG.out, HL.out⟩
end Go.Proofs.Ytgjgjgihceijnaa
