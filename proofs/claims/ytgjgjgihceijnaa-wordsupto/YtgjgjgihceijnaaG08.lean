/- Texts put together: StPart, StGather, StPure2. -/
import Derived.Test.YtgjgjgihceijnaaG04
import Derived.Test.YtgjgjgihceijnaaG07
import Derived.Test.YtgjgjgihceijnaaG02
namespace Go.Stn
theorem getD_lt {l : List Nat} {n : Nat} (h : ∀ x ∈ l, x < n) {i : Nat} (hi : i < l.length) : l.getD i 0 < n := by
  rw [List.getD_eq_getElem?_getD, List.getElem?_eq_getElem hi]
  exact h _ (List.getElem_mem hi)
theorem firstP_step {q : Nat → Nat → Bool} {l : List Nat} {s f d : Nat} (hd : f + (d + 1) = l.length) : firstP q l s (d + 1) = if q (l.getD f 0) s = true then f else firstP q l s d := by
  rw [firstP, show l.length - (d + 1) = f by omega]
end Go.Stn
namespace Go.Proofs.Ytgjgjgihceijnaa
open Go.RowKit Go.Stn

theorem ownsRow_base0 {w : World} {base base' : Nat} {e : TypeId} {size : Nat} {g n cap : Nat} {xs : List Value} (h : w.ownsRow base e size (.slice (some ⟨g, 0, none⟩) n cap) n xs) (hb : base' ≤ g) : w.ownsRow base' e size (.slice (some ⟨g, 0, none⟩) n cap) n xs := by
  refine ⟨h.1, ?_⟩
  rcases h.2 with hn | ⟨g', cap', cur, hv, hbg, rest⟩
  · exact .inl hn
  · cases hv
    exact .inr ⟨g, cap, cur, rfl, hb, rest⟩

/-- What part comes to: two lists. -/
def PartOut (w : World) (a b : List Nat) (e : Ending) (w' : World) : Prop :=
  ∃ g1 c1 g2 c2, e = .returned (.tuple #[.slice (some ⟨g1, 0, none⟩) a.length c1, .slice (some ⟨g2, 0, none⟩) b.length c2]) ∧ NIn w' g1 a.length (listF a) ∧ NIn w' g2 b.length (listF b) ∧ g1 < w'.heap.size ∧ g2 < w'.heap.size ∧ w.heap.size ≤ g1 ∧ w.heap.size ≤ g2 ∧ Below w.heap.size w w'

set_option maxRecDepth 100000 in
set_option maxHeartbeats 1000000 in
theorem spart_any (pt : Nat → Int) (g n cap K pg pcap : Nat) (zb tk : Nat → Nat) (nx : Nat → Nat → Int) (w : World) (hn : n ≤ 2000) (hK : K ≤ 300)
    (hr : ∀ i k, i < n → k < K → nx i k = -1 ∨ (0 ≤ nx i k ∧ nx i k < n)) (hS : SIn w w.heap.size g n K zb tk nx) (hP : NIn w pg n pt) (hpg : pg < w.heap.size) :
    Calls Try.prog 95 #[.slice (some ⟨g, 0, none⟩) n cap, .slice (some ⟨pg, 0, none⟩) n pcap] w fun e w' => PartOut w (partP n (alikeB pt tk nx K)).1 (partP n (alikeB pt tk nx K)).2 e w' := by
  obtain ⟨i0, hi0, hz0, hz1, hz2⟩ := info_parts Try.infoInt
  have HI : Hid (Try.prog.info? 3 = some i0 ∧ i0.zero = some (.int .i64 0) ∧ i0.size = 1 ∧ i0.bytes = 8) := ⟨hi0, hz0, hz1, hz2⟩
  clear hi0 hz0 hz1 hz2
  have HS := hidZ hS
  have HP := hidZ hP
  have HR := hidZ hr
  clear hS hP hr
  go_enter Try.func95, Try.ntmps95
  go_wp2_with (first | (at_make; refine wpList_make_own w rfl _ _ 30 rfl w.heap.size 3 i0 (.int .i64 0) 1 Try.underlying30 HI.out.1 HI.out.2.1 HI.out.2.2.1 .i64 .i64 _ n rfl rfl rfl (by rw [HI.out.2.2.2]; omega) (by unfold maxLen; omega) (Nat.le_refl _) ?_; intro w1 hown1 hg1))
  obtain ⟨Q, EQ⟩ : ∃ Q, alikeB pt tk nx K = Q := ⟨_, rfl⟩
  replace EQ := hidZ EQ
  have HB1 : Hid (Below w.heap.size w w1) := ⟨hg1.os, hg1.tape, hg1.output, hg1.size, fun k hk => hg1.block k hk (by simp)⟩
  have hz1 : w.heap.size < w1.heap.size := by have := (hown1.lt w.heap.size rfl).2; omega
  have HO1 := hidZ (hown1.alloc (.cells #[] 3))
  have HB2 := hidZ (HB1.out.alloc (Nat.le_of_lt hz1) (.cells #[] 3))
  have HE2 : Hid ((w1.alloc (.cells #[] 3)).ownsRow (w.heap.size + 1) 3 1 (.slice (some ⟨w1.heap.size, 0, none⟩) 0 0) 0 []) := ownsRow_base0 (owns_empty w1 3) hz1
  clear hown1 hg1 HB1
  generalize w1.alloc (.cells #[] 3) = w2 at *
  generalize w1.heap.size = g20 at *
  go_loopg [6, 7, 16] n (fun gk fv sv iv wr => ∃ (fin firsts : List Nat) (s g2 c2 : Nat), fv = .slice (some ⟨w.heap.size, 0, none⟩) fin.length n ∧ sv = .slice (some ⟨g2, 0, none⟩) firsts.length c2 ∧ iv = .int .i64 (s : Int) ∧ s + gk = n ∧ fin.length = s ∧ firsts.length ≤ 100 ∧
    (∀ x ∈ firsts, x < s) ∧ partP n Q = partL Q gk s fin firsts ∧ wr.ownsRow w.heap.size 3 1 (.slice (some ⟨w.heap.size, 0, none⟩) fin.length n) fin.length (natC fin) ∧
    wr.ownsRow (w.heap.size + 1) 3 1 (.slice (some ⟨g2, 0, none⟩) firsts.length c2) firsts.length (natC firsts) ∧ Below w.heap.size w wr)
  case atStart => exact ⟨[], [], 0, g20, 0, rfl, rfl, rfl, by omega, rfl, by simp, fun x hx => absurd hx (List.not_mem_nil), rfl, HO1.out, HE2.out, HB2.out⟩
  case round =>
    obtain ⟨fin, firsts, s, g2, c2, rfl, rfl, rfl, hsg, hfl, hf100, hlt, heq, ho1, ho2, hb⟩ := hrel
    have HQ := hidZ heq
    have HO1' := hidZ ho1
    have HO2' := hidZ ho2
    have HB := hidZ hb
    have HLT := hidZ hlt
    have HFL := hidZ hfl
    clear heq ho1 ho2 hb hlt hfl HO1 HE2 HB2
    have hzr : w.heap.size < wr.heap.size := (HO1'.out.lt _ rfl).2
    by_cases hsn : s < n
    · obtain ⟨d, rfl⟩ : ∃ d, gk = d + 1 := ⟨gk - 1, by omega⟩
      have hd1 : decide ((s : Int) < (n : Int)) = true := by simp; omega
      have HSr := hidZ (HS.out.below HB.out (Nat.le_refl _))
      have HPr := hidZ (HP.out.below HB.out hpg)
      have HNr := hidZ (NIn.of_row HO2'.out)
      go_upto_block 2 with fail
      go_cut [9] from 17 to 51 (fun fv wc => ∃ q, fv = .int .i64 ((firstP Q firsts s firsts.length : Nat) : Int) ∧ wc = wr.drewN q)
      case first =>
        go_wp2_with fail
        go_loopg [9] firsts.length (fun gj fv wj => ∃ (f q : Nat), fv = .int .i64 (f : Int) ∧ f + gj = firsts.length ∧ wj = wr.drewN q ∧ firstP Q firsts s firsts.length = firstP Q firsts s gj)
        case atStart => exact ⟨0, 0, rfl, by omega, rfl, rfl⟩
        case round =>
          obtain ⟨f, q, rfl, hfj, rfl, hfp⟩ := hrel
          have HFP := hidZ hfp
          clear hfp
          by_cases hff : f < firsts.length
          · obtain ⟨j, rfl⟩ : ∃ j, gk = j + 1 := ⟨gk - 1, by omega⟩
            have c1 := HNr.out f hff
            have hxs := getD_lt HLT.out hff
            have HL : Hid (listF firsts f = ((firsts.getD f 0 : Nat) : Int)) := rfl
            rw [HL.out] at c1
            have hst := @firstP_step Q firsts s f j hfj
            generalize firsts.getD f 0 = x at *
            have hcl := salike_any pt g n cap K w.heap.size pg pcap zb tk nx x s (wr.drewN q) (by omega) hsn hK HR.out (HSr.out.drewN q) HPr.out
            rw [EQ.out] at hcl
            have hd2 : decide ((f : Int) < (firsts.length : Int)) = true := by simp; omega
            have hfI : (0 : Int) ≤ (f : Int) ∧ (f : Int) < (firsts.length : Int) := by omega
            cases hq : Q x s with
            | true =>
              rw [hq] at hcl hst
              rw [if_pos rfl] at hst
              have HE : Hid (firstP Q firsts s firsts.length = f) := HFP.out.trans hst
              clear hst hq
              go_wp2_with fail
              refine hcl.mono ?_
              rintro e w3 ⟨rfl, q', rfl⟩
              go_wp2
              go_meet
              case rel => exact ⟨q + q', by rw [HE.out], rfl⟩
            | false =>
              rw [hq] at hcl hst
              rw [if_neg (by decide)] at hst
              have HE : Hid (firstP Q firsts s firsts.length = firstP Q firsts s j) := HFP.out.trans hst
              clear hst hq
              go_wp2_with fail
              refine hcl.mono ?_
              rintro e w3 ⟨rfl, q', rfl⟩
              go_wp2
              go_roundg j
              case measure => omega
              case rel => exact ⟨f + 1, q + q', by go_num, by omega, rfl, HE.out⟩
          · have e : gk = 0 := by omega
            subst e
            have hd2 : decide ((f : Int) < (firsts.length : Int)) = false := by simp; omega
            have HE : Hid (firstP Q firsts s firsts.length = f) := HFP.out.trans (by rw [firstP]; omega)
            go_wp2
            go_meet
            case rel => exact ⟨q, by rw [HE.out], rfl⟩
      case rest =>
        obtain ⟨q, rfl, rfl⟩ := hcut
        have HO1q : Hid ((wr.drewN q).ownsRow w.heap.size 3 1 (.slice (some ⟨w.heap.size, 0, none⟩) fin.length n) fin.length (natC fin)) := HO1'.out
        have HO2q : Hid ((wr.drewN q).ownsRow (w.heap.size + 1) 3 1 (.slice (some ⟨g2, 0, none⟩) firsts.length c2) firsts.length (natC firsts)) := HO2'.out
        have HBq : Hid (Below w.heap.size w (wr.drewN q)) := ⟨HB.out.os, HB.out.tape, HB.out.output, HB.out.size, HB.out.block⟩
        have hzq : w.heap.size < (wr.drewN q).heap.size := hzr
        have hst : partL Q (d + 1) s fin firsts = if firstP Q firsts s firsts.length = firsts.length then
          (if 100 < firsts.length + 1 then (fin, firsts ++ [s]) else partL Q d (s + 1) (fin ++ [firsts.length]) (firsts ++ [s])) else partL Q d (s + 1) (fin ++ [firstP Q firsts s firsts.length]) firsts := rfl
        have hfle := firstP_le Q firsts s firsts.length
        clear HO1' HO2' HB HSr HPr HNr
        generalize wr.drewN q = wq at *
        generalize firstP Q firsts s firsts.length = fp at *
        by_cases hfe : fp = firsts.length
        · rw [if_pos hfe] at hst
          have hd2 : ((fp : Int) == (firsts.length : Int)) = true := by rw [hfe]; simp
          have hgb := (HO2q.out.lt g2 rfl).1
          by_cases h100 : 100 < firsts.length + 1
          · rw [if_pos h100] at hst
            have HE : Hid (partP n Q = (fin, firsts ++ [s])) := HQ.out.trans hst
            have hd3 : decide ((100 : Int) < ((firsts.length + 1 : Nat) : Int)) = true := by simp; omega
            have hd3' : decide ((100 : Int) < (firsts.length : Int) + 1) = true := by simp; omega
            clear hst hfe
            go_wp2_with (first | (at_builtin; refine wpList_app1 wq rfl (.tmp 40) (.tmp 42) 30 rfl (w.heap.size + 1) 3 (.int .i64 0) 1 8 Try.underlying30 Try.infoInt rfl (by decide) (by decide) (.slice (some ⟨g2, 0, none⟩) firsts.length c2) firsts.length (natC firsts) [.int .i64 (s : Int)] _ rfl HO2q.out _ rfl rfl rfl (by simp [Value.oneCell']) (by omega) (by omega) ?_; intro g4 cap4 w4 hown4 hgrow4 hat4 hlt4; have HK4 := hidZ ((HO1q.out.alloc _).kept hgrow4 (.inr (fun e => absurd (show w.heap.size = g2 by simpa [Value.ownBlock] using e) (by omega)))); have HB4 : Hid (Below w.heap.size w w4) := (HBq.out.alloc (Nat.le_of_lt hzq) _).grown hgrow4 (Nat.le_trans (Nat.le_of_lt hzq) (by simp)) (fun k hk => Nat.le_trans (Nat.le_succ _) (HO2q.out.lt k hk).1); have HO4 := hidZ hown4; clear hown4 hgrow4 hat4))
            go_ret2
            refine ⟨w.heap.size, n, g4, cap4, ?_, ?_, ?_, ?_, hlt4, Nat.le_refl _, ?_, HB4.out⟩
            · rw [EQ.out, HE.out]; simp
            · rw [EQ.out, HE.out]; exact NIn.of_row HK4.out
            · rw [EQ.out, HE.out]
              refine NIn.of_row (base := w.heap.size + 1) (e := 3) (cap := cap4) ?_
              rw [natC_snoc, List.length_append]; exact HO4.out
            · exact (HK4.out.lt _ rfl).2
            · have := (HO4.out.lt g4 rfl).1; omega
          · rw [if_neg h100] at hst
            have HE : Hid (partP n Q = partL Q d (s + 1) (fin ++ [fp]) (firsts ++ [s])) := by unfold Hid; rw [hfe]; exact HQ.out.trans hst
            have hd3 : decide ((100 : Int) < ((firsts.length + 1 : Nat) : Int)) = false := by simp; omega
            have hd3' : decide ((100 : Int) < (firsts.length : Int) + 1) = false := by simp; omega
            clear hst hfe
            go_wp2_with (first | (at_builtin; refine wpList_app1 wq rfl (.tmp 40) (.tmp 42) 30 rfl (w.heap.size + 1) 3 (.int .i64 0) 1 8 Try.underlying30 Try.infoInt rfl (by decide) (by decide) (.slice (some ⟨g2, 0, none⟩) firsts.length c2) firsts.length (natC firsts) [.int .i64 (s : Int)] _ rfl HO2q.out _ rfl rfl rfl (by simp [Value.oneCell']) (by omega) (by omega) ?_; intro g4 cap4 w4 hown4 hgrow4 hat4 hlt4; have HK4 := hidZ ((HO1q.out.alloc _).kept hgrow4 (.inr (fun e => absurd (show w.heap.size = g2 by simpa [Value.ownBlock] using e) (by omega)))); have HB4 : Hid (Below w.heap.size w w4) := (HBq.out.alloc (Nat.le_of_lt hzq) _).grown hgrow4 (Nat.le_trans (Nat.le_of_lt hzq) (by simp)) (fun k hk => Nat.le_trans (Nat.le_succ _) (HO2q.out.lt k hk).1); have HO4 := hidZ hown4; clear hown4 hgrow4 hat4) | (at_builtin; refine wpList_fits1 w4 rfl (.tmp 47) (.tmp 49) 30 rfl w.heap.size 3 (.int .i64 0) 1 8 Try.underlying30 Try.infoInt w.heap.size fin.length n (natC fin) [.int .i64 (fp : Int)] _ rfl HK4.out _ rfl rfl rfl (by simp [Value.oneCell']) (by have := HFL.out; omega) ?_; intro w6 hown6 hgrow6))
            go_roundg d
            case measure => omega
            case rel =>
              have hz4 := (HK4.out.lt _ rfl).2
              refine ⟨fin ++ [fp], firsts ++ [s], s + 1, g4, cap4, by simp, by simp, by go_num, by omega, by have := HFL.out; simp; omega, by simp; omega, fun x hx => ?_, HE.out, by rw [natC_snoc, List.length_append]; exact hown6, ?_, ?_⟩
              · rcases List.mem_append.1 hx with h | h
                · have := HLT.out x h; omega
                · rw [List.mem_singleton] at h; omega
              · rw [natC_snoc, List.length_append]
                exact (HO4.out.alloc _).kept hgrow6 (.inr (by have := (HO4.out.lt g4 rfl).1; simp [Value.ownBlock]; omega))
              · exact (HB4.out.alloc (Nat.le_of_lt hz4) _).grown hgrow6 (Nat.le_trans (Nat.le_of_lt hz4) (by simp)) (fun k hk => by injection hk; omega)
        · rw [if_neg hfe] at hst
          have HE : Hid (partP n Q = partL Q d (s + 1) (fin ++ [fp]) firsts) := HQ.out.trans hst
          have hd2 : ((fp : Int) == (firsts.length : Int)) = false := by rw [beq_eq_false_iff_ne]; omega
          have hd3 : decide ((100 : Int) < (firsts.length : Int)) = false := by simp; omega
          clear hst hfe
          go_wp2_with (first | (at_builtin; refine wpList_fits1 wq rfl (.tmp 47) (.tmp 49) 30 rfl w.heap.size 3 (.int .i64 0) 1 8 Try.underlying30 Try.infoInt w.heap.size fin.length n (natC fin) [.int .i64 (fp : Int)] _ rfl HO1q.out _ rfl rfl rfl (by simp [Value.oneCell']) (by have := HFL.out; omega) ?_; intro w6 hown6 hgrow6))
          go_roundg d
          case measure => omega
          case rel =>
            refine ⟨fin ++ [fp], firsts, s + 1, g2, c2, by simp, rfl, by go_num, by omega, by have := HFL.out; simp; omega, hf100, fun x hx => by have := HLT.out x hx; omega, HE.out, by rw [natC_snoc, List.length_append]; exact hown6, ?_, ?_⟩
            · exact (HO2q.out.alloc _).kept hgrow6 (.inr (by have := (HO2q.out.lt g2 rfl).1; simp [Value.ownBlock]; omega))
            · exact (HBq.out.alloc (Nat.le_of_lt hzq) _).grown hgrow6 (Nat.le_trans (Nat.le_of_lt hzq) (by simp)) (fun k hk => by injection hk; omega)
    · have e : gk = 0 := by omega
      subst e
      have hd1 : decide ((s : Int) < (n : Int)) = false := by simp; omega
      have HE : Hid (partP n Q = (fin, firsts)) := HQ.out
      go_wp2
      go_ret2
      refine ⟨w.heap.size, n, g2, c2, ?_, ?_, ?_, ?_, ?_, Nat.le_refl _, ?_, HB.out⟩
      · rw [EQ.out, HE.out]; rfl
      · rw [EQ.out, HE.out]; exact NIn.of_row HO1'.out
      · rw [EQ.out, HE.out]; exact NIn.of_row HO2'.out
      · exact hzr
      · exact (HO2'.out.lt _ rfl).2
      · have := (HO2'.out.lt g2 rfl).1; omega
end Go.Proofs.Ytgjgjgihceijnaa

namespace Go.Proofs.Ytgjgjgihceijnaa
open Go.RowKit Go.Stn

/-- A list of states, just made. -/
def StatesOut (w : World) (K : Nat) (l : List (Nat × List Int)) (e : Ending) (w' : World) : Prop :=
  ∃ (B : Nat) (zs : List ((Nat × List Int) × Nat)), w.heap.size ≤ B ∧ e = .returned (.slice (some ⟨B, 0, none⟩) zs.length zs.length) ∧ zs.map (·.1) = l ∧
      w'.ownsRow B 153 2 (.slice (some ⟨B, 0, none⟩) zs.length zs.length) zs.length (stC K zs) ∧ StRows w' (B + 1) zs ∧ Below w.heap.size w w'

set_option maxRecDepth 100000 in
set_option maxHeartbeats 1000000 in
theorem sgather_any (fin firsts : List Nat) (g n cap K pg pcap fg fcap : Nat) (zb tk : Nat → Nat) (nx : Nat → Nat → Int) (w : World) (hK : K ≤ 300) (hf : firsts.length ≤ 100) (hfn : ∀ x ∈ firsts, x < n)
    (hr : ∀ i k, i < n → k < K → nx i k = -1 ∨ (0 ≤ nx i k ∧ nx i k < n)) (hS : SIn w w.heap.size g n K zb tk nx) (hP : NIn w pg n (listF fin)) (hpg : pg < w.heap.size) (hF : NIn w fg firsts.length (listF firsts)) (hfg : fg < w.heap.size) :
    Calls Try.prog 96 #[.slice (some ⟨g, 0, none⟩) n cap, .slice (some ⟨pg, 0, none⟩) n pcap, .slice (some ⟨fg, 0, none⟩) firsts.length fcap] w fun e w' => StatesOut w K (gatherP tk nx K fin firsts) e w' := by
  obtain ⟨i0, hi0, hz0, hz1, hz2⟩ := info_parts Try.infoInt
  have HI : Hid (Try.prog.info? 3 = some i0 ∧ i0.zero = some (.int .i64 0) ∧ i0.size = 1 ∧ i0.bytes = 8) := ⟨hi0, hz0, hz1, hz2⟩
  clear hi0 hz0 hz1 hz2
  obtain ⟨i1, hi0, hz0, hz1, hz2⟩ := info_parts Try.infoState
  have HI1 : Hid (Try.prog.info? 153 = some i1 ∧ i1.zero = some (.agg #[.int .i64 0, .slice none 0 0]) ∧ i1.size = 2 ∧ i1.bytes = 32) := ⟨hi0, hz0, hz1, hz2⟩
  clear hi0 hz0 hz1 hz2
  have HS := hidZ hS
  have HP := hidZ hP
  have HR := hidZ hr
  have HF := hidZ hF
  have HFN := hidZ hfn
  clear hS hP hr hF hfn
  obtain ⟨m, hm⟩ : ∃ m, firsts.length = m := ⟨_, rfl⟩
  rw [hm] at hf ⊢
  replace hm := hidZ hm
  go_enter Try.func96, Try.ntmps96
  go_wp2_with (first | (at_make; refine wpList_make_own w rfl _ _ 143 rfl w.heap.size 153 i1 _ 2 Try.underlying143 HI1.out.1 HI1.out.2.1 HI1.out.2.2.1 .i64 .i64 _ m rfl rfl rfl (by rw [HI1.out.2.2.2]; omega) (by unfold maxLen; omega) (Nat.le_refl _) ?_; intro w2 hown hg))
  have HB2 : Hid (Below w.heap.size w w2) := ⟨hg.os, hg.tape, hg.output, hg.size, fun k hk => hg.block k hk (by simp)⟩
  have HO2 := hidZ hown
  clear hown hg
  obtain ⟨B, hBw⟩ : ∃ B, w.heap.size = B := ⟨_, rfl⟩
  rw [hBw] at HB2 HO2 hpg hfg HS ⊢
  go_loopg [7, 19] m (fun gk x iv wr => ∃ (zs : List ((Nat × List Int) × Nat)) (k : Nat), x = .slice (some ⟨B, 0, none⟩) k m ∧ iv = .int .i64 (k : Int) ∧ zs.length = k ∧ k + gk = m ∧ zs.map (·.1) = gatherP tk nx K fin (firsts.take k) ∧
    wr.ownsRow B 153 2 (.slice (some ⟨B, 0, none⟩) k m) k (stC K zs) ∧ StRows wr (B + 1) zs ∧ Below B w wr)
  case atStart => exact ⟨[], 0, rfl, rfl, rfl, by omega, by simp [gatherP], HO2.out, StRows.nil _ _, HB2.out⟩
  case round =>
    obtain ⟨zs, k, rfl, rfl, hzl, hkm, heq, hown, hrow, hb⟩ := hrel
    have HQ := hidZ heq
    have HO := hidZ hown
    have HW := hidZ hrow
    have HB := hidZ hb
    have HX := hidZ hzl
    have hsz : B < wr.heap.size := (hown.lt B rfl).2
    clear heq hown hb hzl hrow HO2 HB2
    by_cases hlt : k < m
    · obtain ⟨g', rfl⟩ : ∃ g', gk = g' + 1 := ⟨gk - 1, by omega⟩
      have hkf : k < firsts.length := by rw [hm.out]; exact hlt
      have c1 := (HF.out.below HB.out hfg) k hkf
      have hsn := getD_lt HFN.out hkf
      have HTK : Hid (gatherP tk nx K fin (firsts.take (k + 1)) = gatherP tk nx K fin (firsts.take k) ++ [(tk (firsts.getD k 0), (List.range K).map fun g => prtP (listF fin) (nx (firsts.getD k 0) g))]) := by
        unfold Hid gatherP
        rw [List.take_add_one, List.getElem?_eq_getElem hkf, List.map_append, List.getD_eq_getElem?_getD, List.getElem?_eq_getElem hkf]; rfl
      have HL : Hid (listF firsts k = ((firsts.getD k 0 : Nat) : Int)) := rfl
      rw [HL.out] at c1
      generalize firsts.getD k 0 = s at *
      have HSr := hidZ (HS.out.below HB.out (by omega))
      have HPr := hidZ (HP.out.below HB.out hpg)
      have c2 := HSr.out.nxc s hsn
      have hd1 : decide ((k : Int) < (m : Int)) = true := by simp; omega
      have hkI : (0 : Int) ≤ (k : Int) ∧ (k : Int) < (m : Int) := by omega
      have hsI : (0 : Int) ≤ (s : Int) ∧ (s : Int) < (n : Int) := by omega
      have hgw : g < wr.heap.size := by have := HSr.out.bg; omega
      clear hkf
      go_wp2_with (first | (at_make; refine wpList_make_own wr rfl _ _ 30 rfl wr.heap.size 3 i0 (.int .i64 0) 1 Try.underlying30 HI.out.1 HI.out.2.1 HI.out.2.2.1 .i64 .i64 _ K rfl rfl rfl (by rw [HI.out.2.2.2]; omega) (by unfold maxLen; omega) (Nat.le_refl _) ?_; intro w4 hown4 hg4; have HB4 : Hid (Below wr.heap.size wr w4) := (⟨hg4.os, hg4.tape, hg4.output, hg4.size, fun k hk => hg4.block k hk (by simp)⟩ : Below wr.heap.size wr w4); have c3 := (HB4.out.cell (p := ⟨g, s * 2 + 1, none⟩) hgw).trans c2; clear c1 c2))
      have HO4 := hidZ hown4
      have HS4 := hidZ (HSr.out.below HB4.out (by omega))
      have HP4 := hidZ (HPr.out.below HB4.out (by omega))
      clear hown4 hg4
      obtain ⟨C, hC⟩ : ∃ C, wr.heap.size = C := ⟨_, rfl⟩
      rw [hC] at HB4 HO4 hsz ⊢
      clear c3
      go_loopg [10, 36] K (fun gj x iv wj => ∃ (xs : List Int) (j : Nat), x = .slice (some ⟨C, 0, none⟩) j K ∧ iv = .int .i64 (j : Int) ∧ j + gj = K ∧ xs = (List.range j).map (fun g => prtP (listF fin) (nx s g)) ∧
        wj.ownsRow C 3 1 (.slice (some ⟨C, 0, none⟩) j K) j (intC xs) ∧ Below C wr wj)
      case atStart => exact ⟨[], 0, rfl, rfl, by omega, rfl, HO4.out, HB4.out⟩
      case round =>
        obtain ⟨xs, j, rfl, rfl, hjk, hxs, hown, hb⟩ := hrel
        have HXS := hidZ hxs
        have HOJ := hidZ hown
        have HBJ := hidZ hb
        have HXS := hidZ hxs
        have HOJ := hidZ hown
        have HBJ := hidZ hb
        have hszj : C < wr.heap.size := (hown.lt C rfl).2
        have HSj := hidZ (HSr.out.below hb (by omega))
        have HPj := hidZ (HPr.out.below hb (by omega))
        clear hxs hown hb HO4 HB4
        by_cases hltj : j < K
        · obtain ⟨j', rfl⟩ : ∃ j', gk = j' + 1 := ⟨gk - 1, by omega⟩
          have c5 := HSj.out.ldc s j hsn hltj
          have hc := spartOf_any (listF fin) pg n pcap (nx s j) wr (HR.out s j hsn hltj) HPj.out
          have HXN : Hid ((List.range (j + 1)).map (fun g => prtP (listF fin) (nx s g)) = xs ++ [prtP (listF fin) (nx s j)]) := by unfold Hid; rw [List.range_succ, List.map_append, HXS.out]; rfl
          generalize nx s j = x1 at *
          generalize prtP (listF fin) x1 = y at *
          have hdj : decide ((j : Int) < (K : Int)) = true := by simp; omega
          have hjI : (0 : Int) ≤ (j : Int) ∧ (j : Int) < (K : Int) := by omega
          go_wp2_with fail
          refine hc.mono ?_
          rintro e w5 ⟨rfl, rfl⟩
          go_wp2_with (first | (at_builtin; refine wpList_fits1 w5 rfl _ _ 30 rfl C 3 (.int .i64 0) 1 8 Try.underlying30 Try.infoInt C j K (intC xs) [.int .i64 y] _ rfl HOJ.out _ rfl rfl rfl (by simp [Value.oneCell']) (by omega) ?_; intro w6 hown6 hgrow6))
          go_roundg j'
          case measure => omega
          case rel =>
            exact ⟨xs ++ [y], j + 1, rfl, by go_num, by omega, HXN.out.symm, by rw [intC_snoc]; exact hown6, (HBJ.out.alloc (Nat.le_of_lt hszj) _).grown hgrow6 (Nat.le_trans (Nat.le_of_lt hszj) (by simp)) (fun q hq => by injection hq; omega)⟩
        · have e : j = K := by omega
          subst e
          have e2 : gk = 0 := by omega
          subst e2
          have hdj : decide ((j : Int) < (j : Int)) = false := by simp
          have c5 := HSj.out.tkc s hsn
          have HOB : Hid (wr.ownsRow B 153 2 (.slice (some ⟨B, 0, none⟩) k m) k (stC j zs)) := hidZ (row_top HO.out (fun q hq => HBJ.out.block q (by simp [Value.ownBlock] at hq; omega)))
          have HWB : Hid (StRows wr (B + 1) zs) := HW.out.below HBJ.out (by omega)
          have HBB : Hid (Below B w wr) := HB.out.trans (HBJ.out.mono (by omega))
          have HRW := hidZ (row_range HOJ.out)
          generalize tk s = tks at *
          go_wp2_with (first | (at_builtin; refine wpList_fits1 wr rfl _ _ 143 rfl B 153 (.agg #[.int .i64 0, .slice none 0 0]) 2 32 Try.underlying143 Try.infoState B k m (stC j zs) [.int .i64 (tks : Int), .slice (some ⟨C, 0, none⟩) j j] _ rfl HOB.out _ rfl rfl rfl (by simp [Value.oneCell']) (by omega) ?_; intro w6 hown6 hgrow6))
          go_roundg g'
          case measure => omega
          case rel =>
            have hsz7 := hgrow6.size
            simp at hsz7
            refine ⟨zs ++ [((tks, xs), C)], k + 1, rfl, by go_num, by simp [HX.out], by omega, ?_, by rw [stC_snoc]; exact hown6, ?_, ?_⟩
            · rw [List.map_append, HTK.out, HQ.out, ← HXS.out]; rfl
            · refine ((HWB.out.grown (grown_alloc2 (World.grownBy.refl _ (some B)) _) (by omega)).snoc ⟨by omega, by simp; omega, ?_⟩).grown hgrow6 (by omega)
              exact rangeAt_block HRW.out (Below.heap_alloc wr _ C hszj)
            · exact (HBB.out.alloc (by omega) _).grown hgrow6 (Nat.le_trans (Nat.le_of_lt (show B < wr.heap.size by omega)) (by simp)) (fun q hq => by injection hq; omega)
    · have e : k = m := by omega
      subst e
      have hd1 : decide ((k : Int) < (k : Int)) = false := by simp
      go_wp2
      go_ret
      have hx := HX.out
      subst hx
      refine ⟨B, zs, by rw [hBw]; exact Nat.le_refl _, rfl, ?_, HO.out, HW.out, by rw [hBw]; exact HB.out⟩
      rw [HQ.out, ← hm.out, List.take_length]
end Go.Proofs.Ytgjgjgihceijnaa

namespace Go.Stn
/-- So many things go into no fewer places. -/
theorem pigeon : ∀ (k m : Nat) (f : Nat → Nat), (∀ i, i < m → f i < k) → (∀ i j, i < m → j < m → f i = f j → i = j) → m ≤ k := by
  intro k
  induction k with
  | zero => intro m f h _; cases m with
            | zero => exact Nat.le_refl _
            | succ n => have := h 0 (by omega); omega
  | succ k ih =>
    intro m f h hi
    cases m with
    | zero => omega
    | succ n =>
      have := ih n (fun j => if f j = k then f n else f j) (fun i hin => by
        by_cases e : f i = k
        · simp only [if_pos e]
          have h1 := h n (by omega)
          have h2 : f n ≠ k := fun h3 => by have := hi i n (by omega) (by omega) (by omega); omega
          omega
        · simp only [if_neg e]
          have := h i (by omega); omega) (fun i j hin hjn he => by
        by_cases e1 : f i = k <;> by_cases e2 : f j = k
        · exact hi i j (by omega) (by omega) (by omega)
        · simp only [if_pos e1, if_neg e2] at he
          have := hi n j (by omega) (by omega) he; omega
        · simp only [if_neg e1, if_pos e2] at he
          have := hi i n (by omega) (by omega) he; omega
        · simp only [if_neg e1, if_neg e2] at he
          exact hi i j (by omega) (by omega) he)
      omega

theorem getD_app_lt {l : List Nat} {i x : Nat} (h : i < l.length) : (l ++ [x]).getD i 0 = l.getD i 0 := by
  rw [List.getD_eq_getElem?_getD, List.getD_eq_getElem?_getD, List.getElem?_append_left h]
theorem getD_app_end {l : List Nat} {x : Nat} : (l ++ [x]).getD l.length 0 = x := by
  rw [List.getD_eq_getElem?_getD, List.getElem?_append_right (Nat.le_refl _)]; simp

theorem firstP_q {q : Nat → Nat → Bool} {l : List Nat} {s : Nat} : ∀ d, d ≤ l.length → firstP q l s d < l.length → q (l.getD (firstP q l s d) 0) s = true := by
  intro d
  induction d with
  | zero => intro _ h; rw [firstP] at h; omega
  | succ k ih =>
    intro hd h
    rw [firstP] at h ⊢
    split
    · assumption
    · rename_i hn
      rw [if_neg hn] at h
      exact ih (by omega) h

/-- The states below s are parted. -/
structure PI (q : Nat → Nat → Bool) (s : Nat) (fin firsts : List Nat) : Prop where
  len : fin.length = s
  cl : ∀ x, x < s → fin.getD x 0 < firsts.length ∧ (firsts.getD (fin.getD x 0) 0 = x ∨ q (firsts.getD (fin.getD x 0) 0) x = true)
  rep : ∀ f, f < firsts.length → firsts.getD f 0 < s ∧ fin.getD (firsts.getD f 0) 0 = f

theorem partL_inv {q : Nat → Nat → Bool} : ∀ d s fin firsts, PI q s fin firsts → (partL q d s fin firsts).2.length ≤ 100 → PI q (s + d) (partL q d s fin firsts).1 (partL q d s fin firsts).2 := by
  intro d
  induction d with
  | zero => intro s fin firsts h _; exact h
  | succ k ih =>
    intro s fin firsts h hl
    rw [partL] at hl ⊢
    by_cases hf : firstP q firsts s firsts.length = firsts.length
    · rw [if_pos hf] at hl ⊢
      by_cases h100 : 100 < firsts.length + 1
      · rw [if_pos h100] at hl; simp at hl; omega
      · rw [if_neg h100] at hl ⊢
        rw [show s + (k + 1) = s + 1 + k by omega]
        refine ih (s + 1) _ _ ⟨by simp [h.len], fun x hx => ?_, fun f hff => ?_⟩ hl
        · by_cases e : x = s
          · subst e
            rw [show (fin ++ [firsts.length]).getD x 0 = firsts.length by have := @getD_app_end fin firsts.length; rw [h.len] at this; exact this]
            refine ⟨by simp, .inl getD_app_end⟩
          · have hx' : x < s := by omega
            obtain ⟨h1, h2⟩ := h.cl x hx'
            rw [getD_app_lt (by rw [h.len]; exact hx'), getD_app_lt h1]
            exact ⟨Nat.lt_of_lt_of_le h1 (by simp), h2⟩
        · simp at hff
          by_cases e : f = firsts.length
          · subst e
            rw [getD_app_end]
            refine ⟨by omega, ?_⟩
            have := @getD_app_end fin firsts.length; rw [h.len] at this; exact this
          · have hf' : f < firsts.length := by omega
            obtain ⟨h1, h2⟩ := h.rep f hf'
            rw [getD_app_lt hf', getD_app_lt (by rw [h.len]; exact h1)]
            exact ⟨by omega, h2⟩
    · rw [if_neg hf] at hl ⊢
      have hlt : firstP q firsts s firsts.length < firsts.length := by have := firstP_le q firsts s firsts.length; omega
      have hq := firstP_q _ (Nat.le_refl _) hlt
      rw [show s + (k + 1) = s + 1 + k by omega]
      refine ih (s + 1) _ _ ⟨by simp [h.len], fun x hx => ?_, fun f hff => ?_⟩ hl
      · by_cases e : x = s
        · subst e
          rw [show (fin ++ [firstP q firsts x firsts.length]).getD x 0 = firstP q firsts x firsts.length by have := @getD_app_end fin (firstP q firsts x firsts.length); rw [h.len] at this; exact this]
          exact ⟨hlt, .inr hq⟩
        · have hx' : x < s := by omega
          obtain ⟨h1, h2⟩ := h.cl x hx'
          rw [getD_app_lt (by rw [h.len]; exact hx')]
          exact ⟨h1, h2⟩
      · obtain ⟨h1, h2⟩ := h.rep f hff
        rw [getD_app_lt (by rw [h.len]; exact h1)]
        exact ⟨by omega, h2⟩

theorem partP_inv {n : Nat} {q : Nat → Nat → Bool} (h : (partP n q).2.length ≤ 100) : PI q n (partP n q).1 (partP n q).2 := by
  have := partL_inv (q := q) n 0 [] [] ⟨rfl, fun x hx => by omega, fun f hf => by simp at hf⟩ h
  rw [Nat.zero_add] at this; exact this

/-- Parts that have each of the numbers below count. -/
def okParts (n : Nat) (parts : List Nat) (count : Nat) : Prop := parts.length = n ∧ ∀ f, f < count → ∃ s, s < n ∧ parts.getD s 0 = f
theorem okParts_next {n : Nat} {q : Nat → Nat → Bool} (h : (partP n q).2.length ≤ 100) : okParts n (partP n q).1 (partP n q).2.length := by
  have hp := partP_inv h
  exact ⟨hp.len, fun f hf => ⟨_, (hp.rep f hf).1, (hp.rep f hf).2⟩⟩
/-- A finer parting has no fewer parts. -/
theorem parts_grow {n : Nat} {parts : List Nat} {count : Nat} {q : Nat → Nat → Bool} (h0 : okParts n parts count) (hq : ∀ s t, q s t = true → parts.getD s 0 = parts.getD t 0) (h : (partP n q).2.length ≤ 100) : count ≤ (partP n q).2.length := by
  have hp := partP_inv h
  refine pigeon _ _ (fun f => if hf : f < count then (partP n q).1.getD (Classical.choose (h0.2 f hf)) 0 else 0) (fun i hi => ?_) (fun i j hi hj he => ?_)
  · simp only [dif_pos hi]
    exact (hp.cl _ (Classical.choose_spec (h0.2 i hi)).1).1
  · simp only [dif_pos hi, dif_pos hj] at he
    have si := Classical.choose_spec (h0.2 i hi)
    have sj := Classical.choose_spec (h0.2 j hj)
    generalize Classical.choose (h0.2 i hi) = a at *
    generalize Classical.choose (h0.2 j hj) = b at *
    have ha := (hp.cl a si.1).2
    have hb := (hp.cl b sj.1).2
    rw [← he] at hb
    have e1 : parts.getD ((partP n q).2.getD ((partP n q).1.getD a 0) 0) 0 = parts.getD a 0 := by
      rcases ha with h1 | h1
      · rw [h1]
      · exact hq _ _ h1
    have e2 : parts.getD ((partP n q).2.getD ((partP n q).1.getD a 0) 0) 0 = parts.getD b 0 := by
      rcases hb with h1 | h1
      · rw [h1]
      · exact hq _ _ h1
    rw [← si.2, ← sj.2, ← e1, ← e2]
theorem alikeB_part {parts : List Nat} {tk : Nat → Nat} {nx : Nat → Nat → Int} {K s t : Nat} (h : alikeB (listF parts) tk nx K s t = true) : parts.getD s 0 = parts.getD t 0 := by
  unfold alikeB at h
  simp only [Bool.and_eq_true, decide_eq_true_eq] at h
  have := h.1
  unfold listF at this
  omega
/-- What merge comes to: the states, or too many. -/
def mergeP (n : Nat) (tk : Nat → Nat) (nx : Nat → Nat → Int) (K : Nat) : Option (List (Nat × List Int)) :=
  (mergeL n tk nx K 102 (List.replicate n 0) 0).map fun x => gatherP tk nx K x.1 x.2
end Go.Stn

