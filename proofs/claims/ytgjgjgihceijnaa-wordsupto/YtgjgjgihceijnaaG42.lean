/- Texts put together: WaFrom, AkComp, WaNd. -/
import Derived.Test.YtgjgjgihceijnaaG41
import Derived.Test.YtgjgjgihceijnaaG39
import Derived.Test.YtgjgjgihceijnaaG38
import Derived.Test.YtgjgjgihceijnaaG31
import Derived.BigRegion
namespace Go.Proofs.Ytgjgjgihceijnaa
open Go.RowKit Go.Stn
/-- A list under way beside the walk. -/
def xO (X : Nat → Prop) (w : World) (k : Nat) : Prop := X k ∨ k = w.heap.size
structure FI (m : WAt) (X : Nat → Prop) (w wr : World) (al : Nat → Bool) : Prop where
  wk : WKn m (xO X w) wr
  kp : Kept m.R w wr
  ba : BA wr w.heap.size m.L al
  lt : w.heap.size < wr.heap.size
  nr : ¬ m.R w.heap.size
variable {m : WAt} {X : Nat → Prop} {w wr w' : World} {al : Nat → Bool}
theorem WKn.rows (h : WKn m X w) {k : Nat} (hk : m.R k) : k < w.heap.size := by
  obtain ⟨n, hn, e⟩ := hk
  rw [e]; exact h.bd n hn
theorem FI.start (h : WKn m X w) (hg : w.grownBy w' none) (hown : w'.ownsRow w.heap.size 4 1 (.slice (some ⟨w.heap.size, 0, none⟩) m.L m.L) m.L (madeCells (Value.bool false).cells (m.L * 1)).toList) : FI m X w w' (fun _ => false) := by
  have hb : Below w.heap.size w w' := ⟨hg.os, hg.tape, hg.output, hg.size, fun k hk => hg.block k hk (by simp)⟩
  refine ⟨(h.more (X' := xO X w) (fun k hk hx => ?_)).below hb, Kept.of_below hb, BA.new hown, (hown.lt w.heap.size rfl).2, fun hr => by have := h.rows hr; omega⟩
  rcases hx with hx | hx
  · exact hx
  · omega
theorem FI.set (h : FI m X w wr al) {s : Nat} (hs : s < m.L) (v : Bool) : FI m X w (wr.setCell ⟨w.heap.size, s, none⟩ (.bool v)) (fun i => if i = s then v else al i) :=
  ⟨h.wk.put (.inr rfl) s _, h.kp.put (Nat.le_refl _) s _, h.ba.set hs v, by have := h.lt; simpa [World.setCell] using this, h.nr⟩
theorem FI.draw (h : FI m X w wr al) (q : Nat) : FI m X w (wr.drewN q) al := ⟨h.wk.draw q, h.kp.draw q, ⟨h.ba.c, h.ba.f⟩, h.lt, h.nr⟩
theorem FI.over (h : FI m X w wr al) (hk : WKn m (xO X w) w') (hp : Kept m.R wr w') : FI m X w w' al :=
  ⟨hk, h.kp.trans hp, h.ba.blk (hp.block _ h.lt h.nr), Nat.lt_of_lt_of_le h.lt hp.size, h.nr⟩
theorem FI.bound (h : FI m X w wr al) (hX : ∀ k, X k → k < w.heap.size) : ∀ k, xO X w k → k < wr.heap.size := fun k hk => by
  have := h.lt
  rcases hk with hk | hk
  · have := hX k hk; omega
  · omega
theorem FI.other (h : FI m X w wr al) {g : Nat} {b : Nat → Bool} (hb : BA w g m.L b) (hg : g < w.heap.size) (hr : ¬ m.R g) : BA wr g m.L b := hb.blk (h.kp.block g hg hr)
/-- What such a list comes to in the end. -/
def Made (m : WAt) (X : Nat → Prop) (w : World) (P : Nat → Prop) (e : Ending) (w' : World) : Prop :=
  ∃ g al, e = .returned (.slice (some ⟨g, 0, none⟩) m.L m.L) ∧ WKn m X w' ∧ Kept m.R w w' ∧ w.heap.size ≤ g ∧ g < w'.heap.size ∧ ¬ m.R g ∧ BA w' g m.L al ∧ ∀ q, q ≤ m.inp.size → (al q = true ↔ P q)
theorem FI.made (h : FI m X w wr al) {P : Nat → Prop} (hP : ∀ q, q ≤ m.inp.size → (al q = true ↔ P q)) : Made m X w P (.returned (.slice (some ⟨w.heap.size, 0, none⟩) m.L m.L)) wr :=
  ⟨_, al, rfl, h.wk.more (fun _ _ hx => .inl hx), h.kp, Nat.le_refl _, h.lt, h.nr, h.ba, hP⟩

set_option maxRecDepth 100000 in
set_option maxHeartbeats 2000000 in
theorem kfrom_any {n : Nat} {x : Nd} (ho : OverOk m n x) (hs : m.inp.size ≤ 300) (hk : WKn m X w) (hX : ∀ k, X k → k < w.heap.size) {g0 : Nat} {a0 : Nat → Bool} (hb0 : BA w g0 m.L a0) (hg0 : g0 < w.heap.size) (hr0 : ¬ m.R g0) :
    Calls Try.prog 101 #[.pointer (some ⟨m.pw, 0, none⟩), .int .i64 (n : Int), .slice (some ⟨g0, 0, none⟩) m.L m.L] w (Made m X w (fun q => ∃ p, p ≤ m.inp.size ∧ a0 p = true ∧ GoesTo x.tr m.inp p q)) := by
  obtain ⟨i0, hi0, hz0, hz1, hz2⟩ := info_parts Try.infoBool1
  have HI : Hid (Try.prog.info? 4 = some i0 ∧ i0.zero = some (.bool false) ∧ i0.size = 1 ∧ i0.bytes = 1) := ⟨hi0, hz0, hz1, hz2⟩
  clear hi0 hz0 hz1 hz2
  have hL : m.L ≤ 301 := by unfold WAt.L; omega
  have HLq : Hid (∀ q, q ≤ m.inp.size ↔ q < m.L) := fun q => by unfold WAt.L; omega
  have HO := hidK ho
  have HX := hidK hX
  have HK := hidK hk
  have HB0 := hidK hb0
  have HR0 := hidK hr0
  clear ho hX hk hb0 hr0
  go_enter Try.func101, Try.ntmps101
  go_upto_region 2 with (first | (at_make; refine wpList_make_full w rfl _ _ 94 rfl w.heap.size 4 i0 (.bool false) 1 Try.underlying94 HI.out.1 HI.out.2.1 HI.out.2.2.1 .i64 .i64 _ m.L m.L rfl rfl rfl rfl (by rw [HI.out.2.2.2]; omega) (by unfold maxLen; omega) (Nat.le_refl _) ?_; intro w1 hown hg; have HFI := hidK (FI.start HK.out hg hown); clear hown hg))
  go_wp2
  go_loopw [8] (fun ii wr => ∃ (k : Nat) (al : Nat → Bool), k ≤ m.L ∧ ii = .int .i64 (k : Int) ∧ FI m X w wr al ∧ ∀ q, q < m.L → (al q = true ↔ ∃ p, p < k ∧ a0 p = true ∧ GoesTo x.tr m.inp p q)) (fun ii _ => m.L - (intOf ii).toNat)
  case atStart => exact ⟨0, _, Nat.zero_le _, rfl, HFI.out, fun q _ => ⟨fun h => absurd h (by simp), fun ⟨p, hp, _⟩ => absurd hp (by omega)⟩⟩
  case round =>
    obtain ⟨k, al, hkL, rfl, hfi, hal⟩ := hrel
    have HF := hidK hfi
    have HA := hidK hal
    clear hfi hal HFI
    by_cases hlt : k < m.L
    · have hkI : (0 : Int) ≤ (k : Int) ∧ (k : Int) < (m.L : Int) := by omega
      have y0 := (HF.out.other HB0.out hg0 HR0.out).c k hlt
      cases hv : a0 k with
      | false =>
        rw [hv] at y0
        have HN : Hid (∀ q, q < m.L → (al q = true ↔ ∃ p, p < k + 1 ∧ a0 p = true ∧ GoesTo x.tr m.inp p q)) := fun q hq => by
          rw [HA.out q hq]
          constructor
          · rintro ⟨p, h1, h2⟩; exact ⟨p, by omega, h2⟩
          · rintro ⟨p, h1, h2, h3⟩
            by_cases e : p = k
            · subst e; rw [hv] at h2; cases h2
            · exact ⟨p, by omega, h2, h3⟩
        replace hv := hidK hv
        go_wp2
        go_roundw
        case rel => exact ⟨k + 1, al, hlt, by go_num, HF.out, HN.out⟩
        case measure => simp [intOf]; omega
      | true =>
        rw [hv] at y0
        replace hv := hidK hv
        go_wp2_with fail
        refine (HO.out (xO X w) _ k HF.out.wk (HF.out.bound HX.out) ((HLq.out k).2 hlt)).mono ?_
        rintro e w2 ⟨g1, rfl, hk2, hp2, hl2⟩
        have HF2 := hidK (HF.out.over hk2 hp2)
        obtain ⟨a1, hb1, hg1⟩ := hl2.al
        have HG1 := hidK hg1
        have HB1 := hidK hb1
        have HNE : Hid (g1 ≠ w.heap.size) := fun e => hl2.nx (.inr e)
        clear hk2 hp2 hl2 hg1 hb1 y0
        go_wp2
        go_loopw [10] (fun ii wr => ∃ (j : Nat) (al2 : Nat → Bool), j ≤ m.L ∧ ii = .int .i64 (j : Int) ∧ FI m X w wr al2 ∧ BA wr g1 m.L a1 ∧ ∀ q, q < m.L → (al2 q = true ↔ al q = true ∨ (q < j ∧ a1 q = true))) (fun ii _ => m.L - (intOf ii).toNat)
        case atStart => exact ⟨0, al, Nat.zero_le _, rfl, HF2.out, HB1.out, fun q _ => ⟨.inl, fun h => h.elim id (fun h => by omega)⟩⟩
        case round =>
          obtain ⟨j, al2, hjL, rfl, hfi, hba, hal⟩ := hrel
          have HF3 := hidK hfi
          have HB3 := hidK hba
          have HA3 := hidK hal
          clear hfi hba hal HF2 HB1
          by_cases hlj : j < m.L
          · have hjI : (0 : Int) ≤ (j : Int) ∧ (j : Int) < (m.L : Int) := by omega
            have y1 := HF3.out.ba.c j hlj
            have y2 := HB3.out.c j hlj
            have yf := HF3.out.ba.f j
            have HS : Hid (∀ v, BA (wr.setCell ⟨w.heap.size, j, none⟩ (.bool v)) g1 m.L a1) := fun v => HB3.out.blk (set_keep _ _ _ _ HNE.out)
            have HSt : Hid (∀ v : Bool, (v = true ↔ al2 j = true ∨ a1 j = true) → ∀ q, q < m.L → ((if q = j then v else al2 q) = true ↔ al q = true ∨ (q < j + 1 ∧ a1 q = true))) := fun v hv q hq => by
              by_cases e : q = j
              · subst e
                rw [if_pos rfl, hv, HA3.out q hq]
                constructor
                · rintro ((h | ⟨h, _⟩) | h)
                  · exact .inl h
                  · omega
                  · exact .inr ⟨by omega, h⟩
                · rintro (h | ⟨_, h⟩)
                  · exact .inl (.inl h)
                  · exact .inr h
              · rw [if_neg e, HA3.out q hq]
                constructor
                · rintro (h | ⟨h1, h2⟩)
                  · exact .inl h
                  · exact .inr ⟨by omega, h2⟩
                · rintro (h | ⟨h1, h2⟩)
                  · exact .inl h
                  · exact .inr ⟨by omega, h2⟩
            cases e2 : al2 j with
            | true =>
              rw [e2] at y1
              have HE := hidK e2
              clear e2
              go_wp2
              go_roundw
              case rel => exact ⟨j + 1, _, hlj, by go_num, HF3.out.set hlj true, HS.out true, HSt.out true (by rw [HE.out]; simp)⟩
              case measure => simp [intOf]; omega
            | false =>
              rw [e2] at y1
              have HE := hidK e2
              clear e2
              obtain ⟨v, ev⟩ : ∃ v, a1 j = v := ⟨_, rfl⟩
              rw [ev] at y2
              have HV := hidK ev
              clear ev
              go_wp2
              go_roundw
              case rel => exact ⟨j + 1, _, hlj, by go_num, HF3.out.set hlj v, HS.out v, HSt.out v (by rw [HE.out, HV.out]; simp)⟩
              case measure => simp [intOf]; omega
          · have e : j = m.L := by omega
            have HN : Hid (∀ q, q < m.L → (al2 q = true ↔ ∃ p, p < k + 1 ∧ a0 p = true ∧ GoesTo x.tr m.inp p q)) := fun q hq => by
              rw [HA3.out q hq, HA.out q hq]
              constructor
              · rintro (⟨p, h1, h2⟩ | ⟨_, h⟩)
                · exact ⟨p, by omega, h2⟩
                · exact ⟨k, by omega, hv.out, (HG1.out q ((HLq.out q).2 hq)).1 h⟩
              · rintro ⟨p, h1, h2, h3⟩
                by_cases e : p = k
                · subst e; exact .inr ⟨by omega, (HG1.out q ((HLq.out q).2 hq)).2 h3⟩
                · exact .inl ⟨p, by omega, h2, h3⟩
            have dj : decide ((j : Int) < (m.L : Int)) = false := by simp; omega
            clear e
            go_wp2
            go_roundw
            case rel => exact ⟨k + 1, al2, hlt, by go_num, HF3.out, HN.out⟩
            case measure => simp [intOf]; omega
    · have HN : Hid (∀ q, q ≤ m.inp.size → (al q = true ↔ ∃ p, p ≤ m.inp.size ∧ a0 p = true ∧ GoesTo x.tr m.inp p q)) := fun q hq => by
        rw [HA.out q ((HLq.out q).1 hq)]
        constructor
        · rintro ⟨p, h1, h2⟩; exact ⟨p, (HLq.out p).2 (by omega), h2⟩
        · rintro ⟨p, h1, h2⟩; exact ⟨p, by have := (HLq.out p).1 h1; omega, h2⟩
      have dj : decide ((k : Int) < (m.L : Int)) = false := by simp; omega
      go_wp2
      go_ret
      exact HF.out.made HN.out

set_option maxRecDepth 100000 in
set_option maxHeartbeats 2000000 in
theorem kmany_any {n : Nat} {x : Nd} (ho : OverOk m n x) (hs : m.inp.size ≤ 300) (hk : WKn m X w) (hX : ∀ k, X k → k < w.heap.size) {p : Nat} (hp : p ≤ m.inp.size) :
    Calls Try.prog 102 #[.pointer (some ⟨m.pw, 0, none⟩), .int .i64 (n : Int), .int .i64 (p : Int)] w (Made m X w (fun q => GoesTo (.many x.tr) m.inp p q)) := by
  obtain ⟨i0, hi0, hz0, hz1, hz2⟩ := info_parts Try.infoBool1
  have HI : Hid (Try.prog.info? 4 = some i0 ∧ i0.zero = some (.bool false) ∧ i0.size = 1 ∧ i0.bytes = 1) := ⟨hi0, hz0, hz1, hz2⟩
  clear hi0 hz0 hz1 hz2
  have hL : m.L ≤ 301 := by unfold WAt.L; omega
  have HLq : Hid (∀ q, q ≤ m.inp.size ↔ q < m.L) := fun q => by unfold WAt.L; omega
  have hpL := (HLq.out p).1 hp
  have hpI : (0 : Int) ≤ (p : Int) ∧ (p : Int) < (m.L : Int) := by omega
  have HO := hidK ho
  have HX := hidK hX
  have HK := hidK hk
  have c2 := hk.c2
  clear ho hX hk
  go_enter Try.func102, Try.ntmps102
  go_upto_region 2 with (first | (at_make; refine wpList_make_full w rfl _ _ 94 rfl w.heap.size 4 i0 (.bool false) 1 Try.underlying94 HI.out.1 HI.out.2.1 HI.out.2.2.1 .i64 .i64 _ m.L m.L rfl rfl rfl rfl (by rw [HI.out.2.2.2]; omega) (by unfold maxLen; omega) (Nat.le_refl _) ?_; intro w1 hown hg; have HFI := hidK (FI.start HK.out hg hown); clear hown hg))
  have x0 := HFI.out.ba.c p hpL
  have x1 := HFI.out.ba.f p
  have HFJ := hidK (HFI.out.set hpL true)
  clear c2
  go_wp2
  clear x0 x1 HFI
  go_loopw [8] (fun ii wr => ∃ (k : Nat) (al : Nat → Bool), k ≤ m.L ∧ p ≤ k ∧ ii = .int .i64 (k : Int) ∧ FI m X w wr al ∧ al p = true ∧ (∀ q, q < m.L → al q = true → GoesTo (.many x.tr) m.inp p q) ∧ ∀ j, p ≤ j → j < k → al j = true → ∀ i, i < m.L → GoesTo x.tr m.inp j i → al i = true) (fun ii _ => m.L - (intOf ii).toNat)
  case atStart =>
    refine ⟨p, _, by omega, Nat.le_refl _, rfl, HFJ.out, if_pos rfl, fun q _ hq => ?_, fun j h1 h2 => by omega⟩
    by_cases e : q = p
    · rw [e]; exact goes_many_nil hp
    · simp [e] at hq
  case round =>
    obtain ⟨k, al, hkL, hpk, rfl, hfi, hap, has, hac⟩ := hrel
    have HF := hidK hfi
    have HP := hidK hap
    have HA := hidK has
    have HC := hidK hac
    clear hfi hap has hac HFJ
    by_cases hlt : k < m.L
    · have hkI : (0 : Int) ≤ (k : Int) ∧ (k : Int) < (m.L : Int) := by omega
      have y0 := HF.out.ba.c k hlt
      cases hv : al k with
      | false =>
        rw [hv] at y0
        have HN : Hid (∀ j, p ≤ j → j < k + 1 → al j = true → ∀ i, i < m.L → GoesTo x.tr m.inp j i → al i = true) := fun j h1 h2 h3 => by
          by_cases e : j = k
          · subst e; rw [hv] at h3; cases h3
          · exact HC.out j h1 (by omega) h3
        replace hv := hidK hv
        go_wp2
        go_roundw
        case rel => exact ⟨k + 1, al, hlt, by omega, by go_num, HF.out, HP.out, HA.out, HN.out⟩
        case measure => simp [intOf]; omega
      | true =>
        rw [hv] at y0
        replace hv := hidK hv
        go_wp2_with fail
        refine (HO.out (xO X w) _ k HF.out.wk (HF.out.bound HX.out) ((HLq.out k).2 hlt)).mono ?_
        rintro e w2 ⟨g1, rfl, hk2, hp2, hl2⟩
        have HF2 := hidK (HF.out.over hk2 hp2)
        obtain ⟨a1, hb1, hg1⟩ := hl2.al
        have HG1 := hidK hg1
        have HB1 := hidK hb1
        have HNE : Hid (g1 ≠ w.heap.size) := fun e => hl2.nx (.inr e)
        clear hk2 hp2 hl2 hg1 hb1 y0
        go_wp2
        go_loopw [10] (fun ii wr => ∃ (j : Nat) (al2 : Nat → Bool), k ≤ j ∧ j ≤ m.L ∧ ii = .int .i64 (j : Int) ∧ FI m X w wr al2 ∧ BA wr g1 m.L a1 ∧ ∀ q, q < m.L → (al2 q = true ↔ al q = true ∨ (k ≤ q ∧ q < j ∧ a1 q = true))) (fun ii _ => m.L - (intOf ii).toNat)
        case atStart => exact ⟨k, al, Nat.le_refl _, by omega, rfl, HF2.out, HB1.out, fun q _ => ⟨.inl, fun h => h.elim id (fun h => by omega)⟩⟩
        case round =>
          obtain ⟨j, al2, hkj, hjL, rfl, hfi, hba, hal⟩ := hrel
          have HF3 := hidK hfi
          have HB3 := hidK hba
          have HA3 := hidK hal
          clear hfi hba hal HF2 HB1
          by_cases hlj : j < m.L
          · have hjI : (0 : Int) ≤ (j : Int) ∧ (j : Int) < (m.L : Int) := by omega
            have y1 := HF3.out.ba.c j hlj
            have y2 := HB3.out.c j hlj
            have yf := HF3.out.ba.f j
            have HS : Hid (∀ v, BA (wr.setCell ⟨w.heap.size, j, none⟩ (.bool v)) g1 m.L a1) := fun v => HB3.out.blk (set_keep _ _ _ _ HNE.out)
            have HSt : Hid (∀ v : Bool, (v = true ↔ al2 j = true ∨ a1 j = true) → ∀ q, q < m.L → ((if q = j then v else al2 q) = true ↔ al q = true ∨ (k ≤ q ∧ q < j + 1 ∧ a1 q = true))) := fun v hv q hq => by
              by_cases e : q = j
              · subst e
                rw [if_pos rfl, hv, HA3.out q hq]
                constructor
                · rintro ((h | ⟨_, h, _⟩) | h)
                  · exact .inl h
                  · omega
                  · exact .inr ⟨hkj, by omega, h⟩
                · rintro (h | ⟨_, _, h⟩)
                  · exact .inl (.inl h)
                  · exact .inr h
              · rw [if_neg e, HA3.out q hq]
                constructor
                · rintro (h | ⟨h1, h2, h3⟩)
                  · exact .inl h
                  · exact .inr ⟨h1, by omega, h3⟩
                · rintro (h | ⟨h1, h2, h3⟩)
                  · exact .inl h
                  · exact .inr ⟨h1, by omega, h3⟩
            cases e2 : al2 j with
            | true =>
              rw [e2] at y1
              have HE := hidK e2
              clear e2
              go_wp2
              go_roundw
              case rel => exact ⟨j + 1, _, by omega, hlj, by go_num, HF3.out.set hlj true, HS.out true, HSt.out true (by rw [HE.out]; simp)⟩
              case measure => simp [intOf]; omega
            | false =>
              rw [e2] at y1
              have HE := hidK e2
              clear e2
              obtain ⟨v, ev⟩ : ∃ v, a1 j = v := ⟨_, rfl⟩
              rw [ev] at y2
              have HV := hidK ev
              clear ev
              go_wp2
              go_roundw
              case rel => exact ⟨j + 1, _, by omega, hlj, by go_num, HF3.out.set hlj v, HS.out v, HSt.out v (by rw [HE.out, HV.out]; simp)⟩
              case measure => simp [intOf]; omega
          · have HN1 : Hid (al2 p = true) := (HA3.out p (by omega)).2 (.inl HP.out)
            have HN2 : Hid (∀ q, q < m.L → al2 q = true → GoesTo (.many x.tr) m.inp p q) := fun q hq h => by
              rcases (HA3.out q hq).1 h with h | ⟨_, _, h⟩
              · exact HA.out q hq h
              · exact goes_many_snoc (HA.out k hlt hv.out) ((HG1.out q ((HLq.out q).2 hq)).1 h)
            have HN3 : Hid (∀ j, p ≤ j → j < k + 1 → al2 j = true → ∀ i, i < m.L → GoesTo x.tr m.inp j i → al2 i = true) := fun j' h1 h2 h3 i hi hg => by
              by_cases e : j' = k
              · subst e
                exact (HA3.out i hi).2 (.inr ⟨hg.1, by omega, (HG1.out i ((HLq.out i).2 hi)).2 hg⟩)
              · refine (HA3.out i hi).2 (.inl (HC.out j' h1 (by omega) ?_ i hi hg))
                rcases (HA3.out j' (by omega)).1 h3 with h | ⟨h, _⟩
                · exact h
                · omega
            have dj : decide ((j : Int) < (m.L : Int)) = false := by simp; omega
            go_wp2
            go_roundw
            case rel => exact ⟨k + 1, al2, hlt, by omega, by go_num, HF3.out, HN1.out, HN2.out, HN3.out⟩
            case measure => simp [intOf]; omega
    · have HN : Hid (∀ q, q ≤ m.inp.size → (al q = true ↔ GoesTo (.many x.tr) m.inp p q)) := fun q hq => by
        refine ⟨HA.out q ((HLq.out q).1 hq), ?_⟩
        induction q using Nat.strongRecOn with
        | ind q ih =>
          intro hg
          rcases goes_many_last hg with e | ⟨i, h1, h2, h3, h4⟩
          · rw [e]; exact HP.out
          · exact HC.out i h1 (by have := (HLq.out q).1 hq; omega) (ih i h2 (by omega) h3) q ((HLq.out q).1 hq) h4
      have dj : decide ((k : Int) < (m.L : Int)) = false := by simp; omega
      go_wp2
      go_ret
      exact HF.out.made HN.out
end Go.Proofs.Ytgjgjgihceijnaa

namespace Go.Stn
open Go.Proofs.Ytgjgjgihceijnaa (netN netF netL fileSt compP)
theorem aF_zero : aF 0 = true := rfl
end Go.Stn

namespace Go.Stn
/-- What a node says of its tree. -/
def ndOk (all : List Nd) (j : Nat) (x : Nd) : Prop :=
  (x.k = 0 ∧ x.tr = .let1 x.a) ∨ (x.k = 1 ∧ x.tr = .two x.a x.b) ∨ (x.k = 2 ∧ x.tr = .any) ∨
  (∃ y z, all[x.l]? = some y ∧ all[x.r]? = some z ∧ x.l < j ∧ x.r < j ∧ ((x.k = 3 ∧ x.tr = .row y.tr z.tr) ∨ (x.k = 4 ∧ x.tr = .or2 y.tr z.tr))) ∨
  (∃ y, all[x.l]? = some y ∧ x.l < j ∧ ((x.k = 5 ∧ x.tr = .many y.tr) ∨ (x.k = 6 ∧ x.tr = .once y.tr) ∨ (x.k = 7 ∧ x.tr = .may y.tr)))
theorem ndOk_more {all : List Nd} {j : Nat} {x : Nd} (h : ndOk all j x) (m : List Nd) : ndOk (all ++ m) j x := by
  have up : ∀ (i : Nat) (y : Nd), all[i]? = some y → (all ++ m)[i]? = some y := fun i y hy => by
    rw [List.getElem?_append_left (List.getElem?_eq_some_iff.1 hy).1]; exact hy
  rcases h with h | h | h | ⟨y, z, h1, h2, h3⟩ | ⟨y, h1, h2⟩
  · exact .inl h
  · exact .inr (.inl h)
  · exact .inr (.inr (.inl h))
  · exact .inr (.inr (.inr (.inl ⟨y, z, up _ _ h1, up _ _ h2, h3⟩)))
  · exact .inr (.inr (.inr (.inr ⟨y, up _ _ h1, h2⟩)))
def allOk (all : List Nd) : Prop := ∀ (j : Nat) (x : Nd), all[j]? = some x → ndOk all j x
theorem leafP_ok (all : List Nd) (j : Nat) (o : OpK) : ndOk all j (leafP o) := by
  unfold leafP
  split
  · exact .inr (.inl ⟨rfl, rfl⟩)
  · split
    · exact .inr (.inr (.inl ⟨rfl, rfl⟩))
    · exact .inl ⟨rfl, rfl⟩
theorem allOk_snoc {all : List Nd} {x : Nd} (h : allOk all) (hx : ndOk all all.length x) : allOk (all ++ [x]) := fun j y hy => by
  by_cases hj : j < all.length
  · rw [List.getElem?_append_left hj] at hy
    exact ndOk_more (h j y hy) _
  · have hl := (List.getElem?_eq_some_iff.1 hy).1
    rw [List.length_append, List.length_singleton] at hl
    have e : j = all.length := by omega
    subst e
    rw [List.getElem?_append_right (Nat.le_refl _), Nat.sub_self] at hy
    have e : x = y := by simpa using hy
    subst e
    exact ndOk_more hx _
theorem newP_ok {s : PB} {i : Nat} (h : PBok s i) (o : OpK) : ndOk s.1 s.1.length (newP s o) := by
  unfold newP
  split
  · rename_i h0
    have hn0 : needP s o = need0 (pickN o.kind 8) := by
      unfold needP at h0 ⊢
      split at h0
      · omega
      · rename_i hh; rw [if_neg hh]
    have hle := (needP_le s o).1
    rw [hn0] at h0 hle
    have hk8 := pickN_lt o.kind (n := 8) (by omega)
    obtain ⟨x, x1, x2, x3, _⟩ := h.top (j := s.2.length - 1) (by omega)
    have xl := h.ok _ _ x1
    rw [x3]
    generalize pickN o.kind 8 = k at *
    by_cases h5 : 5 ≤ k
    · refine .inr (.inr (.inr (.inr ?_)))
      unfold madeP
      have hk : k = 5 ∨ k = 6 ∨ k = 7 := by omega
      rcases hk with rfl | rfl | rfl
      · exact ⟨x, x2, xl, .inl ⟨rfl, rfl⟩⟩
      · exact ⟨x, x2, xl, .inr (.inl ⟨rfl, rfl⟩)⟩
      · exact ⟨x, x2, xl, .inr (.inr ⟨rfl, rfl⟩)⟩
    · have h3 : 3 ≤ k := by
        apply Classical.byContradiction
        intro hc
        unfold need0 at h0
        rw [if_neg h5, if_neg hc] at h0
        omega
      have e2 : need0 k = 2 := by unfold need0; rw [if_neg h5, if_pos h3]
      obtain ⟨y, y1, y2, y3, _⟩ := h.top (j := s.2.length - 2) (by omega)
      have yl := h.ok _ _ y1
      rw [y3]
      refine .inr (.inr (.inr (.inl ?_)))
      unfold madeP
      have hk : k = 3 ∨ k = 4 := by omega
      rcases hk with rfl | rfl
      · exact ⟨y, x, y2, x2, yl, xl, .inl ⟨rfl, rfl⟩⟩
      · exact ⟨y, x, y2, x2, yl, xl, .inr ⟨rfl, rfl⟩⟩
  · exact leafP_ok _ _ _
theorem buildK_all (ops : List OpK) : ∀ k, k ≤ ops.length → allOk (buildK ops k).1 := by
  intro k
  induction k with
  | zero => intro _ j x hx; rw [buildK_zero] at hx; simp at hx
  | succ k ih =>
    intro hk
    rw [buildK_succ (List.getElem?_eq_getElem (show k < ops.length by omega))]
    exact allOk_snoc (ih (by omega)) (newP_ok (buildK_ok ops k (by omega)) _)
theorem builtP_all (ops : List OpK) : allOk (builtP ops).1 := by
  unfold builtP
  split
  · exact allOk_snoc (buildK_all ops _ (Nat.le_refl _)) (leafP_ok _ _ _)
  · exact buildK_all ops _ (Nat.le_refl _)
end Go.Stn

