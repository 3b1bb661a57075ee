/- Texts put together: ScRun, ScScan, ScProg, ExPure, ScSame, KpEx. -/
import Derived.Test.YtgjgjgihceijnaaG25
import Derived.Test.YtgjgjgihceijnaaG03
import Derived.Test.YtgjgjgihceijnaaG16
import Derived.Test.YtgjgjgihceijnaaG17
/- (*stencilref.Cut).run: a walk. -/
namespace Go.Proofs.Ytgjgjgihceijnaa
open Go.RowKit Go.Stn


set_option maxRecDepth 100000 in
set_option maxHeartbeats 1000000 in
theorem run_any (s inp : ByteArray) (B b g cap c cb base : Nat) (vh vt : Value) (w : World) (hi : imgOk s = true) (hs : s.size ≤ 120000) (hin : inp.size ≤ 300) (hc : c < iM s)
    (hw : ImgRd w B b g cap s) (hB : B ≤ cb) (hcut : CutAt w cb base w.heap.size b inp c [] 0 [] vh vt) :
    Calls Try.prog 48 #[.pointer (some ⟨cb, 0, none⟩)] w fun e w' =>
      e = .returned (.tuple #[]) ∧ Below cb w w' ∧ (cutP s inp c).2.2 < iM s ∧ ∃ H vh' vt', CutAt w' cb base w'.heap.size b inp (cutP s inp c).2.2 H (cutP s inp c).2.1 (cutP s inp c).1 vh' vt' := by
  have HL : Hid (cutP s inp c = runP s inp (inp.size + 1) 0 c [] 0 []) := rfl
  have hcb := hcut.hb
  have hbt := hcut.hbt
  go_enter Try.func48, Try.ntmps48
  go_wp2_with fail
  go_loopw [2] (fun x wr => ∃ (p c1 n : Nat) (H T : List (Int × Int × Int)) (vh vt : Value), x = .int .i64 p ∧ p ≤ inp.size ∧ c1 < iM s ∧ H.length ≤ 300 * p ∧ n ≤ 300 * p ∧ T.length ≤ p ∧
      cutP s inp c = runP s inp (inp.size - p + 1) p c1 H n T ∧ CutAt wr cb base wr.heap.size b inp c1 H n T vh vt ∧ Below cb w wr)
    (fun x _ => inp.size - (intOf x).toNat)
  case atStart => exact ⟨0, c, 0, [], [], vh, vt, rfl, Nat.zero_le _, hc, by simp, by omega, by simp, HL.out, hcut, Below.refl _ _⟩
  case round =>
    obtain ⟨p, c1, n, H, T, vh1, vt1, rfl, hp, hc1, hH, hn, hT, hrun, hcut1, hbel⟩ := hrel
    have HR : Hid (cutP s inp c = runP s inp (inp.size - p + 1) p c1 H n T) := hrun
    have HC : Hid (CutAt wr cb base wr.heap.size b inp c1 H n T vh1 vt1) := hcut1
    have HBL : Hid (Below cb w wr) := hbel
    have k1 := hcut1.c1
    clear hrun hcut1 hbel
    by_cases hlt : p < inp.size
    · go_wp2_with fail
      refine (look_any s inp B b g cap c1 p cb base n H T vh1 vt1 _ hi hs hin hp hc1 (by omega) (by omega) (hw.below HBL.out hB) hB HC.out).mono ?_
      rintro e w2 ⟨rfl, hb2, vh2, hcut2⟩
      have HC2 : Hid (CutAt w2 cb base w2.heap.size b inp c1 (H ++ (lookFrom s inp c1 H p).1) (n + (lookFrom s inp c1 H p).2) T vh2 vt1) := hcut2
      have HB2 : Hid (Below cb w w2) := HBL.out.trans hb2
      clear hcut2 hb2 HC HBL k1
      have hlen := lookFrom_len (s := s) (inp := inp) (c := c1) (p := p) (H := H)
      have HW2 : Hid (ImgRd w2 B b g cap s) := hw.below HB2.out hB
      have q0 := HC2.out.c0
      have q1 := HC2.out.c1
      have q2 := HC2.out.c2
      have HLG : Hid (∀ q, Calls Try.prog 74 #[.pointer (some ⟨b, 0, none⟩), .string inp, .int .i64 p, .int .i64 c1] (w2.drewN q) fun e w' => e = .returned (.tuple #[.int .i64 (lng s inp c1 p).1, .int .i64 (lng s inp c1 p).2]) ∧ ∃ m, w' = (w2.drewN q).drewN m) := fun q =>
        longest_any s inp B b g cap c1 p (w2.drewN q) hi hs hin hp hc1 (HW2.out.drewN q)
      rcases lng_cases hi hc1 hp with hno | ⟨r, q, hyes, hr, hpq, hq⟩
      · have HX : Hid (cutP s inp c = (T ++ [(-1, (p : Int), (p : Int))], n + (lookFrom s inp c1 H p).2, c1)) := by
          unfold Hid; rw [HR.out]; exact runP_none hlt hno
        rw [hno] at HLG
        clear hno HR
        go_wp2_with fail
        go_quiet ((go_at_call 74; exact Calls.quiet_of (HLG.out _)))
        have HC3 : Hid (CutAt (w2.drewN nq) cb base (w2.drewN nq).heap.size b inp c1 (H ++ (lookFrom s inp c1 H p).1) (n + (lookFrom s inp c1 H p).2) T vh2 vt1) := (HC2.out.drewN nq).raise
        have HB3 : Hid (Below cb w (w2.drewN nq)) := _root_.Go.below_drewN HB2.out nq
        have HW3 : Hid (ImgRd (w2.drewN nq) B b g cap s) := HW2.out.drewN nq
        generalize w2.drewN nq = w3 at *
        clear HC2 HB2 HW2 q0 q1 q2 HLG
        have hbt3 := HC3.out.hbt
        have r5 := HC3.out.c5
        go_wp2_with (first | (at_builtin; refine wpList_app1 w3 rfl (.tmp 39) (.tmp 43) 38 rfl base 61 (.agg #[.int .i64 0, .int .i64 0, .int .i64 0]) 3 24 Try.underlying38 Try.infoToken rfl (by decide) (by decide) vt1 T.length (cells3 T) [.int .i64 (-1), .int .i64 (p : Int), .int .i64 (p : Int)] _ rfl HC3.out.rt _ rfl rfl rfl (by simp [Value.oneCell']) (by omega) (by omega) ?_; intro g4 cap4 w4 hown4 hgrow4 hat4 hlt4; have HC4 := HC3.out.tell (x := (-1, (p : Int), (p : Int))) hown4 hgrow4 hat4 hlt4; have HC4 := hid_mk HC4; obtain ⟨kc4, kf4⟩ := (HC3.out.below ((Below.refl _ _).alloc HC3.out.hz _)).kept (fun k hk => (HC3.out.rt.lt k hk).1) hgrow4; have m5 := kc4 5 _ ((HC3.out.below ((Below.refl _ _).alloc HC3.out.hz _)).c5); have mf5 := kf4 5; have m2 := kc4 2 _ ((HC3.out.below ((Below.refl _ _).alloc HC3.out.hz _)).c2); have mf2 := kf4 2; have HB4 := hid_mk ((below_app HB3.out (by omega) HC3.out.rt (by omega) hgrow4).setCell (p := ⟨cb, 5, none⟩) (Nat.le_refl _) (.slice (some ⟨g4, 0, none⟩) (T.length + 1) cap4)); clear kc4 kf4 hown4 hgrow4 hat4 r5))
        refine bodyPost_ret (results_none rfl _ _ _) rfl ?_
        rw [HX.out]
        exact ⟨rfl, HB4.out, hc1, _, _, _, HC4.out.raise⟩
      · have HX : Hid (cutP s inp c = runP s inp (inp.size - q + 1) q (if 1 < thenB s r then thenB s r - 2 else c1) (H ++ (lookFrom s inp c1 H p).1) (n + (lookFrom s inp c1 H p).2) (if thenB s r = 1 then T else T ++ [((r : Int), (p : Int), (q : Int))])) := by
          unfold Hid
          rw [HR.out, runP_some hlt hyes]
          exact runP_fuel hi _ _ (by have := then_le hi hr; split <;> omega) (by omega) (by omega)
        rw [hyes] at HLG
        have hthen := then_le hi hr
        have hR8 := (img_head hi).1
        have h256 := (img_head hi).2.2.2.2
        have hm4 := (img_head hi).2.2.2.1
        have hbe : (s[4 + r]).toNat = thenB s r := bt_eq s (4 + r) (by omega)
        have hrne : ((r : Int) == -1) = false := beq_eq_false_iff_ne.2 (by omega)
        clear hyes HR
        generalize thenB s r = t at *
        by_cases ht1 : t = 1
        · subst ht1
          go_wp2_with fail
          go_quiet ((go_at_call 74; exact Calls.quiet_of (HLG.out _)))
          have HC3 : Hid (CutAt (w2.drewN nq) cb base (w2.drewN nq).heap.size b inp c1 (H ++ (lookFrom s inp c1 H p).1) (n + (lookFrom s inp c1 H p).2) T vh2 vt1) := (HC2.out.drewN nq).raise
          have HB3 : Hid (Below cb w (w2.drewN nq)) := _root_.Go.below_drewN HB2.out nq
          have HW3 : Hid (ImgRd (w2.drewN nq) B b g cap s) := HW2.out.drewN nq
          generalize w2.drewN nq = w3 at *
          clear HC2 HB2 HW2 q0 q1 q2 HLG
          have hbt3 := HC3.out.hbt
          have r5 := HC3.out.c5
          have x0 := HC3.out.c0
          have i0 := HW3.out.c0
          go_wp2
          go_roundw
          case rel =>
            refine ⟨q, c1, _, _, T, vh2, vt1, rfl, hq, hc1, ?_, ?_, by omega, HX.out, HC3.out, HB3.out⟩
            · rw [List.length_append]; omega
            · omega
          case measure => simp [intOf]; omega
        · have hbne : ((t : Int) != 1) = true := by rw [bne_iff_ne]; omega
          have hX1 : (if t = 1 then T else T ++ [((r : Int), (p : Int), (q : Int))]) = T ++ [((r : Int), (p : Int), (q : Int))] := if_neg ht1
          rw [hX1] at HX
          clear hX1
          by_cases ht2 : 1 < t
          · obtain ⟨u, hu⟩ : ∃ u, t = u + 2 := ⟨t - 2, by omega⟩
            have hX2 : (if 1 < t then t - 2 else c1) = u := by rw [if_pos ht2]; omega
            rw [hX2] at HX
            clear hX2
            have hu2 : ((t : Int) - 2) = (u : Int) := by omega
            have hut : u < iM s := by omega
            clear hu
            go_wp2_with fail
            go_quiet ((go_at_call 74; exact Calls.quiet_of (HLG.out _)))
            have HC3 : Hid (CutAt (w2.drewN nq) cb base (w2.drewN nq).heap.size b inp c1 (H ++ (lookFrom s inp c1 H p).1) (n + (lookFrom s inp c1 H p).2) T vh2 vt1) := (HC2.out.drewN nq).raise
            have HB3 : Hid (Below cb w (w2.drewN nq)) := _root_.Go.below_drewN HB2.out nq
            have HW3 : Hid (ImgRd (w2.drewN nq) B b g cap s) := HW2.out.drewN nq
            generalize w2.drewN nq = w3 at *
            clear HC2 HB2 HW2 q0 q1 q2 HLG
            have hbt3 := HC3.out.hbt
            have r5 := HC3.out.c5
            have x0 := HC3.out.c0
            have i0 := HW3.out.c0
            go_wp2_with (first | (at_builtin; refine wpList_app1 w3 rfl (.tmp 63) (.tmp 68) 38 rfl base 61 (.agg #[.int .i64 0, .int .i64 0, .int .i64 0]) 3 24 Try.underlying38 Try.infoToken rfl (by decide) (by decide) vt1 T.length (cells3 T) [.int .i64 (r : Int), .int .i64 (p : Int), .int .i64 (q : Int)] _ rfl HC3.out.rt _ rfl rfl rfl (by simp [Value.oneCell']) (by omega) (by omega) ?_; intro g4 cap4 w4 hown4 hgrow4 hat4 hlt4; have HC4 := HC3.out.tell (x := ((r : Int), (p : Int), (q : Int))) hown4 hgrow4 hat4 hlt4; have HC4 := hid_mk HC4; obtain ⟨kc4, kf4⟩ := (HC3.out.below ((Below.refl _ _).alloc HC3.out.hz _)).kept (fun k hk => (HC3.out.rt.lt k hk).1) hgrow4; have m5 := kc4 5 _ ((HC3.out.below ((Below.refl _ _).alloc HC3.out.hz _)).c5); have mf5 := kf4 5; have m2 := kc4 2 _ ((HC3.out.below ((Below.refl _ _).alloc HC3.out.hz _)).c2); have mf2 := kf4 2; have HB4 := hid_mk ((below_app HB3.out (by omega) HC3.out.rt (by omega) hgrow4).setCell (p := ⟨cb, 5, none⟩) (Nat.le_refl _) (.slice (some ⟨g4, 0, none⟩) (T.length + 1) cap4)); clear kc4 kf4 hown4 hgrow4 hat4 r5))
            go_roundw
            case rel =>
              refine ⟨q, u, _, _, T ++ [((r : Int), (p : Int), (q : Int))], vh2, _, rfl, hq, hut, ?_, ?_, ?_, HX.out, (HC4.out.cond u).raise, HB4.out.setCell (p := ⟨cb, 2, none⟩) (Nat.le_refl _) _⟩
              · rw [List.length_append]; omega
              · omega
              · simp; omega
            case measure => simp [intOf]; omega
          · have hX2 : (if 1 < t then t - 2 else c1) = c1 := if_neg ht2
            rw [hX2] at HX
            clear hX2
            go_wp2_with fail
            go_quiet ((go_at_call 74; exact Calls.quiet_of (HLG.out _)))
            have HC3 : Hid (CutAt (w2.drewN nq) cb base (w2.drewN nq).heap.size b inp c1 (H ++ (lookFrom s inp c1 H p).1) (n + (lookFrom s inp c1 H p).2) T vh2 vt1) := (HC2.out.drewN nq).raise
            have HB3 : Hid (Below cb w (w2.drewN nq)) := _root_.Go.below_drewN HB2.out nq
            have HW3 : Hid (ImgRd (w2.drewN nq) B b g cap s) := HW2.out.drewN nq
            generalize w2.drewN nq = w3 at *
            clear HC2 HB2 HW2 q0 q1 q2 HLG
            have hbt3 := HC3.out.hbt
            have r5 := HC3.out.c5
            have x0 := HC3.out.c0
            have i0 := HW3.out.c0
            go_wp2_with (first | (at_builtin; refine wpList_app1 w3 rfl (.tmp 63) (.tmp 68) 38 rfl base 61 (.agg #[.int .i64 0, .int .i64 0, .int .i64 0]) 3 24 Try.underlying38 Try.infoToken rfl (by decide) (by decide) vt1 T.length (cells3 T) [.int .i64 (r : Int), .int .i64 (p : Int), .int .i64 (q : Int)] _ rfl HC3.out.rt _ rfl rfl rfl (by simp [Value.oneCell']) (by omega) (by omega) ?_; intro g4 cap4 w4 hown4 hgrow4 hat4 hlt4; have HC4 := HC3.out.tell (x := ((r : Int), (p : Int), (q : Int))) hown4 hgrow4 hat4 hlt4; have HC4 := hid_mk HC4; obtain ⟨kc4, kf4⟩ := (HC3.out.below ((Below.refl _ _).alloc HC3.out.hz _)).kept (fun k hk => (HC3.out.rt.lt k hk).1) hgrow4; have m5 := kc4 5 _ ((HC3.out.below ((Below.refl _ _).alloc HC3.out.hz _)).c5); have mf5 := kf4 5; have m2 := kc4 2 _ ((HC3.out.below ((Below.refl _ _).alloc HC3.out.hz _)).c2); have mf2 := kf4 2; have HB4 := hid_mk ((below_app HB3.out (by omega) HC3.out.rt (by omega) hgrow4).setCell (p := ⟨cb, 5, none⟩) (Nat.le_refl _) (.slice (some ⟨g4, 0, none⟩) (T.length + 1) cap4)); clear kc4 kf4 hown4 hgrow4 hat4 r5))
            go_roundw
            case rel =>
              refine ⟨q, c1, _, _, T ++ [((r : Int), (p : Int), (q : Int))], vh2, _, rfl, hq, hc1, ?_, ?_, ?_, HX.out, HC4.out.raise, HB4.out⟩
              · rw [List.length_append]; omega
              · omega
              · simp; omega
            case measure => simp [intOf]; omega
    · have HX : Hid (cutP s inp c = (T, n, c1)) := by
        unfold Hid; rw [HR.out]; exact runP_end hlt
      go_wp2
      go_end0
      rw [HX.out]
      exact ⟨rfl, HBL.out, hc1, _, _, _, HC.out⟩
end Go.Proofs.Ytgjgjgihceijnaa

/- stencilref.Scan, stencillaw.same: walks. -/
namespace Go.Stn
/-- What Scan answers: the tokens, the steps, the error. -/
def scanR (s inp : ByteArray) : List (Int × Int × Int) × Nat × Int :=
  if 120000 < s.size ∨ 300 < inp.size then ([], 0, 1) else if imgOk s = true then ((cutP s inp 0).1, (cutP s inp 0).2.1, 0) else ([], 0, 5)
/-- The same lists? -/
def sameB (a b : List (Int × Int × Int)) : Bool := decide (a = b)
end Go.Stn
namespace Go.Proofs.Ytgjgjgihceijnaa
open Go.RowKit Go.Stn

theorem ownsRow_base {w : World} {base base' : Nat} {e : TypeId} {size : Nat} {v : Value} {n : Nat} {xs : List Value} (h : w.ownsRow base e size v n xs) (hb : base' ≤ base) : w.ownsRow base' e size v n xs := by
  refine ⟨h.1, ?_⟩
  rcases h.2 with hn | ⟨g, cap, cur, hv, hbg, rest⟩
  · exact .inl hn
  · exact .inr ⟨g, cap, cur, hv, by omega, rest⟩

/-- A cut as it is made. -/
theorem CutAt.start (w : World) (ib : Nat) (inp : ByteArray) (c : Nat) :
    CutAt (w.alloc (.cells #[.pointer (some ⟨ib, 0, none⟩), .string inp, .int .i64 c, .slice none 0 0, .int .i64 0, .slice none 0 0] 104)) w.heap.size (w.heap.size + 1) (w.alloc (.cells #[.pointer (some ⟨ib, 0, none⟩), .string inp, .int .i64 c, .slice none 0 0, .int .i64 0, .slice none 0 0] 104)).heap.size ib inp c [] 0 [] (.slice none 0 0) (.slice none 0 0) := by
  have hc : ∀ i v, #[Value.pointer (some ⟨ib, 0, none⟩), .string inp, .int .i64 c, .slice none 0 0, .int .i64 0, .slice none 0 0][i]? = some v →
      (w.alloc (.cells #[.pointer (some ⟨ib, 0, none⟩), .string inp, .int .i64 c, .slice none 0 0, .int .i64 0, .slice none 0 0] 104)).cell? ⟨w.heap.size, i, none⟩ = some v := fun i v h => by
    rw [World.cell?_alloc_new]; exact h
  refine ⟨hc 0 _ rfl, hc 1 _ rfl, hc 2 _ rfl, hc 3 _ rfl, hc 4 _ rfl, hc 5 _ rfl, fun i => by rw [World.frozen?_alloc_new], World.ownsRow_nil _ _ _ _, World.ownsRow_nil _ _ _ _, by omega, Nat.le_refl _, by simp, fun k hk => by simp [Value.ownBlock] at hk, fun k hk => by simp [Value.ownBlock] at hk, .inl rfl⟩

set_option maxRecDepth 100000 in
set_option maxHeartbeats 1000000 in
theorem scan_any (s inp : ByteArray) (w : World) (hs : s.size ≤ maxLen) (hin : inp.size ≤ maxLen) :
    Calls Try.prog 25 #[.string s, .string inp] w fun e w' =>
      ∃ v, e = .returned (.tuple #[v, .int .i64 (scanR s inp).2.1, .int .i64 (scanR s inp).2.2]) ∧ w'.ownsRow w.heap.size 61 3 v (scanR s inp).1.length (cells3 (scanR s inp).1) ∧ Below w.heap.size w w' := by
  unfold maxLen at hs hin
  by_cases hl : 120000 < s.size ∨ 300 < inp.size
  · have hr : scanR s inp = ([], 0, 1) := by unfold scanR; rw [if_pos hl]
    rw [hr]
    clear hr
    by_cases hl1 : 120000 < s.size
    · clear hl
      go_enter Try.func25, Try.ntmps25
      go_wp2
      go_ret3
      exact ⟨_, rfl, World.ownsRow_nil _ _ _ _, Below.refl _ _⟩
    · have hl2 : 300 < inp.size := by omega
      clear hl
      go_enter Try.func25, Try.ntmps25
      go_wp2
      go_ret3
      exact ⟨_, rfl, World.ownsRow_nil _ _ _ _, Below.refl _ _⟩
  · have hl1 : s.size ≤ 120000 := by omega
    have hl2 : inp.size ≤ 300 := by omega
    cases hi : imgOk s with
    | false =>
      have hr : scanR s inp = ([], 0, 5) := by unfold scanR; rw [if_neg hl, if_neg (by rw [hi]; decide)]
      rw [hr]
      clear hr hl
      go_enter Try.func25, Try.ntmps25
      go_wp2_with (go_at_call 47; refine (parse_any s _ hl1).mono ?_; rintro e w1 ⟨v, rfl, hb, _⟩)
      go_ret3
      exact ⟨_, rfl, World.ownsRow_nil _ _ _ _, hb⟩
    | true =>
      have hr : scanR s inp = ((cutP s inp 0).1, (cutP s inp 0).2.1, 0) := by unfold scanR; rw [if_neg hl, if_pos hi]
      rw [hr]
      clear hr hl
      have hm := (img_head hi).2.2.1
      go_enter Try.func25, Try.ntmps25
      go_wp2_with fail
      refine (parse_any s _ hl1).mono ?_
      rintro e w1 ⟨v, rfl, hb, himg⟩
      obtain ⟨rfl, va, vs, himg⟩ := himg hi
      obtain ⟨g, cap, hrd⟩ := himg.rd hm
      have HB1 := hid_mk hb
      clear himg hb
      rw [hi]
      go_wp2_with fail
      have hcut := CutAt.start w1 w.heap.size inp 0
      have hrd2 := hrd.below ((Below.refl w1.heap.size w1).alloc (Nat.le_refl _) (.cells #[.pointer (some ⟨w.heap.size, 0, none⟩), .string inp, .int .i64 0, .slice none 0 0, .int .i64 0, .slice none 0 0] 104)) (Nat.le_refl _)
      refine (run_any s inp w1.heap.size w.heap.size g cap 0 w1.heap.size (w1.heap.size + 1) (.slice none 0 0) (.slice none 0 0) _ hi hl1 hl2 (by omega) hrd2 (Nat.le_refl _) hcut).mono ?_
      rintro e w2 ⟨rfl, hb2, _, H, vh, vt, hcut2⟩
      have k4 := hcut2.c4
      have k5 := hcut2.c5
      have HC2 := hid_mk hcut2
      have hsz := HB1.out.size
      clear hcut hrd hrd2 hcut2
      go_wp2_with fail
      go_quiet (fail)
      go_wp2
      go_ret3
      refine ⟨vt, rfl, ownsRow_base HC2.out.rt (by omega), _root_.Go.below_drewN ?_ _⟩
      have h1 := (HB1.out.alloc hsz (.cells #[.pointer (some ⟨w.heap.size, 0, none⟩), .string inp, .int .i64 0, .slice none 0 0, .int .i64 0, .slice none 0 0] 104))
      exact h1.trans (hb2.mono hsz)
end Go.Proofs.Ytgjgjgihceijnaa

/- stencil.Scan: a walk. -/
namespace Go.Proofs.Ytgjgjgihceijnaa
open Go.RowKit Go.Stn

set_option maxRecDepth 100000 in
set_option maxHeartbeats 1000000 in
theorem pscan_any (s inp : ByteArray) (w : World) (_hs : s.size ≤ maxLen) (_hin : inp.size ≤ maxLen) :
    Calls Try.prog 24 #[.string s, .string inp] w fun e w' =>
      ∃ v, e = .returned (.tuple #[v, .int .i64 (scanR s inp).2.1, .int .i64 (scanR s inp).2.2]) ∧ Row3 w' w'.heap.size v (scanR s inp).1 ∧ Below w.heap.size w w' := by
  by_cases hl : 300 < inp.size
  · have hr : scanR s inp = ([], 0, 1) := by unfold scanR; rw [if_pos (.inr hl)]
    rw [hr]
    clear hr
    have hd : decide ((300 : Int) < (inp.size : Int)) = true := by simp; omega
    go_enter Try.func24, Try.ntmps24
    go_wp2
    go_ret3
    exact ⟨_, rfl, ownsRow_row3 (World.ownsRow_nil w w.heap.size 61 3), Below.refl _ _⟩
  · have hd : decide ((300 : Int) < (inp.size : Int)) = false := by simp; omega
    by_cases hok : s.size ≤ 120000 ∧ imgOk s = true
    · have hr : scanR s inp = ((cutP s inp 0).1, (cutP s inp 0).2.1, 0) := by unfold scanR; rw [if_neg (by omega), if_pos hok.2]
      rw [hr]
      clear hr
      go_enter Try.func24, Try.ntmps24
      go_wp2_with fail
      refine (lread_any s _).mono ?_
      rintro e w1 ⟨hb1, ⟨hno, _⟩ | ⟨_, hi, bb, vc, ys, rfl, hn, ho, hm, hc, hk⟩⟩
      · exact absurd hok hno
      obtain ⟨vg, cap, yb, zb, rfl, him, _⟩ := read_mem hi hn ho hm hc hk
      have hlen := imgC_len (.slice (some ⟨bb, 0, none⟩) (lRules s) (lRules s)) (lClassOf s) (.slice (some ⟨vg, 0, none⟩) (iM s) cap) (by unfold lClassOf; rw [numsP_len]; rfl)
      have hone := imgC_one (vb := .slice (some ⟨bb, 0, none⟩) (lRules s) (lRules s)) (vc := .slice (some ⟨vg, 0, none⟩) (iM s) cap) (cs := lClassOf s) rfl rfl
      obtain ⟨IL, EIL⟩ : ∃ l, imgC (.slice (some ⟨bb, 0, none⟩) (lRules s) (lRules s)) (lClassOf s) (.slice (some ⟨vg, 0, none⟩) (iM s) cap) = l := ⟨_, rfl⟩
      rw [EIL] at hlen hone ⊢
      have HTL : Hid (IL.toArray.toList = IL) := by unfold Hid; simp
      have HSZ : Hid (IL.toArray.size = 258) := by unfold Hid; simpa using hlen
      have HALL : Hid (IL.toArray.all (·.oneCell') = true) := all_oneCell_toArray hone
      obtain ⟨A, EA⟩ : ∃ a, IL.toArray = a := ⟨_, rfl⟩
      rw [EA] at HTL HSZ HALL ⊢
      have HA : Hid (A.toList = imgC (.slice (some ⟨bb, 0, none⟩) (iR s) (iR s)) (lClassOf s) (.slice (some ⟨vg, 0, none⟩) (iM s) cap)) := by
        unfold Hid; rw [HTL.out, ← EIL, (img_read hi).ru]
      have HIM := hidZ him
      have HI := hidZ hi
      have HB1 := hidZ hb1
      have HN2 := hidZ (there_newA w1 Try.zeroCells75 75 w1.heap.size 258 Try.imgZero rfl)
      have HBS : Hid (Below w1.heap.size w1 ((w1.alloc (.cells Try.zeroCells75 75)).setCells w1.heap.size 0 A.toList)) := below_setCells _ 0 _ w1.heap.size ((Below.refl _ _).alloc (Nat.le_refl _) _) (Nat.le_refl _)
      have HRI : Hid (((w1.alloc (.cells Try.zeroCells75 75)).setCells w1.heap.size 0 A.toList).rangeAt w1.heap.size 0 A.toList) := World.rangeAt_setCells_same _ _ _ _ (by rw [Array.length_toList, HSZ.out]; exact HN2.out)
      clear EIL hlen hone EA HTL him hi hb1 hn ho hm hc hk hok
      have HIM2 : Hid (IM ((w1.alloc (.cells Try.zeroCells75 75)).setCells w1.heap.size 0 A.toList) s bb vg yb zb ((w1.alloc (.cells Try.zeroCells75 75)).setCells w1.heap.size 0 A.toList).heap.size) := (HIM.out.below HBS.out (Nat.le_refl _)).mono HBS.out.size
      have HB2 : Hid (Below w.heap.size w ((w1.alloc (.cells Try.zeroCells75 75)).setCells w1.heap.size 0 A.toList)) := HB1.out.trans (HBS.out.mono HB1.out.size)
      generalize hW2 : (w1.alloc (.cells Try.zeroCells75 75)).setCells w1.heap.size 0 A.toList = w2 at *
      replace hW2 := hidZ hW2
      clear HIM HB1 HBS
      go_wp2_with (first
        | (refine wpList_store_mid rfl 75 (.tmp 7) (.tmp 18) rfl w1.heap.size 0 A rfl rfl ?_ ?_ HALL.out ?_; (rw [HSZ.out]; exact HN2.out); (rw [HSZ.out]; exact Try.imgSize); rw [hW2.out])
        | (refine wpList_load_mid rfl 75 (.tmp 7) rfl w1.heap.size 0 rfl A.toList _ HRI.out Try.underlying75 rfl ?_ ?_; (rw [Array.length_toList, HSZ.out]; exact Try.imgSize))
        | fail)
      refine (ccut_any s inp 0 bb vg cap yb zb A w2 HI.out (by omega) (img_head HI.out).2.2.1 HA.out HIM2.out).mono ?_
      rintro e w3 ⟨vt, rfl, hrt, hb3⟩
      have HR3 := hidZ hrt
      have HB3 := hidZ (HB2.out.trans (hb3.mono HB2.out.size))
      clear hrt hb3
      go_wp2
      go_ret3
      exact ⟨vt, rfl, ownsRow_row3 HR3.out, HB3.out⟩
    · have hr : scanR s inp = ([], 0, chk s) := by
        unfold scanR chk
        by_cases h1 : 120000 < s.size
        · rw [if_pos (.inl h1), if_pos h1]
        · have h2 : ¬ imgOk s = true := fun h => hok ⟨by omega, h⟩
          rw [if_neg (by omega), if_neg h2, if_neg h1, if_neg h2]
      have hne : ((chk s : Int) != 0) = true := by
        rw [bne_iff_ne]
        unfold chk
        by_cases h1 : 120000 < s.size
        · rw [if_pos h1]; decide
        · have h2 : ¬ imgOk s = true := fun h => hok ⟨by omega, h⟩
          rw [if_neg h1, if_neg h2]; decide
      rw [hr]
      clear hr
      go_enter Try.func24, Try.ntmps24
      go_wp2_with fail
      refine (lread_any s _).mono ?_
      rintro e w1 ⟨hb1, ⟨_, rfl⟩ | ⟨h1, h2, _⟩⟩
      · have HB1 := hidZ hb1
        have HN2 := hidZ (there_newA w1 Try.zeroCells75 75 w1.heap.size 258 Try.imgZero rfl)
        have HBS : Hid (Below w1.heap.size w1 ((w1.alloc (.cells Try.zeroCells75 75)).setCells w1.heap.size 0 Try.zeroCells75.toList)) := below_setCells _ 0 _ w1.heap.size ((Below.refl _ _).alloc (Nat.le_refl _) _) (Nat.le_refl _)
        clear hb1 hok
        obtain ⟨ck, hck⟩ : ∃ ck, chk s = ck := ⟨_, rfl⟩
        rw [hck] at hne ⊢
        replace hck := hidZ hck
        go_wp2_with (first
          | (refine wpList_store_mid rfl 75 (.tmp 7) (.tmp 18) rfl w1.heap.size 0 Try.zeroCells75 rfl rfl ?_ ?_ Try.imgZeroOne ?_; (rw [Try.imgZero]; exact HN2.out); (rw [Try.imgZero]; exact Try.imgSize))
          | fail)
        go_ret3
        exact ⟨_, by rw [hck.out]; rfl, ownsRow_row3 (World.ownsRow_nil _ 0 61 3), HB1.out.trans (HBS.out.mono HB1.out.size)⟩
      · exact absurd ⟨h1, h2⟩ hok
end Go.Proofs.Ytgjgjgihceijnaa

/- The document's first example, by the twins. -/
namespace Go.Proofs.Ytgjgjgihceijnaa
open Go.RowKit Go.Stn

def exT : ByteArray := ⟨#[65, 32, 97, 32, 46]⟩
def exIn : ByteArray := ⟨#[97, 97, 98]⟩
def exL : List UInt8 := [83, 84, 1, 1, 0, 1, 1] ++ (List.replicate 97 0 ++ (1 :: List.replicate 158 0)) ++ [2, 0, 255, 1, 1, 255, 255]
def exI : ByteArray := ⟨exL.toArray⟩

theorem ex_parse : parseC exT = 0 := by kernel_rfl
theorem ex_comp : compP exT = (exL, 0) := by kernel_rfl
end Go.Proofs.Ytgjgjgihceijnaa

/- stencillaw.same: a walk. -/
namespace Go.Proofs.Ytgjgjgihceijnaa
open Go.RowKit Go.Stn

theorem sameB_len {a b : List (Int × Int × Int)} (h : a.length ≠ b.length) : sameB a b = false := by
  unfold sameB; simp; intro e; exact h (by rw [e])
theorem sameB_yes {a b : List (Int × Int × Int)} (h : a.length = b.length) (he : ∀ k, k < a.length → a[k]? = b[k]?) : sameB a b = true := by
  unfold sameB; simp
  apply List.ext_getElem?
  intro k
  by_cases hk : k < a.length
  · exact he k hk
  · rw [List.getElem?_eq_none (by omega), List.getElem?_eq_none (by omega)]
theorem sameB_no {a b : List (Int × Int × Int)} {k : Nat} (he : a[k]? ≠ b[k]?) : sameB a b = false := by
  unfold sameB; simp; intro e; exact he (by rw [e])

set_option maxRecDepth 100000 in
set_option maxHeartbeats 1000000 in
theorem same_row (a b : List (Int × Int × Int)) (ga ca gb cb : Nat) (w : World) (ha : a.length ≤ 1000000) (_hb : b.length ≤ 1000000)
    (hac : ∀ k x, a[k]? = some x → w.cell? ⟨ga, k * 3, none⟩ = some (.int .i64 x.1) ∧ w.cell? ⟨ga, k * 3 + 1, none⟩ = some (.int .i64 x.2.1) ∧ w.cell? ⟨ga, k * 3 + 2, none⟩ = some (.int .i64 x.2.2))
    (hbc : ∀ k x, b[k]? = some x → w.cell? ⟨gb, k * 3, none⟩ = some (.int .i64 x.1) ∧ w.cell? ⟨gb, k * 3 + 1, none⟩ = some (.int .i64 x.2.1) ∧ w.cell? ⟨gb, k * 3 + 2, none⟩ = some (.int .i64 x.2.2)) :
    Calls Try.prog 27 #[.slice (some ⟨ga, 0, none⟩) a.length ca, .slice (some ⟨gb, 0, none⟩) b.length cb] w fun e w' => e = .returned (.bool (sameB a b)) ∧ ∃ q, w' = w.drewN q := by
  have HA := hid_mk hac
  have HB := hid_mk hbc
  clear hac hbc
  by_cases hlen : a.length = b.length
  · have hne : ((a.length : Int) != (b.length : Int)) = false := by rw [hlen]; simp
    go_enter Try.func27, Try.ntmps27
    have HLN := hid_mk hlen
    clear hlen
    go_wp2_with fail
    go_loopw [5] (fun i w' => ∃ k q : Nat, k ≤ a.length ∧ i = .int .i64 (k : Int) ∧ w' = w.drewN q ∧ ∀ j, j < k → a[j]? = b[j]?) (fun i _ => a.length - (intOf i).toNat)
    case atStart => exact ⟨0, 0, Nat.zero_le _, rfl, rfl, fun j h => absurd h (Nat.not_lt_zero _)⟩
    case round =>
      obtain ⟨k, q, hk, rfl, rfl, hall⟩ := hrel
      have HALL := hid_mk hall
      clear hall
      by_cases hlt : k < a.length
      · have hlt' : k < b.length := by have := HLN.out; omega
        obtain ⟨⟨x, y, z⟩, hx⟩ : ∃ u, a[k]? = some u := ⟨_, List.getElem?_eq_getElem hlt⟩
        obtain ⟨⟨x', y', z'⟩, hx'⟩ : ∃ u, b[k]? = some u := ⟨_, List.getElem?_eq_getElem hlt'⟩
        obtain ⟨k0, k1, k2⟩ := HA.out k _ hx
        obtain ⟨m0, m1, m2⟩ := HB.out k _ hx'
        have HX := hid_mk hx
        have HX' := hid_mk hx'
        clear hx hx'
        simp only at k0 k1 k2 m0 m1 m2
        have hkI : (0 : Int) ≤ (k : Int) ∧ (k : Int) < (a.length : Int) := by omega
        have hkI' : (0 : Int) ≤ (k : Int) ∧ (k : Int) < (b.length : Int) := by omega
        have key : ((x == x') = true ∧ (y == y') = true ∧ (z == z') = true) ∨ (((x == x') = false) ∨ ((x == x') = true ∧ (y == y') = false) ∨ ((x == x') = true ∧ (y == y') = true ∧ (z == z') = false)) := by
          cases (x == x') <;> cases (y == y') <;> cases (z == z') <;> simp
        rcases key with ⟨e1, e2, e3⟩ | key
        · have HE : Hid (a[k]? = b[k]?) := by
            unfold Hid
            rw [HX.out, HX'.out, beq_iff_eq.1 e1, beq_iff_eq.1 e2, beq_iff_eq.1 e3]
          go_wp2
          go_quiet (fail)
          go_wp2
          go_roundw
          case rel =>
            refine ⟨k + 1, _, hlt, by go_num, rfl, fun j hj => ?_⟩
            by_cases ej : j = k
            · rw [ej]; exact HE.out
            · exact HALL.out j (by omega)
          case measure => simp [intOf]; omega
        · have HN : Hid (sameB a b = false) := by
            refine sameB_no (k := k) ?_
            rw [HX.out, HX'.out]
            intro h
            injection h with h
            injection h with h1 h2
            injection h2 with h2 h3
            subst h1 h2 h3
            simp at key
          rcases key with e1 | ⟨e1, e2⟩ | ⟨e1, e2, e3⟩
          all_goals
            go_wp2
            go_quiet (fail)
            go_wp2
            go_ret
            exact ⟨by rw [HN.out]; rfl, q + nq, by first | rfl | simp⟩
      · have HY : Hid (sameB a b = true) := sameB_yes HLN.out (fun j hj => HALL.out j (by omega))
        go_wp2
        go_ret
        exact ⟨by rw [HY.out]; rfl, q, rfl⟩
  · have hne : ((a.length : Int) != (b.length : Int)) = true := by rw [bne_iff_ne]; omega
    have HN : Hid (sameB a b = false) := sameB_len hlen
    clear hlen
    go_enter Try.func27, Try.ntmps27
    go_wp2
    go_ret
    exact ⟨by rw [HN.out]; rfl, 0, rfl⟩

/-- The same of an empty list and whatever. -/
theorem same_nil (va vb : Option Addr) (n m ca cb : Nat) (w : World) (h : n = 0 ∨ m = 0) (hn : n ≤ 1000000) (hm : m ≤ 1000000) :
    Calls Try.prog 27 #[.slice va n ca, .slice vb m cb] w fun e w' => e = .returned (.bool (decide (n = m))) ∧ ∃ q, w' = w.drewN q := by
  by_cases e : n = m
  · have e0 : n = 0 := by omega
    subst e
    subst e0
    go_enter Try.func27, Try.ntmps27
    go_wp2_with fail
    go_loop [5] (fun i => i = .int .i64 0) (fun _ => 0)
    case atStart => rfl
    case round =>
      subst hrel
      go_wp2
      go_ret
      exact ⟨rfl, 0, rfl⟩
  · have hne : ((n : Int) != (m : Int)) = true := by rw [bne_iff_ne]; omega
    have hd : decide (n = m) = false := by simp [e]
    rw [hd]
    clear hd e h
    go_enter Try.func27, Try.ntmps27
    go_wp2
    go_ret
    exact ⟨rfl, 0, rfl⟩

theorem same_any (a b : List (Int × Int × Int)) (va vb : Value) (B B' : Nat) (w : World) (ha : a.length ≤ 1000000) (hb : b.length ≤ 1000000) (ra : Row3 w B va a) (rb : Row3 w B' vb b) :
    Calls Try.prog 27 #[va, vb] w fun e w' => e = .returned (.bool (sameB a b)) ∧ ∃ q, w' = w.drewN q := by
  rcases ra.sh with ⟨rfl, rfl⟩ | ⟨ga, ca, rfl, _, _, _, hca⟩
  · rcases rb.sh with ⟨rfl, rfl⟩ | ⟨gb, cb, rfl, _, _, _, hcb⟩
    · exact same_nil none none 0 0 0 0 w (.inl rfl) (by omega) (by omega)
    · have e : sameB [] b = decide (0 = b.length) := by
        unfold sameB; rw [Bool.eq_iff_iff]; simp
        constructor
        · intro h; rw [h]; rfl
        · intro h; exact List.eq_nil_of_length_eq_zero h.symm
      rw [e]
      exact same_nil none _ 0 b.length 0 cb w (.inl rfl) (by omega) hb
  · rcases rb.sh with ⟨rfl, rfl⟩ | ⟨gb, cb, rfl, _, _, _, hcb⟩
    · have e : sameB a [] = decide (a.length = 0) := by
        unfold sameB; rw [Bool.eq_iff_iff]; simp
      rw [e]
      exact same_nil _ none a.length 0 ca 0 w (.inr rfl) ha (by omega)
    · exact same_row a b ga ca gb cb w ha hb hca hcb
end Go.Proofs.Ytgjgjgihceijnaa

/- stencilkeep.example: a walk. -/
namespace Go.Proofs.Ytgjgjgihceijnaa
open Go.RowKit Go.Stn

theorem ex_nodes : (parsedP exT).nodes = [(0, 0, 0)] := by kernel_rfl
theorem ex_rules : (parsedP exT).rules.map (·.2) = [(0, 0)] := by kernel_rfl
theorem ex_places : (parsedP exT).places.length = 1 := by kernel_rfl
theorem ex_groups : (grpP (parsedP exT).places).2 = [0, 1] := by kernel_rfl
theorem ex_all : allL (fileSt (parsedP exT).nodes (parsedP exT).rules (grpP (parsedP exT).places).2) (fileConds (parsedP exT).rules 1) 0 [] = some [[(0, [-1, 1]), (1, [-1, -1])]] := by kernel_rfl
theorem ex_scan : scanR exI exIn = ([(0, 0, 1), (0, 1, 2), (-1, 2, 2)], 5, 0) := by kernel_rfl

theorem ex_file : FileOk (parsedP exT) := by
  have hr : ∀ x ∈ (parsedP exT).rules, x.2 = (0, 0) := fun x hx => by
    have := List.mem_map_of_mem (f := fun (y : (Nat → Bool) × Int × Int) => y.2) hx
    rw [ex_rules] at this
    simpa using this
  have hl : (parsedP exT).rules.length = 1 := by have := congrArg List.length ex_rules; simpa using this
  obtain ⟨g0, g1, g2⟩ := grpP_facts (parsedP exT).places
  refine ⟨by rw [ex_nodes]; decide, by rw [ex_nodes]; decide, ?_, by omega, by omega, fun x hx => ?_, fun x hx => ?_, by rw [ex_places]; decide, by rw [ex_places]; decide, g0, g1, g2⟩
  · rw [ex_nodes]
    intro k x hx
    cases k with
    | zero => simp at hx; subst hx; decide
    | succ j => simp at hx
  · rw [hr x hx, ex_nodes]; decide
  · rw [hr x hx]; decide

theorem ex_conds : ∀ ls, allL (fileSt (parsedP exT).nodes (parsedP exT).rules (grpP (parsedP exT).places).2) (fileConds (parsedP exT).rules 1) 0 [] = some ls → CondsOk (grpP (parsedP exT).places).2.length ls := by
  intro ls h
  rw [ex_all] at h
  injection h with h
  subst h
  rw [ex_groups]
  refine ⟨by decide, by decide, ?_, ?_, ?_⟩
  · intro l hl z hz
    rw [List.mem_singleton] at hl
    subst hl
    simp only [List.mem_cons, List.not_mem_nil, or_false] at hz
    rcases hz with rfl | rfl <;> decide
  · intro l hl z hz
    rw [List.mem_singleton] at hl
    subst hl
    simp only [List.mem_cons, List.not_mem_nil, or_false] at hz
    rcases hz with rfl | rfl <;> decide
  · intro l hl z hz
    rw [List.mem_singleton] at hl
    subst hl
    simp only [List.mem_cons, List.not_mem_nil, or_false] at hz
    rcases hz with rfl | rfl <;> decide

theorem ex_img : (⟨(compP exT).1.toArray⟩ : ByteArray) = exI := by rw [ex_comp]; rfl
theorem ex_size : exI.size = 270 := by decide +kernel

set_option maxRecDepth 100000 in
set_option maxHeartbeats 1000000 in
theorem kex_any (w : World) : Calls Try.prog 16 #[] w fun e w' => e = .returned (.bool true) ∧ Below w.heap.size w w' := by
  have hc := fun w => pcomp_any exT w (fun _ => ex_file) (fun _ => ex_conds)
  rw [ex_img] at hc
  rw [show (compP exT).2 = 0 by rw [ex_comp]] at hc
  have hsc := fun w => pscan_any exI exIn w (by rw [ex_size]; unfold maxLen; decide) (by unfold maxLen; decide)
  rw [ex_scan] at hsc
  have hsz := ex_size
  unfold exT at hc
  unfold exIn at hsc
  generalize exI = I at *
  go_enter Try.func16, Try.ntmps16
  go_wp2_with fail
  refine (hc _).mono ?_
  rintro e w1 ⟨rfl, hb1⟩
  have HB1 := hidZ hb1
  clear hb1
  go_wp2_with fail
  refine (hsc _).mono ?_
  rintro e w2 ⟨v, rfl, hr, hb2⟩
  have HB2 := hidZ (HB1.out.trans (hb2.mono HB1.out.size))
  rcases hr.sh with ⟨_, h0⟩ | ⟨g, cap, rfl, _, _, _, hcs⟩
  · cases h0
  obtain ⟨a0, a1, a2⟩ := hcs 0 _ rfl
  obtain ⟨b0, b1, b2⟩ := hcs 2 _ rfl
  simp only at a0 a1 a2 b0 b1 b2
  clear hr hb2 hcs hc hsc HB1
  simp only [List.length_cons, List.length_nil, Nat.zero_add, Nat.reduceAdd, Nat.zero_mul, Nat.reduceMul] at *
  go_wp2
  go_ret
  exact ⟨rfl, HB2.out⟩
end Go.Proofs.Ytgjgjgihceijnaa

