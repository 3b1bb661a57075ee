/- stencilref.Scan, stencillaw.same: walks. -/
import Derived.Test.YtgjgjgihceijnaaScRun
namespace Go.Stn
/-- What Scan answers: the tokens, the steps, the error. -/
def scanR (s inp : ByteArray) : List (Int × Int × Int) × Nat × Int :=
  if 120000 < s.size ∨ 300 < inp.size then ([], 0, 1) else if imgOk s = true then ((cutP s inp 0).1, (cutP s inp 0).2.1, 0) else ([], 0, 5)
/-- The same lists? -/
def sameB (a b : List (Int × Int × Int)) : Bool := decide (a = b)
end Go.Stn
namespace Go.Proofs.Ytgjgjgihceijnaa
open Go.RowKit Go.Stn

theorem ownsRow_base {w : World} {base base' : Nat} {e : TypeId} {size : Nat} {v : Value} {n : Nat} {xs : List Value} (h : w.ownsRow base e size v n xs) (hb : base' ≤ base) : w.ownsRow base' e size v n xs := by
  refine ⟨h.1, ?_⟩
  rcases h.2 with hn | ⟨g, cap, cur, hv, hbg, rest⟩
  · exact .inl hn
  · exact .inr ⟨g, cap, cur, hv, by omega, rest⟩

/-- A cut as it is made. -/
theorem CutAt.start (w : World) (ib : Nat) (inp : ByteArray) (c : Nat) :
    CutAt (w.alloc (.cells #[.pointer (some ⟨ib, 0, none⟩), .string inp, .int .i64 c, .slice none 0 0, .int .i64 0, .slice none 0 0] 104)) w.heap.size (w.heap.size + 1) (w.alloc (.cells #[.pointer (some ⟨ib, 0, none⟩), .string inp, .int .i64 c, .slice none 0 0, .int .i64 0, .slice none 0 0] 104)).heap.size ib inp c [] 0 [] (.slice none 0 0) (.slice none 0 0) := by
  have hc : ∀ i v, #[Value.pointer (some ⟨ib, 0, none⟩), .string inp, .int .i64 c, .slice none 0 0, .int .i64 0, .slice none 0 0][i]? = some v →
      (w.alloc (.cells #[.pointer (some ⟨ib, 0, none⟩), .string inp, .int .i64 c, .slice none 0 0, .int .i64 0, .slice none 0 0] 104)).cell? ⟨w.heap.size, i, none⟩ = some v := fun i v h => by
    rw [World.cell?_alloc_new]; exact h
  refine ⟨hc 0 _ rfl, hc 1 _ rfl, hc 2 _ rfl, hc 3 _ rfl, hc 4 _ rfl, hc 5 _ rfl, fun i => by rw [World.frozen?_alloc_new], World.ownsRow_nil _ _ _ _, World.ownsRow_nil _ _ _ _, by omega, Nat.le_refl _, by simp, fun k hk => by simp [Value.ownBlock] at hk, fun k hk => by simp [Value.ownBlock] at hk, .inl rfl⟩

set_option maxRecDepth 100000 in
set_option maxHeartbeats 1000000 in
theorem scan_any (s inp : ByteArray) (w : World) (hs : s.size ≤ maxLen) (hin : inp.size ≤ maxLen) :
    Calls Try.prog 25 #[.string s, .string inp] w fun e w' =>
      ∃ v, e = .returned (.tuple #[v, .int .i64 (scanR s inp).2.1, .int .i64 (scanR s inp).2.2]) ∧ w'.ownsRow w.heap.size 61 3 v (scanR s inp).1.length (cells3 (scanR s inp).1) ∧ Below w.heap.size w w' := by
  unfold maxLen at hs hin
  by_cases hl : 120000 < s.size ∨ 300 < inp.size
  · have hr : scanR s inp = ([], 0, 1) := by unfold scanR; rw [if_pos hl]
    rw [hr]
    clear hr
    by_cases hl1 : 120000 < s.size
    · clear hl
      go_enter Try.func25, Try.ntmps25
      go_wp2
      go_ret3
      exact ⟨_, rfl, World.ownsRow_nil _ _ _ _, Below.refl _ _⟩
    · have hl2 : 300 < inp.size := by omega
      clear hl
      go_enter Try.func25, Try.ntmps25
      go_wp2
      go_ret3
      exact ⟨_, rfl, World.ownsRow_nil _ _ _ _, Below.refl _ _⟩
  · have hl1 : s.size ≤ 120000 := by omega
    have hl2 : inp.size ≤ 300 := by omega
    cases hi : imgOk s with
    | false =>
      have hr : scanR s inp = ([], 0, 5) := by unfold scanR; rw [if_neg hl, if_neg (by rw [hi]; decide)]
      rw [hr]
      clear hr hl
      go_enter Try.func25, Try.ntmps25
      go_wp2_with (go_at_call 47; refine (parse_any s _ hl1).mono ?_; rintro e w1 ⟨v, rfl, hb, _⟩)
      go_ret3
      exact ⟨_, rfl, World.ownsRow_nil _ _ _ _, hb⟩
    | true =>
      have hr : scanR s inp = ((cutP s inp 0).1, (cutP s inp 0).2.1, 0) := by unfold scanR; rw [if_neg hl, if_pos hi]
      rw [hr]
      clear hr hl
      have hm := (img_head hi).2.2.1
      go_enter Try.func25, Try.ntmps25
      go_wp2_with fail
      refine (parse_any s _ hl1).mono ?_
      rintro e w1 ⟨v, rfl, hb, himg⟩
      obtain ⟨rfl, va, vs, himg⟩ := himg hi
      obtain ⟨g, cap, hrd⟩ := himg.rd hm
      have HB1 := hid_mk hb
      clear himg hb
      rw [hi]
      go_wp2_with fail
      have hcut := CutAt.start w1 w.heap.size inp 0
      have hrd2 := hrd.below ((Below.refl w1.heap.size w1).alloc (Nat.le_refl _) (.cells #[.pointer (some ⟨w.heap.size, 0, none⟩), .string inp, .int .i64 0, .slice none 0 0, .int .i64 0, .slice none 0 0] 104)) (Nat.le_refl _)
      refine (run_any s inp w1.heap.size w.heap.size g cap 0 w1.heap.size (w1.heap.size + 1) (.slice none 0 0) (.slice none 0 0) _ hi hl1 hl2 (by omega) hrd2 (Nat.le_refl _) hcut).mono ?_
      rintro e w2 ⟨rfl, hb2, _, H, vh, vt, hcut2⟩
      have k4 := hcut2.c4
      have k5 := hcut2.c5
      have HC2 := hid_mk hcut2
      have hsz := HB1.out.size
      clear hcut hrd hrd2 hcut2
      go_wp2_with fail
      go_quiet (fail)
      go_wp2
      go_ret3
      refine ⟨vt, rfl, ownsRow_base HC2.out.rt (by omega), below_drewN ?_ _⟩
      have h1 := (HB1.out.alloc hsz (.cells #[.pointer (some ⟨w.heap.size, 0, none⟩), .string inp, .int .i64 0, .slice none 0 0, .int .i64 0, .slice none 0 0] 104))
      exact h1.trans (hb2.mono hsz)
end Go.Proofs.Ytgjgjgihceijnaa
