/- (*stencilref.Image).lead, mark: walks. -/
import Derived.Test.YtgjgjgihceijnaaCkParse3
import Derived.Test.YtgjgjgihceijnaaScPure
namespace Go.Proofs.Ytgjgjgihceijnaa
open Go.RowKit Go.Stn

/-- An image that is only read. -/
structure ImgRd (w : World) (B b g cap : Nat) (s : ByteArray) : Prop where
  c0 : w.cell? ⟨b, 0, none⟩ = some (.string s)
  c3 : w.cell? ⟨b, 3, none⟩ = some (.int .i64 ((6 + iR s : Nat) : Int))
  c4 : w.cell? ⟨b, 4, none⟩ = some (.int .i64 (iK s))
  c5 : w.cell? ⟨b, 5, none⟩ = some (.slice (some ⟨g, 0, none⟩) (iM s) cap)
  at_ : ∀ i, i < iM s → w.cell? ⟨g, i, none⟩ = some (.int .i64 ((iAt s i + 1 : Nat) : Int))
  hb : b < B
  hg : g < B

theorem ImgRd.below {w w' : World} {B B' b g cap : Nat} {s : ByteArray} (h : ImgRd w B b g cap s) (hB : Below B' w w') (hle : B ≤ B') : ImgRd w' B b g cap s := by
  have hb := h.hb
  have hg := h.hg
  exact ⟨(hB.cell (p := ⟨b, 0, none⟩) (by show b < B'; omega)).trans h.c0, (hB.cell (p := ⟨b, 3, none⟩) (by show b < B'; omega)).trans h.c3, (hB.cell (p := ⟨b, 4, none⟩) (by show b < B'; omega)).trans h.c4,
    (hB.cell (p := ⟨b, 5, none⟩) (by show b < B'; omega)).trans h.c5, fun i hi => (hB.cell (p := ⟨g, i, none⟩) (by show g < B'; omega)).trans (h.at_ i hi), hb, hg⟩

theorem ImgRd.drewN {w : World} {B b g cap : Nat} {s : ByteArray} (h : ImgRd w B b g cap s) (q : Nat) : ImgRd (w.drewN q) B b g cap s :=
  ⟨h.c0, h.c3, h.c4, h.c5, h.at_, h.hb, h.hg⟩

/-- What Parse laid can be read. -/
theorem ImgAt.rd {w : World} {b base : Nat} {s : ByteArray} {va vs : Value} (h : ImgAt w b base s (iM s) (iM s) va vs) (hm : 1 ≤ iM s) : ∃ g cap, ImgRd w w.heap.size b g cap s := by
  obtain ⟨g, cap, rfl, hbg, hgz⟩ := h.ra.form (by omega)
  have hb := h.hb
  refine ⟨g, cap, h.c0, h.c3, h.c4, h.c5, fun i hi => ?_, by omega, hgz⟩
  have := h.ra.cells (g := g) rfl i (.int .i64 ((iAt s i + 1 : Nat) : Int)) (by unfold atRow; rw [List.getElem?_map, List.getElem?_range hi]; rfl)
  have hadd : (⟨g, 0, none⟩ : Addr).add i = ⟨g, i, none⟩ := by unfold Addr.add; split <;> simp_all
  rw [hadd] at this
  exact this

/-- Where a byte leads, as lead answers. -/
def leadZ (s : ByteArray) (c st v : Nat) : Int := if leadN s c st v = 255 then -1 else leadN s c st v

set_option maxRecDepth 100000 in
set_option maxHeartbeats 1000000 in
theorem mark_any (s : ByteArray) (B b g cap c st : Nat) (w : World) (hi : imgOk s = true) (hs : s.size ≤ 120000) (hc : c < iM s) (hst : st < nSt s c) (hw : ImgRd w B b g cap s) :
    Calls Try.prog 100 #[.pointer (some ⟨b, 0, none⟩), .int .i64 c, .int .i64 st] w fun e w' => e = .returned (.int .i64 (markN s c st)) ∧ ∃ q, w' = w.drewN q := by
  obtain ⟨k0, k3, k4, k5, kat, _, _⟩ := hw
  have kc := kat c hc
  clear kat
  have hrow := row_in hi hc hst
  have hrI := rwAt_int s c st
  have hAt : iAt s c ≤ 120000 := by unfold rwAt at hrow; omega
  have hK := iK_le s
  have hn := nSt_le hi hc
  have hmul := mul_small (a := st) (b := 1 + iK s) (by omega) (by omega)
  have hmI : (0 : Int) ≤ (st : Int) * (1 + (iK s : Int)) ∧ (st : Int) * (1 + (iK s : Int)) ≤ 65535 := by
    have e : ((st * (1 + iK s) : Nat) : Int) = (st : Int) * (1 + (iK s : Int)) := by simp
    omega
  have hm4 := (img_head hi).2.2.2.1
  have hcI : (0 : Int) ≤ (c : Int) ∧ (c : Int) < (iM s : Int) := by omega
  obtain ⟨r, hr⟩ : ∃ r, rwAt s c st = r := ⟨_, rfl⟩
  have E : Hid (markN s c st = bt s r) := by unfold Hid markN; rw [hr]
  rw [hr] at hrow hrI
  clear hmul hn hi hst hr
  have hbe := bt_eq s r (by omega)
  have hbl := bt_lt s r
  have hw1 : IntKind.i64.wrap (1 + (iK s : Int)) = 1 + (iK s : Int) := IntWalk.i64_in _ (by omega)
  have hw2 : IntKind.i64.wrap ((st : Int) * (1 + (iK s : Int))) = (st : Int) * (1 + (iK s : Int)) := IntWalk.i64_in _ (by omega)
  have hw3 : IntKind.i64.wrap ((iAt s c : Int) + 1 + (st : Int) * (1 + (iK s : Int))) = (r : Int) := by
    rw [← hrI]; simp only [Int.natCast_add, Int.natCast_one]; exact IntWalk.i64_in _ (by omega)
  clear hrI hmI
  go_enter Try.func100, Try.ntmps100
  go_wp2
  go_quiet (fail)
  go_wp2
  go_ret
  exact ⟨by rw [E.out]; rfl, _, rfl⟩

set_option maxRecDepth 100000 in
set_option maxHeartbeats 1000000 in
theorem lead_any (s : ByteArray) (B b g cap c st v : Nat) (w : World) (hi : imgOk s = true) (hs : s.size ≤ 120000) (hc : c < iM s) (hst : st < nSt s c) (hv : v < 256) (hw : ImgRd w B b g cap s) :
    Calls Try.prog 99 #[.pointer (some ⟨b, 0, none⟩), .int .i64 c, .int .i64 st, .int .u8 v] w fun e w' => e = .returned (.int .i64 (leadZ s c st v)) ∧ ∃ q, w' = w.drewN q := by
  obtain ⟨k0, k3, k4, k5, kat, _, _⟩ := hw
  have kc := kat c hc
  clear kat
  have hlead := lead_in hi hc hst hv
  have hrow := row_in hi hc hst
  have hcls := cls_lt hi v hv
  have hrI := rwAt_int s c st
  have hAt : iAt s c ≤ 120000 := by unfold rwAt at hrow; omega
  have hK := iK_le s
  have hn := nSt_le hi hc
  have hmul := mul_small (a := st) (b := 1 + iK s) (by omega) (by omega)
  have hmI : (0 : Int) ≤ (st : Int) * (1 + (iK s : Int)) ∧ (st : Int) * (1 + (iK s : Int)) ≤ 65535 := by
    have e : ((st * (1 + iK s) : Nat) : Int) = (st : Int) * (1 + (iK s : Int)) := by simp
    omega
  have hm4 := (img_head hi).2.2.2.1
  have hR := (img_head hi).1
  have h256 := (img_head hi).2.2.2.2
  have hcI : (0 : Int) ≤ (c : Int) ∧ (c : Int) < (iM s : Int) := by omega
  obtain ⟨r, hr⟩ : ∃ r, rwAt s c st = r := ⟨_, rfl⟩
  obtain ⟨k, hk⟩ : ∃ k, clsN s v = k := ⟨_, rfl⟩
  obtain ⟨t, ht⟩ : ∃ t, r + 1 + k = t := ⟨_, rfl⟩
  obtain ⟨a, ha⟩ : ∃ a, 6 + iR s + v = a := ⟨_, rfl⟩
  have E : Hid (leadZ s c st v = if bt s t = 255 then -1 else (bt s t : Int)) := by unfold Hid leadZ leadN; rw [hr, hk, ht]
  rw [hr] at hrow hrI hlead
  rw [hk] at hlead hcls
  rw [ht] at hlead
  have hk2 : bt s a = k := by rw [← ha]; exact hk
  have hal : a < s.size := by omega
  have hw0 : IntKind.i64.wrap (6 + (iR s : Int) + (v : Int)) = (a : Int) := by rw [← ha]; simp only [Int.natCast_add]; exact IntWalk.i64_in _ (by omega)
  have hw5 : IntKind.i64.wrap ((r : Int) + 1 + (k : Int)) = (t : Int) := by rw [← ht]; simp only [Int.natCast_add]; exact IntWalk.i64_in _ (by omega)
  have hr2 : r ≤ 120000 ∧ k < 256 := by omega
  clear hmul hn hi hst hr hk ht ha
  have hbc := bt_eq s a hal
  rw [hk2] at hbc
  clear hk2
  have hbe := bt_eq s t hlead
  have hbl := bt_lt s t
  have hwv : IntKind.i64.wrap (v : Int) = (v : Int) := IntWalk.i64_in _ (by omega)
  have hwk : IntKind.i64.wrap (k : Int) = (k : Int) := IntWalk.i64_in _ (by omega)
  have hwb : IntKind.i64.wrap (bt s t : Int) = (bt s t : Int) := IntWalk.i64_in _ (by omega)
  have hw1 : IntKind.i64.wrap (1 + (iK s : Int)) = 1 + (iK s : Int) := IntWalk.i64_in _ (by omega)
  have hw2 : IntKind.i64.wrap ((st : Int) * (1 + (iK s : Int))) = (st : Int) * (1 + (iK s : Int)) := IntWalk.i64_in _ (by omega)
  have hw3 : IntKind.i64.wrap ((iAt s c : Int) + 1 + (st : Int) * (1 + (iK s : Int))) = (r : Int) := by
    rw [← hrI]; simp only [Int.natCast_add, Int.natCast_one]; exact IntWalk.i64_in _ (by omega)
  have hw4 : IntKind.i64.wrap ((r : Int) + 1) = (r : Int) + 1 := IntWalk.i64_in _ (by omega)
  clear hrI hmI
  by_cases h255 : bt s t = 255
  · go_enter Try.func99, Try.ntmps99
    go_wp2
    go_quiet (fail)
    go_wp2
    go_quiet (fail)
    go_wp2
    go_ret
    exact ⟨by rw [E.out, if_pos h255]; rfl, _, rfl⟩
  · have hd : ((bt s t : Int) == 255) = false := beq_eq_false_iff_ne.2 (by omega)
    go_enter Try.func99, Try.ntmps99
    go_wp2
    go_quiet (fail)
    go_wp2
    go_quiet (fail)
    go_wp2
    go_ret
    exact ⟨by rw [E.out, if_neg h255]; rfl, _, rfl⟩
end Go.Proofs.Ytgjgjgihceijnaa
