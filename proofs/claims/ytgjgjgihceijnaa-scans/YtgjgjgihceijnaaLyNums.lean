/- layout's reader: lead, numbers: walks. -/
import Derived.Test.YtgjgjgihceijnaaLyRd
namespace Go.Stn
open Go.RowKit
/-- 'append' of one element within the capacity: its cells lie in the block made just before. -/
theorem wpList_fits1 {P : Program} (w : World) {ops : Array Oper} {rest : List Oper} {o : Oper} {a : Act} {Q : Exit → Act → World → Prop} (hgd : o.guard = none) (s x : Operand) (t : TypeId)
    (ho : o.op = .call { callee := .builtin .append, args := #[s, x], argTypes := #[t, t] })
    (base : Nat) (e : TypeId) (z : Value) (size bytes : Nat) (ht : P.underlying t = some (.slice e)) (hinfo : (P.info? e).map (fun i => (i.zero, i.size, i.bytes)) = some (some z, size, bytes))
    (g k cap : Nat) (xs cs : List Value) (e' : TypeId) (hs : a.eval s = .slice (some ⟨g, 0, none⟩) k cap) (hown : w.ownsRow base e size (.slice (some ⟨g, 0, none⟩) k cap) k xs)
    (B : Nat) (hB : w.heap.size = B) (hx : a.eval x = .slice (some ⟨B, 0, none⟩) 1 1) (hl : cs.length = size) (h1 : ∀ u ∈ cs, u.oneCell' = true) (hk : k + 1 ≤ cap)
    (h : ∀ w', w'.ownsRow base e size (.slice (some ⟨g, 0, none⟩) (k + 1) cap) (k + 1) (xs ++ cs) → (w.alloc (.cells cs.toArray e')).grownBy w' (some g) →
      wpList P ops Q rest (a.put o.dst (.slice (some ⟨g, 0, none⟩) (k + 1) cap)) w') : wpList P ops Q (o :: rest) a (w.alloc (.cells cs.toArray e')) := by
  subst hB
  obtain ⟨i, hi, hz, hsize, hb⟩ := info_parts hinfo
  refine wpList_append_fits _ hgd s x t ho base e i size ht hi hsize g k cap xs hs (hown.alloc _) ⟨w.heap.size, 0, none⟩ 1 1 cs hx (by omega) ?_ h1 hk h
  have := World.news_of_block (w := w.alloc (.cells cs.toArray e')) (B := w.heap.size) (cs := cs.toArray) (t := e') (fr := (0, 0)) (heap_alloc_new w _)
  simpa using this

theorem grown_new {a w w' : World} {r : Option Nat} {B : Nat} (h : a.grownBy w r) (k : w.grownBy w' (some B)) (hB : a.heap.size ≤ B) : a.grownBy w' r :=
  ⟨k.os.trans h.os, k.tape.trans h.tape, k.output.trans h.output, Nat.le_trans h.size k.size, fun i hi hr => (k.block i (Nat.lt_of_lt_of_le hi h.size) (by intro e; injection e; omega)).trans (h.block i hi hr)⟩
theorem grown_any {a w : World} (h : a.grownBy w none) (r : Option Nat) : a.grownBy w r := ⟨h.os, h.tape, h.output, h.size, fun i hi _ => h.block i hi (by simp)⟩

/-- A list of numbers as it lies in memory. -/
def natC (l : List Nat) : List Value := l.map fun (x : Nat) => Value.int .i64 (x : Int)
def intC (l : List Int) : List Value := l.map fun (x : Int) => Value.int .i64 x
theorem natC_snoc (l : List Nat) (x : Nat) : natC (l ++ [x]) = natC l ++ [.int .i64 (x : Int)] := by simp [natC]
theorem intC_snoc (l : List Int) (x : Int) : intC (l ++ [x]) = intC l ++ [.int .i64 x] := by simp [intC]
end Go.Stn
namespace Go.Proofs.Ytgjgjgihceijnaa
open Go.RowKit Go.Stn

theorem Try.infoInt : (Try.prog.info? 3).map (fun i => (i.zero, i.size, i.bytes)) = some (some (.int .i64 0), 1, 8) := by kernel_rfl

set_option maxRecDepth 100000 in
theorem llead_any (s : ByteArray) (r : LSt) (n : Nat) (rb : Nat) (w : World) (hs : s.size ≤ 120000) (h : LRd w rb s r) (hr : r.1 ≤ s.size) :
    Calls Try.prog 113 #[.pointer (some ⟨rb, 0, none⟩), .int .i64 n] w fun e w' =>
      e = .returned (.int .i64 (leadP s n r).1) ∧ w.grownBy w' (some rb) ∧ LRd w' rb s (leadP s n r).2 := by
  have hn := lnumber_any s r 0 255 rb w hs h hr
  have HP : Hid (leadP s n r = if (numP s 0 255 r).1 = 255 then (-1, (numP s 0 255 r).2)
    else if n ≤ (numP s 0 255 r).1 then (((numP s 0 255 r).1 : Int), ((numP s 0 255 r).2.1, true)) else (((numP s 0 255 r).1 : Int), (numP s 0 255 r).2)) := rfl
  generalize numP s 0 255 r = N at *
  obtain ⟨x, r1⟩ := N
  simp only at *
  clear h hr
  go_enter Try.func113, Try.ntmps113
  go_wp2_with fail
  refine hn.mono ?_
  rintro e w1 ⟨rfl, hg, hl⟩
  have HG := hidZ hg
  have HL := hidZ hl
  clear hg hn
  by_cases h255 : x = 255
  · have hd : ((x : Int) == 255) = true := by rw [h255]; rfl
    have HE : Hid (leadP s n r = (-1, r1)) := HP.out.trans (if_pos h255)
    clear hl h255
    go_wp2
    go_ret
    rw [HE.out]
    exact ⟨rfl, HG.out, HL.out⟩
  · have hd : ((x : Int) == 255) = false := by rw [beq_eq_false_iff_ne]; omega
    by_cases hle : n ≤ x
    · have hd2 : decide ((n : Int) ≤ (x : Int)) = true := by simp; omega
      have HE : Hid (leadP s n r = ((x : Int), (r1.1, true))) := by unfold Hid; rw [HP.out, if_neg h255, if_pos hle]
      have f2 := hl.fz 2
      have c2 := hl.c2
      clear hl h255
      go_wp2
      go_ret
      rw [HE.out]
      exact ⟨rfl, grown_set HG.out _ _, HL.out.setBad⟩
    · have hd2 : decide ((n : Int) ≤ (x : Int)) = false := by simp; omega
      have HE : Hid (leadP s n r = ((x : Int), r1)) := by unfold Hid; rw [HP.out, if_neg h255, if_neg hle]
      clear hl h255
      go_wp2
      go_ret
      rw [HE.out]
      exact ⟨rfl, HG.out, HL.out⟩

set_option maxRecDepth 100000 in
set_option maxHeartbeats 1000000 in
theorem lnumbers_any (s : ByteArray) (r : LSt) (n hi : Nat) (rb : Nat) (w : World) (hs : s.size ≤ 120000) (hn : n ≤ 1000) (h : LRd w rb s r) (hr : r.1 ≤ s.size) :
    Calls Try.prog 86 #[.pointer (some ⟨rb, 0, none⟩), .int .i64 n, .int .i64 hi] w fun e w' =>
      e = .returned (.slice (some ⟨w.heap.size, 0, none⟩) n n) ∧ w'.ownsRow w.heap.size 3 1 (.slice (some ⟨w.heap.size, 0, none⟩) n n) n (natC (numsP s hi n [] r).1) ∧
      w.grownBy w' (some rb) ∧ LRd w' rb s (numsP s hi n [] r).2 := by
  obtain ⟨i0, hi0, hz0, hz1, hz2⟩ := info_parts Try.infoInt
  have HI : Hid (Try.prog.info? 3 = some i0 ∧ i0.zero = some (.int .i64 0) ∧ i0.size = 1 ∧ i0.bytes = 8) := ⟨hi0, hz0, hz1, hz2⟩
  clear hi0 hz0 hz1 hz2
  have HR := hidZ h
  have hrb := h.hb
  clear h
  go_enter Try.func86, Try.ntmps86
  go_wp2_with (at_make; refine wpList_make_own w rfl _ _ 30 rfl w.heap.size 3 i0 (.int .i64 0) 1 Try.underlying30 HI.out.1 HI.out.2.1 HI.out.2.2.1 .i64 .i64 _ n rfl rfl rfl (by rw [HI.out.2.2.2]; omega) (by unfold maxLen; omega) (Nat.le_refl _) ?_; intro w1 hown hg)
  have HR1 := hidZ (HR.out.grown hg (by simp))
  have HG1 := hidZ (grown_any hg (some rb))
  have HO1 := hidZ hown
  have hsz1 := hg.size
  clear hown hg HR
  generalize hB : w.heap.size = B at *
  go_loopg [7] n (fun gk x wr => ∃ (xs : List Nat) (k : Nat) (r' : LSt), x = .slice (some ⟨B, 0, none⟩) k n ∧ xs.length = k ∧ k + gk = n ∧ r'.1 ≤ s.size ∧ numsP s hi n [] r = numsP s hi gk xs r' ∧
    wr.ownsRow B 3 1 (.slice (some ⟨B, 0, none⟩) k n) k (natC xs) ∧ w.grownBy wr (some rb) ∧ LRd wr rb s r')
  case atStart => exact ⟨[], 0, r, rfl, rfl, by omega, hr, rfl, HO1.out, HG1.out, HR1.out⟩
  case round =>
    obtain ⟨xs, k, r', rfl, hxl, hkn, hr', heq, hown, hg, hl⟩ := hrel
    have HQ := hidZ heq
    have HO := hidZ hown
    have HG := hidZ hg
    have HL := hidZ hl
    have HX := hidZ hxl
    have hsz : B ≤ wr.heap.size := by have := hg.size; omega
    clear heq hown hg hl hxl HR1 HG1 HO1
    by_cases hlt : k < n
    · obtain ⟨g', rfl⟩ : ∃ g', gk = g' + 1 := ⟨gk - 1, by omega⟩
      have HQ2 : Hid (numsP s hi n [] r = numsP s hi g' (xs ++ [(numP s 0 hi r').1]) (numP s 0 hi r').2) := HQ.out
      have hc := lnumber_any s r' 0 hi rb wr hs HL.out hr'
      have ha := numP_at (lo := 0) (hi := hi) hr'
      generalize numP s 0 hi r' = N at *
      obtain ⟨x, r2⟩ := N
      simp only at *
      have hd : decide ((k : Int) < (n : Int)) = true := by simp; omega
      go_wp2_with fail
      refine hc.mono ?_
      rintro e w2 ⟨rfl, hg2, hl2⟩
      have HO2 : Hid (w2.ownsRow B 3 1 (.slice (some ⟨B, 0, none⟩) k n) k (natC xs)) := hidZ (HO.out.kept hg2 (.inr (by simp [Value.ownBlock]; omega)))
      have HG2 := hidZ (grown_trans HG.out hg2)
      have HL2 := hidZ hl2
      have hsz2 : B ≤ w2.heap.size := by have := hg2.size; omega
      clear hg2 hl2 HO HG HL hc
      go_wp2_with (first | (at_builtin; refine wpList_fits1 w2 rfl _ _ 30 rfl B 3 (.int .i64 0) 1 8 Try.underlying30 Try.infoInt B k n (natC xs) [.int .i64 (x : Int)] _ rfl HO2.out _ rfl rfl rfl (by simp [Value.oneCell']) (by omega) ?_; intro w3 hown3 hgrow3))
      go_roundg g'
      case measure => omega
      case rel =>
        have hg3 := grown_alloc2 HG2.out (.cells #[.int .i64 (x : Int)] 3)
        refine ⟨xs ++ [x], k + 1, r2, rfl, by simp [HX.out], by omega, ha, HQ2.out, by rw [natC_snoc]; exact hown3, grown_new hg3 hgrow3 (by omega), ?_⟩
        exact (HL2.out.below ((Below.refl _ _).alloc hsz2 _) (by omega)).grown hgrow3 (by simp; omega)
    · have e : k = n := by omega
      subst e
      have e2 : gk = 0 := by omega
      subst e2
      have HE : Hid (numsP s hi k [] r = (xs, r')) := HQ.out
      have hd : decide ((k : Int) < (k : Int)) = false := by simp
      go_wp2
      go_ret
      rw [HE.out]
      subst hB
      exact ⟨rfl, HO.out, HG.out, HL.out⟩
end Go.Proofs.Ytgjgjgihceijnaa
