/- Texts put together: RfBytes, RfRd, RfScan. -/
import Derived.Test.YtgjgjgihceijnaaG01
import Derived.Test.YtgjgjgihceijnaaG10
import Derived.Test.YtgjgjgihceijnaaChecked
import Derived.Deep.QuietTactic
import Derived.BigQuiet
/- rulefile.Bytes: with, not: walks. -/
namespace Go.Proofs.Ytgjgjgihceijnaa
open Go.RowKit Go.Stn

theorem Try.bytesSize : (Try.prog.info? 187).map (·.size) = some 256 := by kernel_rfl
theorem Try.bytesZero : Try.zeroCells187.size = 256 := by kernel_rfl
theorem Try.bytesZeroL : Try.zeroCells187.toList = bitL fun _ => false := by kernel_rfl

set_option maxHeartbeats 400000 in
set_option maxRecDepth 100000 in
theorem not_any (f : Nat → Bool) (w : World) :
    Calls Try.prog 151 #[.agg (bitL f).toArray] w fun e w' => e = .returned (.agg (bitL fun i => !(f i)).toArray) ∧ Below w.heap.size w w' := by
  have HR : Hid (((w.alloc (.cells (bitL f).toArray 187)).alloc (.cells Try.zeroCells187 187)).rangeAt w.heap.size 0 (bitL f)) :=
    World.rangeAt_alloc (rangeAt_newL w (bitL f) 187) _
  have HT : Hid (((w.alloc (.cells (bitL f).toArray 187)).alloc (.cells Try.zeroCells187 187)).there w.heap.size 0 256) :=
    World.there_alloc (there_newL w (bitL f) 187 256 (bitL_len f)) _
  have HZ : Hid (((w.alloc (.cells (bitL f).toArray 187)).alloc (.cells Try.zeroCells187 187)).there (w.heap.size + 1) 0 256) :=
    there_newA _ Try.zeroCells187 187 _ 256 Try.bytesZero (by simp)
  have HB : Hid (Below w.heap.size w ((w.alloc (.cells (bitL f).toArray 187)).alloc (.cells Try.zeroCells187 187))) :=
    ((Below.refl _ _).alloc (Nat.le_refl _) _).alloc (by simp) _
  go_enter Try.func151, Try.ntmps151
  go_wp2_with fail
  generalize (w.alloc (.cells (bitL f).toArray 187)).alloc (.cells Try.zeroCells187 187) = W at *
  go_loopw [4] (fun x wr => ∃ k : Nat, k ≤ 256 ∧ x = .int .i64 (k : Int) ∧ wr.rangeAt w.heap.size 0 (bitL fun i => if i < k then !(f i) else f i) ∧ wr.there w.heap.size 0 256 ∧ wr.there (w.heap.size + 1) 0 256 ∧ Below w.heap.size w wr)
    (fun x _ => 256 - (intOf x).toNat)
  case atStart => exact ⟨0, by omega, rfl, HR.out, HT.out, HZ.out, HB.out⟩
  case round =>
    obtain ⟨k, hk, rfl, hr, ht, hz, hb⟩ := hrel
    have HR2 := hr
    have HT2 : Hid (wr.there w.heap.size 0 256) := ht
    have HZ2 : Hid (wr.there (w.heap.size + 1) 0 256) := hz
    have HB2 : Hid (Below w.heap.size w wr) := hb
    have HR2 : Hid (wr.rangeAt w.heap.size 0 (bitL fun i => if i < k then !(f i) else f i)) := hr
    clear hr ht hz hb HR HT HZ HB
    by_cases hlt : k < 256
    · have c1 := HR2.out k _ (bitL_get _ k hlt)
      rw [if_neg (Nat.lt_irrefl k), Nat.zero_add] at c1
      have c2 := (HT2.out k hlt).2
      rw [Nat.zero_add] at c2
      have hkI : (0 : Int) ≤ (k : Int) ∧ (k : Int) < 256 := by omega
      go_wp2
      go_roundw
      case rel =>
        refine ⟨k + 1, hlt, by go_num, ?_, there_set HT2.out _ _, there_set HZ2.out _ _, HB2.out.setCell (p := ⟨w.heap.size, k, none⟩) (Nat.le_refl _) _⟩
        have h := rangeAt_set HR2.out hlt (!(f k))
        have e : bitL (fun i => if i = k then !(f k) else if i < k then !(f i) else f i) = bitL (fun i => if i < k + 1 then !(f i) else f i) := by
          refine bitL_congr (fun i _ => ?_)
          by_cases h1 : i = k
          · rw [if_pos h1, if_pos (by omega), h1]
          · rw [if_neg h1]
            by_cases h2 : i < k
            · rw [if_pos h2, if_pos (by omega)]
            · rw [if_neg h2, if_neg (by omega)]
        rw [e] at h
        exact h
      case measure => simp [intOf]; omega
    · have e : k = 256 := by omega
      subst e
      have er : bitL (fun i => if i < 256 then !(f i) else f i) = bitL (fun i => !(f i)) := bitL_congr (fun i hi => by rw [if_pos hi])
      rw [er] at HR2
      clear er
      go_wp2_with (first
        | (refine wpList_load_mid rfl 187 (.tmp 1) rfl w.heap.size 0 rfl (bitL fun i => !(f i)) _ HR2.out Try.underlying187 rfl (by rw [bitL_len]; exact Try.bytesSize) ?_)
        | (refine wpList_store_mid rfl 187 (.tmp 2) (.tmp 14) rfl (w.heap.size + 1) 0 (bitL fun i => !(f i)).toArray rfl rfl (by rw [bitL_size]; exact HZ2.out) (by rw [bitL_size]; exact Try.bytesSize) (all_oneCell_toArray (bitL_one _)) ?_))
      refine ret_cell1 Try.results151 (w.heap.size + 1) 0 (bitL fun i => !(f i)) _ rfl ?_ Try.underlying187 rfl (by rw [bitL_len]; exact Try.bytesSize) rfl ⟨rfl, below_setCells _ _ _ _ HB2.out (by omega)⟩
      exact World.rangeAt_setCells_same _ _ _ _ (by rw [bitL_len]; exact HZ2.out)


set_option maxHeartbeats 400000 in
set_option maxRecDepth 100000 in
theorem with_any (f : Nat → Bool) (a b : Int) (w : World) :
    Calls Try.prog 153 #[.agg (bitL f).toArray, .int .i64 a, .int .i64 b] w fun e w' => e = .returned (.agg (bitL (withB f a b)).toArray) ∧ Below w.heap.size w w' := by
  have HR : Hid (((w.alloc (.cells (bitL f).toArray 187)).alloc (.cells Try.zeroCells187 187)).rangeAt w.heap.size 0 (bitL f)) :=
    World.rangeAt_alloc (rangeAt_newL w (bitL f) 187) _
  have HT : Hid (((w.alloc (.cells (bitL f).toArray 187)).alloc (.cells Try.zeroCells187 187)).there w.heap.size 0 256) :=
    World.there_alloc (there_newL w (bitL f) 187 256 (bitL_len f)) _
  have HZ : Hid (((w.alloc (.cells (bitL f).toArray 187)).alloc (.cells Try.zeroCells187 187)).there (w.heap.size + 1) 0 256) :=
    there_newA _ Try.zeroCells187 187 _ 256 Try.bytesZero (by simp)
  have HB : Hid (Below w.heap.size w ((w.alloc (.cells (bitL f).toArray 187)).alloc (.cells Try.zeroCells187 187))) :=
    ((Below.refl _ _).alloc (Nat.le_refl _) _).alloc (by simp) _
  go_enter Try.func153, Try.ntmps153
  go_wp2_with fail
  generalize (w.alloc (.cells (bitL f).toArray 187)).alloc (.cells Try.zeroCells187 187) = W at *
  go_loopw [8] (fun x wr => ∃ k : Nat, k ≤ 256 ∧ x = .int .i64 (k : Int) ∧ wr.rangeAt w.heap.size 0 (bitL fun i => if i < k then withB f a b i else f i) ∧ wr.there w.heap.size 0 256 ∧ wr.there (w.heap.size + 1) 0 256 ∧ Below w.heap.size w wr)
    (fun x _ => 256 - (intOf x).toNat)
  case atStart => exact ⟨0, by omega, rfl, HR.out, HT.out, HZ.out, HB.out⟩
  case round =>
    obtain ⟨k, hk, rfl, hr, ht, hz, hb⟩ := hrel
    have HT2 : Hid (wr.there w.heap.size 0 256) := ht
    have HZ2 : Hid (wr.there (w.heap.size + 1) 0 256) := hz
    have HB2 : Hid (Below w.heap.size w wr) := hb
    have HR2 : Hid (wr.rangeAt w.heap.size 0 (bitL fun i => if i < k then withB f a b i else f i)) := hr
    clear hr ht hz hb HR HT HZ HB
    by_cases hlt : k < 256
    · have c1 := HR2.out k _ (bitL_get _ k hlt)
      rw [if_neg (Nat.lt_irrefl k), Nat.zero_add] at c1
      have c2 := (HT2.out k hlt).2
      rw [Nat.zero_add] at c2
      have hkI : (0 : Int) ≤ (k : Int) ∧ (k : Int) < 256 := by omega
      by_cases hin : a ≤ (k : Int) ∧ (k : Int) ≤ b
      · obtain ⟨hin1, hin2⟩ := hin
        go_wp2
        go_roundw
        case rel =>
          refine ⟨k + 1, hlt, by go_num, ?_, there_set HT2.out _ _, there_set HZ2.out _ _, HB2.out.setCell (p := ⟨w.heap.size, k, none⟩) (Nat.le_refl _) _⟩
          have h := rangeAt_set HR2.out hlt true
          have e : bitL (fun i => if i = k then true else if i < k then withB f a b i else f i) = bitL (fun i => if i < k + 1 then withB f a b i else f i) := by
            refine bitL_congr (fun i _ => ?_)
            by_cases h1 : i = k
            · rw [if_pos h1, if_pos (by omega), h1]; unfold withB; simp [hin1, hin2]
            · rw [if_neg h1]
              by_cases h2 : i < k
              · rw [if_pos h2, if_pos (by omega)]
              · rw [if_neg h2, if_neg (by omega)]
          rw [e] at h
          exact h
        case measure => simp [intOf]; omega
      · have HE : Hid (bitL (fun i => if i < k then withB f a b i else f i) = bitL (fun i => if i < k + 1 then withB f a b i else f i)) := by
          refine bitL_congr (fun i _ => ?_)
          by_cases h1 : i = k
          · rw [h1, if_neg (by omega), if_pos (by omega)]; unfold withB; simp; intro h2 h3; exact absurd ⟨h2, h3⟩ hin
          · by_cases h2 : i < k
            · rw [if_pos h2, if_pos (by omega)]
            · rw [if_neg h2, if_neg (by omega)]
        rw [HE.out] at HR2
        by_cases h1 : a ≤ (k : Int)
        · have h2 : ¬ ((k : Int) ≤ b) := fun h => hin ⟨h1, h⟩
          clear hin HE
          go_wp2
          go_roundw
          case rel => exact ⟨k + 1, hlt, by go_num, HR2.out, HT2.out, HZ2.out, HB2.out⟩
          case measure => simp [intOf]; omega
        · clear hin HE
          go_wp2
          go_roundw
          case rel => exact ⟨k + 1, hlt, by go_num, HR2.out, HT2.out, HZ2.out, HB2.out⟩
          case measure => simp [intOf]; omega
    · have e : k = 256 := by omega
      subst e
      have er : bitL (fun i => if i < 256 then withB f a b i else f i) = bitL (withB f a b) := bitL_congr (fun i hi => by rw [if_pos hi])
      rw [er] at HR2
      clear er
      go_wp2_with (first
        | (refine wpList_load_mid rfl 187 (.tmp 3) rfl w.heap.size 0 rfl (bitL (withB f a b)) _ HR2.out Try.underlying187 rfl (by rw [bitL_len]; exact Try.bytesSize) ?_)
        | (refine wpList_store_mid rfl 187 (.tmp 6) (.tmp 22) rfl (w.heap.size + 1) 0 (bitL (withB f a b)).toArray rfl rfl (by rw [bitL_size]; exact HZ2.out) (by rw [bitL_size]; exact Try.bytesSize) (all_oneCell_toArray (bitL_one _)) ?_))
      refine ret_cell1 Try.results153 (w.heap.size + 1) 0 (bitL (withB f a b)) _ rfl ?_ Try.underlying187 rfl (by rw [bitL_len]; exact Try.bytesSize) rfl ⟨rfl, below_setCells _ _ _ _ HB2.out (by omega)⟩
      exact World.rangeAt_setCells_same _ _ _ _ (by rw [bitL_len]; exact HZ2.out)
end Go.Proofs.Ytgjgjgihceijnaa

/- A reader in memory: its five cells, its three lists; what each kind of step leaves of it. -/
namespace Go.Stn
/-- Two lists that share no block. -/
def apartV (u v : Value) : Prop := ∀ k, u.ownBlock = some k → v.ownBlock = some k → False
theorem apartV.symm {u v : Value} (h : apartV u v) : apartV v u := fun k a b => h k b a
/-- Four bools and two numbers, as a rule lies in memory. -/
def ruleC (x : (Nat → Bool) × Int × Int) : List Value := [.bool (x.1 0), .bool (x.1 1), .bool (x.1 2), .bool (x.1 3), .int .i64 x.2.1, .int .i64 x.2.2]
def rulesC (l : List ((Nat → Bool) × Int × Int)) : List Value := l.flatMap ruleC
def bitsC (l : List (Nat → Bool)) : List Value := l.flatMap bitL
def cells3' (l : List (Int × Int × Int)) : List Value := l.flatMap fun x => [.int .i64 x.1, .int .i64 x.2.1, .int .i64 x.2.2]
end Go.Stn
namespace Go.Proofs.Ytgjgjgihceijnaa
open Go.RowKit Go.Stn

theorem hidK {p : Prop} (h : p) : Hid p := h

/-- The reader at block rb: its text, and what it has read. All its blocks lie below top. -/
structure Rd (w : World) (rb base top : Nat) (t : ByteArray) (st : PSt) (vr vn vp : Value) : Prop where
  c0 : w.cell? ⟨rb, 0, none⟩ = some (.string t)
  c1 : w.cell? ⟨rb, 1, none⟩ = some (.int .i64 st.at_)
  c2 : w.cell? ⟨rb, 2, none⟩ = some vr
  c3 : w.cell? ⟨rb, 3, none⟩ = some vn
  c4 : w.cell? ⟨rb, 4, none⟩ = some vp
  fz : ∀ i, w.frozen? ⟨rb, i, none⟩ = false
  rr : w.ownsRow base 151 6 vr st.rules.length (rulesC st.rules)
  rn : w.ownsRow base 191 3 vn st.nodes.length (cells3' st.nodes)
  rp : w.ownsRow base 187 256 vp st.places.length (bitsC st.places)
  hb : rb < base
  hbt : base ≤ top
  hz : top ≤ w.heap.size
  lr : ∀ k, vr.ownBlock = some k → k < top
  ln : ∀ k, vn.ownBlock = some k → k < top
  lp : ∀ k, vp.ownBlock = some k → k < top
  a1 : apartV vr vn
  a2 : apartV vr vp
  a3 : apartV vn vp

variable {w w' : World} {rb base top : Nat} {t : ByteArray} {st : PSt} {vr vn vp : Value}

theorem row_below {w w' : World} {base top : Nat} {e : TypeId} {size : Nat} {v : Value} {m : Nat} {xs : List Value} (hr : w.ownsRow base e size v m xs) (hB : Below top w w') (hl : ∀ k, v.ownBlock = some k → k < top) : w'.ownsRow base e size v m xs := by
  refine ⟨hr.1, ?_⟩
  rcases hr.2 with hn | ⟨g, cap, cur, rfl, hbg, hg, rest⟩
  · exact .inl hn
  · exact .inr ⟨g, cap, cur, rfl, hbg, (hB.block g (hl g rfl)).trans hg, rest⟩

theorem Rd.below (h : Rd w rb base top t st vr vn vp) (hB : Below top w w') : Rd w' rb base top t st vr vn vp := by
  have hb := h.hb
  have hbt := h.hbt
  have hc : rb < top := by omega
  have cl : ∀ i, w'.cell? ⟨rb, i, none⟩ = w.cell? ⟨rb, i, none⟩ := fun i => hB.cell (p := ⟨rb, i, none⟩) hc
  exact ⟨(cl 0).trans h.c0, (cl 1).trans h.c1, (cl 2).trans h.c2, (cl 3).trans h.c3, (cl 4).trans h.c4, fun i => (hB.frozen (p := ⟨rb, i, none⟩) hc).trans (h.fz i),
    row_below h.rr hB h.lr, row_below h.rn hB h.ln, row_below h.rp hB h.lp, h.hb, h.hbt, Nat.le_trans h.hz hB.size, h.lr, h.ln, h.lp, h.a1, h.a2, h.a3⟩

theorem Rd.drewN (h : Rd w rb base top t st vr vn vp) (q : Nat) : Rd (w.drewN q) rb base top t st vr vn vp :=
  ⟨h.c0, h.c1, h.c2, h.c3, h.c4, h.fz, h.rr, h.rn, h.rp, h.hb, h.hbt, h.hz, h.lr, h.ln, h.lp, h.a1, h.a2, h.a3⟩

theorem Rd.drew (h : Rd w rb base top t st vr vn vp) : Rd w.drew rb base top t st vr vn vp :=
  ⟨h.c0, h.c1, h.c2, h.c3, h.c4, h.fz, h.rr, h.rn, h.rp, h.hb, h.hbt, h.hz, h.lr, h.ln, h.lp, h.a1, h.a2, h.a3⟩

theorem Rd.raise (h : Rd w rb base top t st vr vn vp) : Rd w rb base w.heap.size t st vr vn vp := by
  have hz := h.hz
  have hbt := h.hbt
  exact ⟨h.c0, h.c1, h.c2, h.c3, h.c4, h.fz, h.rr, h.rn, h.rp, h.hb, by omega, Nat.le_refl _, fun k hk => by have := h.lr k hk; omega, fun k hk => by have := h.ln k hk; omega, fun k hk => by have := h.lp k hk; omega, h.a1, h.a2, h.a3⟩

theorem Rd.retop {w0 : World} {top0 : Nat} {st0 : PSt} (h0 : Rd w0 rb base top0 t st0 vr vn vp) (h : Rd w rb base top t st vr vn vp) (hz : top0 ≤ w.heap.size) : Rd w rb base top0 t st vr vn vp :=
  ⟨h.c0, h.c1, h.c2, h.c3, h.c4, h.fz, h.rr, h.rn, h.rp, h.hb, h0.hbt, hz, h0.lr, h0.ln, h0.lp, h.a1, h.a2, h.a3⟩

/-- One place on. -/
theorem Rd.adv (h : Rd w rb base top t st vr vn vp) : Rd (w.setCell ⟨rb, 1, none⟩ (.int .i64 ((st.at_ : Int) + 1))) rb base top t (adv st) vr vn vp := by
  have o : ∀ j u, j ≠ 1 → w.cell? ⟨rb, j, none⟩ = some u → (w.setCell ⟨rb, 1, none⟩ (.int .i64 ((st.at_ : Int) + 1))).cell? ⟨rb, j, none⟩ = some u := fun j u hj hu => by
    rw [World.cell?_setCell_other (h := by intro e; injection e; omega)]; exact hu
  refine ⟨o 0 _ (by omega) h.c0, World.cell?_setCell_same _ _ _ h.c1, o 2 _ (by omega) h.c2, o 3 _ (by omega) h.c3, o 4 _ (by omega) h.c4,
    fun i => by rw [World.frozen?_setCell]; exact h.fz i, ownsRow_setCell_below h.rr h.hb _, ownsRow_setCell_below h.rn h.hb _, ownsRow_setCell_below h.rp h.hb _, h.hb, h.hbt, ?_, h.lr, h.ln, h.lp, h.a1, h.a2, h.a3⟩
  have := h.hz
  simp [World.setCell]; omega


/-- The reader's own blocks. -/
def mine (rb : Nat) (vr vn vp : Value) (k : Nat) : Prop := k = rb ∨ vr.ownBlock = some k ∨ vn.ownBlock = some k ∨ vp.ownBlock = some k

/-- What a step of the reader may turn: its own blocks; what it makes is new. -/
structure Fr (w w' : World) (rb : Nat) (vr vn vp vr' vn' vp' : Value) : Prop where
  os : w'.os = w.os
  tape : w'.tape = w.tape
  output : w'.output = w.output
  size : w.heap.size ≤ w'.heap.size
  block : ∀ k, k < w.heap.size → ¬ mine rb vr vn vp k → w'.heap[k]? = w.heap[k]?
  stay : ∀ k, k < w.heap.size → ¬ mine rb vr vn vp k → ¬ mine rb vr' vn' vp' k

theorem Fr.refl (w : World) (rb : Nat) (vr vn vp : Value) : Fr w w rb vr vn vp vr vn vp := ⟨rfl, rfl, rfl, Nat.le_refl _, fun _ _ _ => rfl, fun _ _ h => h⟩
theorem Fr.trans {a b c : World} {rb : Nat} {vr vn vp vr1 vn1 vp1 vr2 vn2 vp2 : Value} (h : Fr a b rb vr vn vp vr1 vn1 vp1) (k : Fr b c rb vr1 vn1 vp1 vr2 vn2 vp2) : Fr a c rb vr vn vp vr2 vn2 vp2 :=
  ⟨k.os.trans h.os, k.tape.trans h.tape, k.output.trans h.output, Nat.le_trans h.size k.size, fun i hi hm => (k.block i (Nat.lt_of_lt_of_le hi h.size) (h.stay i hi hm)).trans (h.block i hi hm),
    fun i hi hm => k.stay i (Nat.lt_of_lt_of_le hi h.size) (h.stay i hi hm)⟩
theorem Fr.of_grown {a b : World} {rb : Nat} {vr vn vp : Value} (h : a.grownBy b (some rb)) : Fr a b rb vr vn vp vr vn vp :=
  ⟨h.os, h.tape, h.output, h.size, fun k hk hm => h.block k hk (fun e => hm (.inl (Option.some.inj e))), fun _ _ hm => hm⟩
theorem Fr.below {a b : World} {rb base top : Nat} {t : ByteArray} {st : PSt} {vr vn vp vr' vn' vp' : Value} (h : Fr a b rb vr vn vp vr' vn' vp') (hr : Rd a rb base top t st vr vn vp) : Below rb a b := by
  have hb := hr.hb
  have hbt := hr.hbt
  have hz := hr.hz
  refine ⟨h.os, h.tape, h.output, h.size, fun k hk => h.block k (by omega) ?_⟩
  rintro (e | e | e | e)
  · omega
  · have := (hr.rr.lt k e).1; omega
  · have := (hr.rn.lt k e).1; omega
  · have := (hr.rp.lt k e).1; omega
theorem Fr.of_drew {a b : World} {rb : Nat} {vr vn vp vr' vn' vp' : Value} (h : Fr a.drew b rb vr vn vp vr' vn' vp') : Fr a b rb vr vn vp vr' vn' vp' := ⟨h.os, h.tape, h.output, h.size, h.block, h.stay⟩
/-- What a step of the reader leaves that may make nodes, places, rules. -/
def RdOut (w : World) (rb base : Nat) (t : ByteArray) (vr vn vp : Value) (st : PSt) (w' : World) : Prop := ∃ vr' vn' vp', Rd w' rb base w'.heap.size t st vr' vn' vp' ∧ Fr w w' rb vr vn vp vr' vn' vp'

/-- A block that is none of the reader's. -/
theorem not_mine {w : World} {rb base top : Nat} {t : ByteArray} {st : PSt} {vr vn vp : Value} (hr : Rd w rb base top t st vr vn vp) {k : Nat} (hk : top ≤ k) : ¬ mine rb vr vn vp k := by
  have hb := hr.hb
  have hbt := hr.hbt
  rintro (e | e | e | e)
  · omega
  · have := hr.lr k e; omega
  · have := hr.ln k e; omega
  · have := hr.lp k e; omega

/-- One node more: an append, and the store. -/
theorem Rd.moreN {W w4 : World} {rb base top : Nat} {t : ByteArray} {st : PSt} {vr vn vp : Value} (h : Rd W rb base top t st vr vn vp) {o : Obj} {x : Int × Int × Int} {g cap : Nat}
    (hown : w4.ownsRow base 191 3 (.slice (some ⟨g, 0, none⟩) (st.nodes.length + 1) cap) (st.nodes.length + 1) (cells3' st.nodes ++ [.int .i64 x.1, .int .i64 x.2.1, .int .i64 x.2.2]))
    (hgrow : (W.alloc o).grownBy w4 vn.ownBlock) (hat : vn.ownBlock = some g ∨ g = W.heap.size + 1) (hgl : g < w4.heap.size) :
    Rd (w4.setCell ⟨rb, 3, none⟩ (.slice (some ⟨g, 0, none⟩) (st.nodes.length + 1) cap)) rb base w4.heap.size t { st with nodes := st.nodes ++ [x] } vr (.slice (some ⟨g, 0, none⟩) (st.nodes.length + 1) cap) vp ∧
    Fr W (w4.setCell ⟨rb, 3, none⟩ (.slice (some ⟨g, 0, none⟩) (st.nodes.length + 1) cap)) rb vr vn vp vr (.slice (some ⟨g, 0, none⟩) (st.nodes.length + 1) cap) vp := by
  have hb := h.hb
  have hbt := h.hbt
  have hz := h.hz
  have hsz := hgrow.size
  simp at hsz
  have h' : Rd (W.alloc o) rb base top t st vr vn vp := h.below ((Below.refl _ _).alloc h.hz o)
  have hne : some rb ≠ vn.ownBlock := fun e => by have := (h.rn.lt rb e.symm).1; omega
  obtain ⟨gc, gf⟩ := grow_cell hgrow (k := rb) (by omega) hne
  have oth : ∀ j u, j ≠ 3 → W.cell? ⟨rb, j, none⟩ = some u → (w4.setCell ⟨rb, 3, none⟩ (.slice (some ⟨g, 0, none⟩) (st.nodes.length + 1) cap)).cell? ⟨rb, j, none⟩ = some u := fun j u hj hu => by
    rw [World.cell?_setCell_other (h := by intro e; injection e; omega), gc]; exact hu
  have slf : ∀ u, W.cell? ⟨rb, 3, none⟩ = some u → (w4.setCell ⟨rb, 3, none⟩ (.slice (some ⟨g, 0, none⟩) (st.nodes.length + 1) cap)).cell? ⟨rb, 3, none⟩ = some (.slice (some ⟨g, 0, none⟩) (st.nodes.length + 1) cap) := fun u hu =>
    World.cell?_setCell_same (u := u) _ _ _ ((gc 3).trans hu)
  have kp : ∀ (v : Value) (m sz : Nat) (xs : List Value) (e : TypeId), (W.alloc o).ownsRow base e sz v m xs → apartV vn v → (w4.setCell ⟨rb, 3, none⟩ (.slice (some ⟨g, 0, none⟩) (st.nodes.length + 1) cap)).ownsRow base e sz v m xs := fun v m sz xs e hr ha => by
    refine ownsRow_setCell_below (hr.kept hgrow ?_) h.hb _
    cases hv : v.ownBlock with
    | none => exact .inl rfl
    | some k => right; intro e; exact ha k e.symm hv
  have nw : ∀ v : Value, (∀ k, v.ownBlock = some k → k < top) → apartV vn v → apartV (.slice (some ⟨g, 0, none⟩) (st.nodes.length + 1) cap) v := fun v hl ha k e1 e2 => by
    have e : g = k := by simpa [Value.ownBlock] using e1
    subst e
    rcases hat with h1 | h1
    · exact ha g h1 e2
    · have := hl g e2; omega
  have rn2 : (w4.setCell ⟨rb, 3, none⟩ (.slice (some ⟨g, 0, none⟩) (st.nodes.length + 1) cap)).ownsRow base 191 3 (.slice (some ⟨g, 0, none⟩) (st.nodes.length + 1) cap) (st.nodes ++ [x]).length (cells3' (st.nodes ++ [x])) := by
    have e : cells3' (st.nodes ++ [x]) = cells3' st.nodes ++ [.int .i64 x.1, .int .i64 x.2.1, .int .i64 x.2.2] := by simp [cells3']
    rw [e, List.length_append, List.length_singleton]; exact ownsRow_setCell_below hown h.hb _
  have tp : ∀ v : Value, (∀ k, v.ownBlock = some k → k < top) → ∀ k, v.ownBlock = some k → k < w4.heap.size := fun v hl k hk => by have := hl k hk; omega
  have tg : ∀ k, (Value.slice (some ⟨g, 0, none⟩) (st.nodes.length + 1) cap).ownBlock = some k → k < w4.heap.size := fun k hk => by
    have e : g = k := by simpa [Value.ownBlock] using hk
    omega
  refine ⟨⟨oth 0 _ (by omega) h.c0, oth 1 _ (by omega) h.c1, oth 2 _ (by omega) h.c2, slf _ h.c3, oth 4 _ (by omega) h.c4, fun i => by rw [World.frozen?_setCell, gf]; exact h.fz i, kp _ _ _ _ _ h'.rr h.a1.symm, rn2, kp _ _ _ _ _ h'.rp h.a3, h.hb, by omega, by simp [World.setCell], tp _ h.lr, tg, tp _ h.lp, (nw _ h.lr h.a1.symm).symm, h.a2, nw _ h.lp h.a3⟩, ?_⟩
  refine ⟨hgrow.os, hgrow.tape, hgrow.output, by simp [World.setCell]; omega, fun k hk hm => ?_, fun k hk hm => ?_⟩
  · rw [Below.heap_setCell _ _ _ _ (by intro e; exact hm (.inl e)), hgrow.block k (by simp; omega) (by intro e; exact hm (.inr (.inr (.inl e.symm))))]
    exact Below.heap_alloc W o k hk
  · rintro (e | e | e | e)
    · exact hm (.inl e)
    · exact hm (.inr (.inl e))
    · have e : g = k := by simpa [Value.ownBlock] using e
      subst e
      rcases hat with h1 | h1
      · exact hm (.inr (.inr (.inl h1)))
      · omega
    · exact hm (.inr (.inr (.inr e)))

/-- One place more: an append, and the store. -/
theorem Rd.moreP {W w4 : World} {rb base top : Nat} {t : ByteArray} {st : PSt} {vr vn vp : Value} (h : Rd W rb base top t st vr vn vp) {o : Obj} {x : Nat → Bool} {g cap : Nat}
    (hown : w4.ownsRow base 187 256 (.slice (some ⟨g, 0, none⟩) (st.places.length + 1) cap) (st.places.length + 1) (bitsC st.places ++ bitL x))
    (hgrow : (W.alloc o).grownBy w4 vp.ownBlock) (hat : vp.ownBlock = some g ∨ g = W.heap.size + 1) (hgl : g < w4.heap.size) :
    Rd (w4.setCell ⟨rb, 4, none⟩ (.slice (some ⟨g, 0, none⟩) (st.places.length + 1) cap)) rb base w4.heap.size t { st with places := st.places ++ [x] } vr vn (.slice (some ⟨g, 0, none⟩) (st.places.length + 1) cap) ∧
    Fr W (w4.setCell ⟨rb, 4, none⟩ (.slice (some ⟨g, 0, none⟩) (st.places.length + 1) cap)) rb vr vn vp vr vn (.slice (some ⟨g, 0, none⟩) (st.places.length + 1) cap) := by
  have hb := h.hb
  have hbt := h.hbt
  have hz := h.hz
  have hsz := hgrow.size
  simp at hsz
  have h' : Rd (W.alloc o) rb base top t st vr vn vp := h.below ((Below.refl _ _).alloc h.hz o)
  have hne : some rb ≠ vp.ownBlock := fun e => by have := (h.rp.lt rb e.symm).1; omega
  obtain ⟨gc, gf⟩ := grow_cell hgrow (k := rb) (by omega) hne
  have oth : ∀ j u, j ≠ 4 → W.cell? ⟨rb, j, none⟩ = some u → (w4.setCell ⟨rb, 4, none⟩ (.slice (some ⟨g, 0, none⟩) (st.places.length + 1) cap)).cell? ⟨rb, j, none⟩ = some u := fun j u hj hu => by
    rw [World.cell?_setCell_other (h := by intro e; injection e; omega), gc]; exact hu
  have slf : ∀ u, W.cell? ⟨rb, 4, none⟩ = some u → (w4.setCell ⟨rb, 4, none⟩ (.slice (some ⟨g, 0, none⟩) (st.places.length + 1) cap)).cell? ⟨rb, 4, none⟩ = some (.slice (some ⟨g, 0, none⟩) (st.places.length + 1) cap) := fun u hu =>
    World.cell?_setCell_same (u := u) _ _ _ ((gc 4).trans hu)
  have kp : ∀ (v : Value) (m sz : Nat) (xs : List Value) (e : TypeId), (W.alloc o).ownsRow base e sz v m xs → apartV vp v → (w4.setCell ⟨rb, 4, none⟩ (.slice (some ⟨g, 0, none⟩) (st.places.length + 1) cap)).ownsRow base e sz v m xs := fun v m sz xs e hr ha => by
    refine ownsRow_setCell_below (hr.kept hgrow ?_) h.hb _
    cases hv : v.ownBlock with
    | none => exact .inl rfl
    | some k => right; intro e; exact ha k e.symm hv
  have nw : ∀ v : Value, (∀ k, v.ownBlock = some k → k < top) → apartV vp v → apartV (.slice (some ⟨g, 0, none⟩) (st.places.length + 1) cap) v := fun v hl ha k e1 e2 => by
    have e : g = k := by simpa [Value.ownBlock] using e1
    subst e
    rcases hat with h1 | h1
    · exact ha g h1 e2
    · have := hl g e2; omega
  have rn2 : (w4.setCell ⟨rb, 4, none⟩ (.slice (some ⟨g, 0, none⟩) (st.places.length + 1) cap)).ownsRow base 187 256 (.slice (some ⟨g, 0, none⟩) (st.places.length + 1) cap) (st.places ++ [x]).length (bitsC (st.places ++ [x])) := by
    have e : bitsC (st.places ++ [x]) = bitsC st.places ++ bitL x := by simp [bitsC]
    rw [e, List.length_append, List.length_singleton]; exact ownsRow_setCell_below hown h.hb _
  have tp : ∀ v : Value, (∀ k, v.ownBlock = some k → k < top) → ∀ k, v.ownBlock = some k → k < w4.heap.size := fun v hl k hk => by have := hl k hk; omega
  have tg : ∀ k, (Value.slice (some ⟨g, 0, none⟩) (st.places.length + 1) cap).ownBlock = some k → k < w4.heap.size := fun k hk => by
    have e : g = k := by simpa [Value.ownBlock] using hk
    omega
  refine ⟨⟨oth 0 _ (by omega) h.c0, oth 1 _ (by omega) h.c1, oth 2 _ (by omega) h.c2, oth 3 _ (by omega) h.c3, slf _ h.c4, fun i => by rw [World.frozen?_setCell, gf]; exact h.fz i, kp _ _ _ _ _ h'.rr h.a2.symm, kp _ _ _ _ _ h'.rn h.a3.symm, rn2, h.hb, by omega, by simp [World.setCell], tp _ h.lr, tp _ h.ln, tg, h.a1, (nw _ h.lr h.a2.symm).symm, (nw _ h.ln h.a3.symm).symm⟩, ?_⟩
  refine ⟨hgrow.os, hgrow.tape, hgrow.output, by simp [World.setCell]; omega, fun k hk hm => ?_, fun k hk hm => ?_⟩
  · rw [Below.heap_setCell _ _ _ _ (by intro e; exact hm (.inl e)), hgrow.block k (by simp; omega) (by intro e; exact hm (.inr (.inr (.inr e.symm))))]
    exact Below.heap_alloc W o k hk
  · rintro (e | e | e | e)
    · exact hm (.inl e)
    · exact hm (.inr (.inl e))
    · exact hm (.inr (.inr (.inl e)))
    · have e : g = k := by simpa [Value.ownBlock] using e
      subst e
      rcases hat with h1 | h1
      · exact hm (.inr (.inr (.inr h1)))
      · omega

/-- One rule more: an append, and the store. -/
theorem Rd.moreR {W w4 : World} {rb base top : Nat} {t : ByteArray} {st : PSt} {vr vn vp : Value} (h : Rd W rb base top t st vr vn vp) {o : Obj} {x : (Nat → Bool) × Int × Int} {g cap : Nat}
    (hown : w4.ownsRow base 151 6 (.slice (some ⟨g, 0, none⟩) (st.rules.length + 1) cap) (st.rules.length + 1) (rulesC st.rules ++ ruleC x))
    (hgrow : (W.alloc o).grownBy w4 vr.ownBlock) (hat : vr.ownBlock = some g ∨ g = W.heap.size + 1) (hgl : g < w4.heap.size) :
    Rd (w4.setCell ⟨rb, 2, none⟩ (.slice (some ⟨g, 0, none⟩) (st.rules.length + 1) cap)) rb base w4.heap.size t { st with rules := st.rules ++ [x] } (.slice (some ⟨g, 0, none⟩) (st.rules.length + 1) cap) vn vp ∧
    Fr W (w4.setCell ⟨rb, 2, none⟩ (.slice (some ⟨g, 0, none⟩) (st.rules.length + 1) cap)) rb vr vn vp (.slice (some ⟨g, 0, none⟩) (st.rules.length + 1) cap) vn vp := by
  have hb := h.hb
  have hbt := h.hbt
  have hz := h.hz
  have hsz := hgrow.size
  simp at hsz
  have h' : Rd (W.alloc o) rb base top t st vr vn vp := h.below ((Below.refl _ _).alloc h.hz o)
  have hne : some rb ≠ vr.ownBlock := fun e => by have := (h.rr.lt rb e.symm).1; omega
  obtain ⟨gc, gf⟩ := grow_cell hgrow (k := rb) (by omega) hne
  have oth : ∀ j u, j ≠ 2 → W.cell? ⟨rb, j, none⟩ = some u → (w4.setCell ⟨rb, 2, none⟩ (.slice (some ⟨g, 0, none⟩) (st.rules.length + 1) cap)).cell? ⟨rb, j, none⟩ = some u := fun j u hj hu => by
    rw [World.cell?_setCell_other (h := by intro e; injection e; omega), gc]; exact hu
  have slf : ∀ u, W.cell? ⟨rb, 2, none⟩ = some u → (w4.setCell ⟨rb, 2, none⟩ (.slice (some ⟨g, 0, none⟩) (st.rules.length + 1) cap)).cell? ⟨rb, 2, none⟩ = some (.slice (some ⟨g, 0, none⟩) (st.rules.length + 1) cap) := fun u hu =>
    World.cell?_setCell_same (u := u) _ _ _ ((gc 2).trans hu)
  have kp : ∀ (v : Value) (m sz : Nat) (xs : List Value) (e : TypeId), (W.alloc o).ownsRow base e sz v m xs → apartV vr v → (w4.setCell ⟨rb, 2, none⟩ (.slice (some ⟨g, 0, none⟩) (st.rules.length + 1) cap)).ownsRow base e sz v m xs := fun v m sz xs e hr ha => by
    refine ownsRow_setCell_below (hr.kept hgrow ?_) h.hb _
    cases hv : v.ownBlock with
    | none => exact .inl rfl
    | some k => right; intro e; exact ha k e.symm hv
  have nw : ∀ v : Value, (∀ k, v.ownBlock = some k → k < top) → apartV vr v → apartV (.slice (some ⟨g, 0, none⟩) (st.rules.length + 1) cap) v := fun v hl ha k e1 e2 => by
    have e : g = k := by simpa [Value.ownBlock] using e1
    subst e
    rcases hat with h1 | h1
    · exact ha g h1 e2
    · have := hl g e2; omega
  have rn2 : (w4.setCell ⟨rb, 2, none⟩ (.slice (some ⟨g, 0, none⟩) (st.rules.length + 1) cap)).ownsRow base 151 6 (.slice (some ⟨g, 0, none⟩) (st.rules.length + 1) cap) (st.rules ++ [x]).length (rulesC (st.rules ++ [x])) := by
    have e : rulesC (st.rules ++ [x]) = rulesC st.rules ++ ruleC x := by simp [rulesC]
    rw [e, List.length_append, List.length_singleton]; exact ownsRow_setCell_below hown h.hb _
  have tp : ∀ v : Value, (∀ k, v.ownBlock = some k → k < top) → ∀ k, v.ownBlock = some k → k < w4.heap.size := fun v hl k hk => by have := hl k hk; omega
  have tg : ∀ k, (Value.slice (some ⟨g, 0, none⟩) (st.rules.length + 1) cap).ownBlock = some k → k < w4.heap.size := fun k hk => by
    have e : g = k := by simpa [Value.ownBlock] using hk
    omega
  refine ⟨⟨oth 0 _ (by omega) h.c0, oth 1 _ (by omega) h.c1, slf _ h.c2, oth 3 _ (by omega) h.c3, oth 4 _ (by omega) h.c4, fun i => by rw [World.frozen?_setCell, gf]; exact h.fz i, rn2, kp _ _ _ _ _ h'.rn h.a1, kp _ _ _ _ _ h'.rp h.a2, h.hb, by omega, by simp [World.setCell], tg, tp _ h.ln, tp _ h.lp, nw _ h.ln h.a1, nw _ h.lp h.a2, h.a3⟩, ?_⟩
  refine ⟨hgrow.os, hgrow.tape, hgrow.output, by simp [World.setCell]; omega, fun k hk hm => ?_, fun k hk hm => ?_⟩
  · rw [Below.heap_setCell _ _ _ _ (by intro e; exact hm (.inl e)), hgrow.block k (by simp; omega) (by intro e; exact hm (.inr (.inl e.symm)))]
    exact Below.heap_alloc W o k hk
  · rintro (e | e | e | e)
    · exact hm (.inl e)
    · have e : g = k := by simpa [Value.ownBlock] using e
      subst e
      rcases hat with h1 | h1
      · exact hm (.inr (.inl h1))
      · omega
    · exact hm (.inr (.inr (.inl e)))
    · exact hm (.inr (.inr (.inr e)))

end Go.Proofs.Ytgjgjgihceijnaa

/- The reader's small steps: walks. -/
namespace Go.Proofs.Ytgjgjgihceijnaa
open Go.RowKit Go.Stn

theorem visible_any (b : Int) (w : World) : Calls Try.prog 147 #[.int .i64 b] w fun e w' => e = .returned (.bool (visB b)) ∧ w' = w := by
  by_cases h1 : 33 ≤ b
  · by_cases h2 : b ≤ 126
    · have e : visB b = true := by unfold visB; simp [h1, h2]
      rw [e]; clear e
      go_enter Try.func147, Try.ntmps147
      go_wp2
      go_ret
      exact ⟨by simp, rfl⟩
    · have e : visB b = false := by unfold visB; simp [h2]
      rw [e]; clear e
      go_enter Try.func147, Try.ntmps147
      go_wp2
      go_ret
      exact ⟨by simp, rfl⟩
  · have e : visB b = false := by unfold visB; simp [h1]
    rw [e]; clear e
    go_enter Try.func147, Try.ntmps147
    go_wp2
    go_ret
    exact ⟨rfl, rfl⟩

theorem lod_any (b : Int) (w : World) : Calls Try.prog 156 #[.int .i64 b] w fun e w' => e = .returned (.bool (lodB b)) ∧ w' = w := by
  have e : lodB b = (decide (97 ≤ b) && decide (b ≤ 122) || (decide (65 ≤ b) && decide (b ≤ 90)) || (decide (48 ≤ b) && decide (b ≤ 57))) := by
    unfold lodB; rw [Bool.eq_iff_iff]; simp; omega
  rw [e]
  clear e
  by_cases h1 : 97 ≤ b <;> by_cases h2 : b ≤ 122 <;> by_cases h3 : 65 ≤ b <;> by_cases h4 : b ≤ 90 <;> by_cases h5 : 48 ≤ b <;> by_cases h6 : b ≤ 57
  all_goals first
    | (exfalso; omega)
    | (simp only [h1, h2, h3, h4, h5, h6, decide_true, decide_false, Bool.and_false, Bool.or_false, Bool.or_true, Bool.and_true]
       go_enter Try.func156, Try.ntmps156
       go_wp2
       go_ret
       exact ⟨by simp <;> omega, rfl⟩)

theorem plain_any (b : Int) (sp : ByteArray) (w : World) (hs : sp.size ≤ 100) : Calls Try.prog 141 #[.int .i64 b, .string sp] w fun e w' => e = .returned (.bool (plainB b sp)) ∧ w' = w := by
  cases hv : visB b with
  | false =>
    have e : plainB b sp = false := by unfold plainB; rw [hv]; rfl
    rw [e]; clear e
    go_enter Try.func141, Try.ntmps141
    go_wp2_with (go_at_call 147; refine (visible_any _ _).mono ?_; rintro e w ⟨rfl, rfl⟩)
    go_ret
    exact ⟨rfl, rfl⟩
  | true =>
    have e : plainB b sp = decide (∀ i, i < sp.size → (bt sp i : Int) ≠ b) := by unfold plainB; rw [hv]; rfl
    rw [e]; clear e
    go_enter Try.func141, Try.ntmps141
    go_wp2_with (go_at_call 147; refine (visible_any _ _).mono ?_; rintro e w ⟨rfl, rfl⟩)
    go_loop [5] (fun x => ∃ k : Nat, k ≤ sp.size ∧ x = .int .i64 (k : Int) ∧ ∀ i, i < k → (bt sp i : Int) ≠ b) (fun x => sp.size - (intOf x).toNat)
    case atStart => exact ⟨0, Nat.zero_le _, rfl, fun i h => absurd h (Nat.not_lt_zero _)⟩
    case round =>
      obtain ⟨k, hk, rfl, hall⟩ := hrel
      have HA := hidK hall
      clear hall
      by_cases hlt : k < sp.size
      · have hbe := bt_eq sp k hlt
        have hbl := bt_lt sp k
        by_cases heq : (bt sp k : Int) = b
        · have HN : Hid (decide (∀ i, i < sp.size → (bt sp i : Int) ≠ b) = false) := by
            unfold Hid; rw [decide_eq_false_iff_not]; intro h; exact h k hlt heq
          have hbq : ((bt sp k : Int) == b) = true := beq_iff_eq.2 heq
          clear heq
          go_wp2
          go_ret
          exact ⟨by rw [HN.out]; rfl, rfl⟩
        · have hbq : ((bt sp k : Int) == b) = false := beq_eq_false_iff_ne.2 heq
          have HQ := hidK heq
          clear heq
          go_wp2
          go_round
          case rel =>
            refine ⟨k + 1, hlt, by go_num, fun i hi => ?_⟩
            by_cases e : i = k
            · rw [e]; exact HQ.out
            · exact HA.out i (by omega)
          case measure => simp [intOf]; omega
      · have HY : Hid (decide (∀ i, i < sp.size → (bt sp i : Int) ≠ b) = true) := by
          unfold Hid; rw [decide_eq_true_eq]; intro i hi; exact HA.out i (by omega)
        go_wp2
        go_ret
        exact ⟨by rw [HY.out]; rfl, rfl⟩


set_option maxRecDepth 100000 in
theorem peek_any (t : ByteArray) (st : PSt) (rb base top : Nat) (vr vn vp : Value) (w : World) (h : Rd w rb base top t st vr vn vp) :
    Calls Try.prog 117 #[.pointer (some ⟨rb, 0, none⟩)] w fun e w' => e = .returned (.int .i64 (peekP t st.at_)) ∧ ∃ q, w' = w.drewN q := by
  have c0 := h.c0
  have c1 := h.c1
  clear h
  generalize st.at_ = a at *
  by_cases he : t.size ≤ a
  · rw [peekP_end he]
    have hd : decide ((t.size : Int) ≤ (a : Int)) = true := by simp; omega
    go_enter Try.func117, Try.ntmps117
    go_wp2
    go_quiet (fail)
    go_wp2
    go_ret
    exact ⟨rfl, _, rfl⟩
  · rw [peekP_at (by omega)]
    have hd : decide ((t.size : Int) ≤ (a : Int)) = false := by simp; omega
    have hbe := bt_eq t a (by omega)
    have hbl := bt_lt t a
    have hI : (0 : Int) ≤ (a : Int) ∧ (a : Int) < (t.size : Int) := by omega
    have hwb : IntKind.i64.wrap (bt t a : Int) = (bt t a : Int) := IntWalk.i64_in _ (by omega)
    go_enter Try.func117, Try.ntmps117
    go_wp2
    go_quiet (fail)
    go_wp2
    go_quiet (fail)
    go_wp2
    go_ret
    exact ⟨rfl, _, World.drewN_drewN _ _ _⟩

end Go.Proofs.Ytgjgjgihceijnaa

