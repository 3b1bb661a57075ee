/- Texts put together: XpPure, WrSame. -/
import Derived.Test.YtgjgjgihceijnaaG23
import Derived.Test.YtgjgjgihceijnaaG20
namespace Go.Stn
/-- The places of an expression. -/
def Rx.fns : Rx → List (Nat → Bool)
  | .pl f => [f]
  | .cat a b => a.fns ++ b.fns
  | .alt a b => a.fns ++ b.fns
  | .opt a => a.fns
  | .plus a => a.fns
  | .star a => a.fns
theorem Rx.fns_len : ∀ r : Rx, r.fns.length = r.np
  | .pl _ => rfl
  | .cat a b => by show (a.fns ++ b.fns).length = a.np + b.np; rw [List.length_append, a.fns_len, b.fns_len]
  | .alt a b => by show (a.fns ++ b.fns).length = a.np + b.np; rw [List.length_append, a.fns_len, b.fns_len]
  | .opt a => a.fns_len
  | .plus a => a.fns_len
  | .star a => a.fns_len

/-- Is it the byte b that stands at a? -/
def isB (t : ByteArray) (b : Int) (a : Nat) : Bool := decide (peekP t a = b)
def escX (t : ByteArray) (a : Nat) : Option (Int × Nat) :=
  if isB t 110 a = true then some (10, a + 1)
  else if isB t 115 a = true then some (32, a + 1)
  else if visB (peekP t a) = true ∧ lodB (peekP t a) = false then some (peekP t a, a + 1)
  else none
def singleX (t sp : ByteArray) (a : Nat) : Option (Int × Nat) :=
  if isB t 92 a = true then escX t (a + 1)
  else if plainB (peekP t a) sp = true then some (peekP t a, a + 1)
  else none
def memberX (t : ByteArray) (f : Nat → Bool) (a : Nat) : Option ((Nat → Bool) × Nat) :=
  match singleX t spIn a with
  | none => none
  | some (x, a1) => if isB t 45 a1 = false then some (withB f x x, a1) else
    match singleX t spIn (a1 + 1) with
    | none => none
    | some (y, a2) => if y < x then none else some (withB f x y, a2)
def setLoopX (t : ByteArray) : Nat → (Nat → Bool) → Nat → Option ((Nat → Bool) × Nat)
  | 0, _, _ => none
  | n + 1, f, a => if isB t 93 a = true then some (f, a + 1) else
    match memberX t f a with
    | none => none
    | some (g, a1) => setLoopX t n g a1
def setRX (t : ByteArray) (a : Nat) : Option ((Nat → Bool) × Nat) :=
  match memberX t zeroF a with
  | none => none
  | some (f, a1) => setLoopX t (t.size + 1) f a1
def setX (t : ByteArray) (a : Nat) : Option ((Nat → Bool) × Nat) :=
  if isB t 94 a = true then
    match setRX t (a + 1) with
    | none => none
    | some (f, a1) => some ((fun i => !(f i)), a1)
  else setRX t a
/-- A place: the bytes that it allows. -/
def allowedX (t : ByteArray) (a : Nat) : Option ((Nat → Bool) × Nat) :=
  if isB t 91 a = true then setX t (a + 1)
  else if isB t 46 a = true then some ((fun i => !(zeroF i)), a + 1)
  else match singleX t spOut a with
    | none => none
    | some (x, a1) => some (withB zeroF x x, a1)
def atPieceX (t : ByteArray) (a : Nat) : Bool :=
  decide (peekP t a = 40 ∨ peekP t a = 91 ∨ peekP t a = 46 ∨ peekP t a = 92) || plainB (peekP t a) spOut
def atomX (t : ByteArray) (ex : Nat → Option (Rx × Nat)) (a : Nat) : Option (Rx × Nat) :=
  if isB t 40 a = true then
    match ex (a + 1) with
    | none => none
    | some (r, a1) => if isB t 41 a1 = true then some (r, a1 + 1) else none
  else match allowedX t a with
    | none => none
    | some (f, a1) => some (.pl f, a1)
def markX (k : Int) (r : Rx) : Rx := if k = 3 then .opt r else if k = 4 then .plus r else .star r
def pieceX (t : ByteArray) (ex : Nat → Option (Rx × Nat)) (a : Nat) : Option (Rx × Nat) :=
  match atomX t ex a with
  | none => none
  | some (r, a1) => if markK (peekP t a1) = 0 then some (r, a1) else some (markX (markK (peekP t a1)) r, a1 + 1)
def altLoopX (t : ByteArray) (ex : Nat → Option (Rx × Nat)) : Nat → Rx → Nat → Option (Rx × Nat)
  | 0, _, _ => none
  | n + 1, r, a => if atPieceX t a = false then some (r, a) else
    match pieceX t ex a with
    | none => none
    | some (r2, a2) => altLoopX t ex n (.cat r r2) a2
def altX (t : ByteArray) (ex : Nat → Option (Rx × Nat)) (a : Nat) : Option (Rx × Nat) :=
  match pieceX t ex a with
  | none => none
  | some (r, a1) => altLoopX t ex (t.size + 1) r a1
def exprLoopX (t : ByteArray) (ex : Nat → Option (Rx × Nat)) : Nat → Rx → Nat → Option (Rx × Nat)
  | 0, _, _ => none
  | n + 1, r, a => if isB t 124 a = false then some (r, a) else
    match altX t ex (a + 1) with
    | none => none
    | some (r2, a2) => exprLoopX t ex n (.alt r r2) a2
def exprX (t : ByteArray) : Nat → Nat → Option (Rx × Nat)
  | 0, _ => none
  | f + 1, a => match altX t (exprX t f) a with
    | none => none
    | some (r, a1) => exprLoopX t (exprX t f) (t.size + 1) r a1

def atS (st : PSt) (a : Nat) : PSt := { st with at_ := a }
def putR (st : PSt) (r : Rx) (a : Nat) : PSt := ⟨a, st.rules, st.nodes ++ r.flat st.nodes.length st.places.length, st.places ++ r.fns⟩
/-- A reader of numbers. -/
def SimI (p : Int × Bool × PSt) (st : PSt) : Option (Int × Nat) → Prop
  | none => p.2.1 = false
  | some (x, a) => p = (x, true, atS st a)
def SimF (p : (Nat → Bool) × Bool × PSt) (st : PSt) : Option ((Nat → Bool) × Nat) → Prop
  | none => p.2.1 = false
  | some (x, a) => p = (x, true, atS st a)
def SimR (p : Int × Bool × PSt) (st : PSt) : Option (Rx × Nat) → Prop
  | none => p.2.1 = false
  | some (r, a) => p = (((st.nodes.length + r.sz - 1 : Nat) : Int), true, putR st r a)

theorem nextB_is (t : ByteArray) (b : Int) (st : PSt) : nextB t b st = isB t b st.at_ := by
  rw [Bool.eq_iff_iff]
  exact Iff.rfl
theorem adv_atS (st : PSt) : adv st = atS st (st.at_ + 1) := rfl
theorem esc_sim (t : ByteArray) (st : PSt) : SimI (escP t st) st (escX t st.at_) := by
  unfold escP escX
  simp only [nextB_is, adv_atS]
  split
  · rfl
  · split
    · rfl
    · split
      · rfl
      · rfl
theorem single_sim (t sp : ByteArray) (st : PSt) : SimI (singleP t sp st) st (singleX t sp st.at_) := by
  unfold singleP singleX
  simp only [nextB_is, adv_atS]
  split
  · have := esc_sim t (atS st (st.at_ + 1))
    show SimI _ _ (escX t (atS st (st.at_ + 1)).at_)
    cases h : escX t (atS st (st.at_ + 1)).at_ with
    | none => rw [h] at this; exact this
    | some x => rw [h] at this; exact this
  · split
    · rfl
    · rfl
theorem member_sim (t : ByteArray) (f : Nat → Bool) (st : PSt) : SimF (memberP t f st) st (memberX t f st.at_) := by
  have h1 := single_sim t spIn st
  unfold memberX
  cases e1 : singleX t spIn st.at_ with
  | none =>
    rw [e1] at h1
    obtain ⟨b, ok, s1, hS⟩ : ∃ b ok s, singleP t spIn st = (b, ok, s) := ⟨_, _, _, rfl⟩
    have ho : ok = false := by have : (singleP t spIn st).2.1 = false := h1; rw [hS] at this; exact this
    subst ho
    show (memberP t f st).2.1 = false
    rw [memberP_no1 hS]
  | some y =>
    obtain ⟨x, a1⟩ := y
    rw [e1] at h1
    have h1 : singleP t spIn st = (x, true, atS st a1) := h1
    simp only
    by_cases e2 : isB t 45 a1 = false
    · rw [if_pos e2]
      exact memberP_one h1 e2
    · rw [if_neg e2]
      have e2' : nextB t 45 (atS st a1) = true := by
        have : isB t 45 a1 = true := by simpa using e2
        exact this
      have h2 := single_sim t spIn (adv (atS st a1))
      rw [show (adv (atS st a1)).at_ = a1 + 1 from rfl] at h2
      cases e3 : singleX t spIn (a1 + 1) with
      | none =>
        rw [e3] at h2
        obtain ⟨b, ok, s1, hS⟩ : ∃ b ok s, singleP t spIn (adv (atS st a1)) = (b, ok, s) := ⟨_, _, _, rfl⟩
        have ho : ok = false := by have : (singleP t spIn (adv (atS st a1))).2.1 = false := h2; rw [hS] at this; exact this
        show (memberP t f st).2.1 = false
        rw [memberP_no2 h1 e2' hS (.inl ho)]
      | some z =>
        obtain ⟨y, a2⟩ := z
        rw [e3] at h2
        have h2 : singleP t spIn (adv (atS st a1)) = (y, true, atS st a2) := h2
        simp only
        by_cases e4 : y < x
        · rw [if_pos e4]
          show (memberP t f st).2.1 = false
          rw [memberP_no2 h1 e2' h2 (.inr e4)]
        · rw [if_neg e4]
          exact memberP_two h1 e2' h2 e4
theorem setLoop_sim (t : ByteArray) : ∀ (n : Nat) (f : Nat → Bool) (st : PSt), SimF (setLoop t n f true st) st (setLoopX t n f st.at_) := by
  intro n
  induction n with
  | zero => intro f st; rfl
  | succ k ih =>
    intro f st
    rw [setLoopX]
    by_cases h : isB t 93 st.at_ = true
    · rw [if_pos h, setLoop_done h]; rfl
    · rw [if_neg h, setLoop_more (by simpa [nextB_is] using h)]
      have hm := member_sim t f st
      cases e : memberX t f st.at_ with
      | none =>
        rw [e] at hm
        have hm : (memberP t f st).2.1 = false := hm
        show (setLoop t k (memberP t f st).1 (memberP t f st).2.1 (memberP t f st).2.2).2.1 = false
        rw [hm, setLoop_false]
      | some y =>
        obtain ⟨g, a1⟩ := y
        rw [e] at hm
        have hm : memberP t f st = (g, true, atS st a1) := hm
        rw [hm]
        have := ih g (atS st a1)
        rw [show (atS st a1).at_ = a1 from rfl] at this
        simp only
        cases e2 : setLoopX t k g a1 with
        | none => rw [e2] at this; exact this
        | some z => rw [e2] at this; exact this
theorem setR_sim (t : ByteArray) (st : PSt) : SimF (setR t st) st (setRX t st.at_) := by
  unfold setR setRX
  have hm := member_sim t zeroF st
  cases e : memberX t zeroF st.at_ with
  | none =>
    rw [e] at hm
    have hm : (memberP t zeroF st).2.1 = false := hm
    show (setLoop t (t.size + 1) _ (memberP t zeroF st).2.1 _).2.1 = false
    rw [hm, setLoop_false]
  | some y =>
    obtain ⟨g, a1⟩ := y
    rw [e] at hm
    have hm : memberP t zeroF st = (g, true, atS st a1) := hm
    rw [hm]
    have := setLoop_sim t (t.size + 1) g (atS st a1)
    rw [show (atS st a1).at_ = a1 from rfl] at this
    simp only
    cases e2 : setLoopX t (t.size + 1) g a1 with
    | none => rw [e2] at this; exact this
    | some z => rw [e2] at this; exact this
theorem set_sim (t : ByteArray) (st : PSt) : SimF (setP t st) st (setX t st.at_) := by
  unfold setP setX
  simp only [nextB_is]
  by_cases h : isB t 94 st.at_ = true
  · have hR := setR_sim t (adv st)
    rw [if_pos h, if_pos h]
    rw [show (adv st).at_ = st.at_ + 1 from rfl] at hR
    cases e : setRX t (st.at_ + 1) with
    | none =>
      rw [e] at hR
      have hR : (setR t (adv st)).2.1 = false := hR
      rw [if_neg (by rw [hR]; decide)]
      rfl
    | some y =>
      obtain ⟨g, a1⟩ := y
      rw [e] at hR
      have hR : setR t (adv st) = (g, true, atS st a1) := hR
      rw [hR]
      rfl
  · have hR := setR_sim t st
    rw [if_neg h, if_neg h]
    cases e : setRX t st.at_ with
    | none =>
      rw [e] at hR
      have hR : (setR t st).2.1 = false := hR
      rw [if_neg (by rw [hR]; decide)]
      rfl
    | some y =>
      obtain ⟨g, a1⟩ := y
      rw [e] at hR
      have hR : setR t st = (g, true, atS st a1) := hR
      rw [hR]
      rfl
theorem allowed_sim (t : ByteArray) (st : PSt) : SimF (allowedP t st) st (allowedX t st.at_) := by
  unfold allowedP allowedX
  simp only [nextB_is]
  by_cases h : isB t 91 st.at_ = true
  · rw [if_pos h, if_pos h]
    have := set_sim t (adv st)
    rw [show (adv st).at_ = st.at_ + 1 from rfl] at this
    cases e : setX t (st.at_ + 1) with
    | none => rw [e] at this; exact this
    | some y => rw [e] at this; exact this
  · rw [if_neg h, if_neg h]
    by_cases h2 : isB t 46 st.at_ = true
    · rw [if_pos h2, if_pos h2]; rfl
    · rw [if_neg h2, if_neg h2]
      have hS := single_sim t spOut st
      cases e : singleX t spOut st.at_ with
      | none =>
        rw [e] at hS
        have hS : (singleP t spOut st).2.1 = false := hS
        rw [if_neg (by rw [hS]; decide)]
        rfl
      | some y =>
        obtain ⟨x, a1⟩ := y
        rw [e] at hS
        have hS : singleP t spOut st = (x, true, atS st a1) := hS
        rw [hS]
        rfl
theorem place_sim (t : ByteArray) (st : PSt) : SimR (placeP t st) st (match allowedX t st.at_ with
    | none => none
    | some (f, a1) => some (.pl f, a1)) := by
  unfold placeP
  have hS := allowed_sim t st
  cases e : allowedX t st.at_ with
  | none =>
    rw [e] at hS
    have hS : (allowedP t st).2.1 = false := hS
    rw [if_neg (by rw [hS]; decide)]
    rfl
  | some y =>
    obtain ⟨f, a1⟩ := y
    rw [e] at hS
    have hS : allowedP t st = (f, true, atS st a1) := hS
    rw [hS]
    rfl

/-- The expressions in brackets are read alike. -/
def SimE (ex : PSt → Int × Bool × PSt) (exx : Nat → Option (Rx × Nat)) : Prop := ∀ st, SimR (ex st) st (exx st.at_)

theorem atom_sim {t : ByteArray} {ex : PSt → Int × Bool × PSt} {exx : Nat → Option (Rx × Nat)} (h : SimE ex exx) (st : PSt) : SimR (atomP t ex st) st (atomX t exx st.at_) := by
  unfold atomP atomX
  simp only [nextB_is]
  by_cases h1 : isB t 40 st.at_ = true
  · rw [if_pos h1, if_pos h1]
    have hS := h (adv st)
    rw [show (adv st).at_ = st.at_ + 1 from rfl] at hS
    cases e : exx (st.at_ + 1) with
    | none =>
      rw [e] at hS
      have hS : (ex (adv st)).2.1 = false := hS
      rw [if_neg (by rw [hS]; simp)]
      rfl
    | some y =>
      obtain ⟨r, a1⟩ := y
      rw [e] at hS
      have hS : ex (adv st) = (((st.nodes.length + r.sz - 1 : Nat) : Int), true, putR (adv st) r a1) := hS
      rw [hS]
      by_cases h2 : isB t 41 a1 = true
      · rw [if_pos ⟨rfl, h2⟩]
        simp only [if_pos h2]
        rfl
      · rw [if_neg (fun hh => h2 hh.2)]
        simp only [if_neg h2]
        rfl
  · rw [if_neg h1, if_neg h1]
    exact place_sim t st

theorem markX_flat {p : Int} (h : markK p ≠ 0) (r : Rx) (nb pb : Nat) : (markX (markK p) r).flat nb pb = r.flat nb pb ++ [(markK p, ((nb + r.sz - 1 : Nat) : Int), 0)] ∧ (markX (markK p) r).sz = r.sz + 1 ∧ (markX (markK p) r).fns = r.fns ∧ (markX (markK p) r).np = r.np := by
  unfold markK at *
  unfold markX
  split at h
  · rename_i e; rw [if_pos e]; exact ⟨rfl, rfl, rfl, rfl⟩
  · rename_i e
    rw [if_neg e]
    split at h
    · rename_i e; rw [if_pos e]; exact ⟨rfl, rfl, rfl, rfl⟩
    · rename_i e
      rw [if_neg e]
      split at h
      · rename_i e; rw [if_pos e]; exact ⟨rfl, rfl, rfl, rfl⟩
      · exact absurd rfl h

theorem piece_sim {t : ByteArray} {ex : PSt → Int × Bool × PSt} {exx : Nat → Option (Rx × Nat)} (h : SimE ex exx) (st : PSt) : SimR (pieceP t ex st) st (pieceX t exx st.at_) := by
  unfold pieceP pieceX
  have hS := atom_sim (t := t) h st
  cases e : atomX t exx st.at_ with
  | none =>
    rw [e] at hS
    have hS : (atomP t ex st).2.1 = false := hS
    rw [if_neg (by rw [hS]; decide)]
    rfl
  | some y =>
    obtain ⟨r, a1⟩ := y
    rw [e] at hS
    have hS : atomP t ex st = (((st.nodes.length + r.sz - 1 : Nat) : Int), true, putR st r a1) := hS
    rw [hS]
    rw [if_pos rfl]
    simp only
    rw [show (putR st r a1).at_ = a1 from rfl]
    by_cases hm : markK (peekP t a1) = 0
    · rw [if_pos hm, if_pos hm]; rfl
    · rw [if_neg hm, if_neg hm]
      obtain ⟨f1, f2, f3, f4⟩ := markX_flat hm r st.nodes.length st.places.length
      show (_, true, addN (markK (peekP t a1), _, 0) (adv (putR st r a1))) = (_, true, putR st (markX (markK (peekP t a1)) r) (a1 + 1))
      unfold putR addN adv
      rw [f1, f2, f3]
      have := r.sz_pos
      simp [Rx.flat_len]
theorem putR_cat (st : PSt) (r r2 : Rx) (a1 a2 : Nat) : addN (1, ((st.nodes.length + r.sz - 1 : Nat) : Int), (((putR st r a1).nodes.length + r2.sz - 1 : Nat) : Int)) (putR (putR st r a1) r2 a2) = putR st (.cat r r2) a2 := by
  unfold putR addN
  simp only [PSt.mk.injEq, true_and]
  refine ⟨?_, ?_⟩
  · show _ = st.nodes ++ (r.flat _ _ ++ (r2.flat _ _ ++ [_]))
    simp only [List.length_append, r.flat_len, r.fns_len, List.append_assoc]
  · show _ = st.places ++ (r.fns ++ r2.fns)
    rw [List.append_assoc]
theorem putR_alt (st : PSt) (r r2 : Rx) (a1 a2 : Nat) : addN (2, ((st.nodes.length + r.sz - 1 : Nat) : Int), (((putR st r a1).nodes.length + r2.sz - 1 : Nat) : Int)) (putR (putR st r a1) r2 a2) = putR st (.alt r r2) a2 := by
  unfold putR addN
  simp only [PSt.mk.injEq, true_and]
  refine ⟨?_, ?_⟩
  · show _ = st.nodes ++ (r.flat _ _ ++ (r2.flat _ _ ++ [_]))
    simp only [List.length_append, r.flat_len, r.fns_len, List.append_assoc]
  · show _ = st.places ++ (r.fns ++ r2.fns)
    rw [List.append_assoc]
theorem putR_len (st : PSt) (r : Rx) (a : Nat) : (putR st r a).nodes.length = st.nodes.length + r.sz := by
  unfold putR; simp [r.flat_len]
theorem altLoop_bad (t : ByteArray) (ex : PSt → Int × Bool × PSt) (n : Nat) (x : Int) (st : PSt) : (altLoop t ex n x false st).2.1 = false := by cases n <;> rfl
theorem exprLoop_bad (t : ByteArray) (ex : PSt → Int × Bool × PSt) (n : Nat) (x : Int) (st : PSt) : (exprLoop t ex n x false st).2.1 = false := by cases n <;> rfl

theorem altLoop_sim {t : ByteArray} {ex : PSt → Int × Bool × PSt} {exx : Nat → Option (Rx × Nat)} (h : SimE ex exx) (st : PSt) : ∀ (n : Nat) (r : Rx) (a : Nat),
    SimR (altLoop t ex n ((st.nodes.length + r.sz - 1 : Nat) : Int) true (putR st r a)) st (altLoopX t exx n r a) := by
  intro n
  induction n with
  | zero => intro r a; rfl
  | succ k ih =>
    intro r a
    rw [altLoop, altLoopX, if_neg (by decide)]
    rw [show atPieceB t (putR st r a) = atPieceX t a from rfl]
    by_cases hp : atPieceX t a = false
    · rw [if_pos hp, if_pos hp]; rfl
    · rw [if_neg hp, if_neg hp]
      have hS := piece_sim (t := t) h (putR st r a)
      rw [show (putR st r a).at_ = a from rfl] at hS
      cases e : pieceX t exx a with
      | none =>
        rw [e] at hS
        have hS : (pieceP t ex (putR st r a)).2.1 = false := hS
        rw [hS]
        exact altLoop_bad _ _ _ _ _
      | some y =>
        obtain ⟨r2, a2⟩ := y
        rw [e] at hS
        have hS : pieceP t ex (putR st r a) = ((((putR st r a).nodes.length + r2.sz - 1 : Nat) : Int), true, putR (putR st r a) r2 a2) := hS
        rw [hS]
        simp only
        rw [putR_cat]
        have hlen : (putR (putR st r a) r2 a2).nodes.length = st.nodes.length + (Rx.cat r r2).sz - 1 := by
          rw [putR_len, putR_len]; show _ = st.nodes.length + (r.sz + r2.sz + 1) - 1; omega
        rw [hlen]
        exact ih (.cat r r2) a2
theorem alt_sim {t : ByteArray} {ex : PSt → Int × Bool × PSt} {exx : Nat → Option (Rx × Nat)} (h : SimE ex exx) (st : PSt) : SimR (altP t ex st) st (altX t exx st.at_) := by
  unfold altP altX
  have hS := piece_sim (t := t) h st
  cases e : pieceX t exx st.at_ with
  | none =>
    rw [e] at hS
    have hS : (pieceP t ex st).2.1 = false := hS
    rw [hS]
    exact altLoop_bad _ _ _ _ _
  | some y =>
    obtain ⟨r, a1⟩ := y
    rw [e] at hS
    have hS : pieceP t ex st = (((st.nodes.length + r.sz - 1 : Nat) : Int), true, putR st r a1) := hS
    rw [hS]
    exact altLoop_sim h st _ r a1
theorem exprLoop_sim {t : ByteArray} {ex : PSt → Int × Bool × PSt} {exx : Nat → Option (Rx × Nat)} (h : SimE ex exx) (st : PSt) : ∀ (n : Nat) (r : Rx) (a : Nat),
    SimR (exprLoop t ex n ((st.nodes.length + r.sz - 1 : Nat) : Int) true (putR st r a)) st (exprLoopX t exx n r a) := by
  intro n
  induction n with
  | zero => intro r a; rfl
  | succ k ih =>
    intro r a
    rw [exprLoop, exprLoopX, if_neg (by decide)]
    rw [show nextB t 124 (putR st r a) = isB t 124 a from rfl]
    by_cases hp : isB t 124 a = false
    · rw [if_pos hp, if_pos hp]; rfl
    · rw [if_neg hp, if_neg hp]
      have hS := alt_sim (t := t) h (adv (putR st r a))
      rw [show (adv (putR st r a)).at_ = a + 1 from rfl] at hS
      have he : ∀ r2 a2, putR (adv (putR st r a)) r2 a2 = putR (putR st r a) r2 a2 := fun _ _ => rfl
      cases e : altX t exx (a + 1) with
      | none =>
        rw [e] at hS
        have hS : (altP t ex (adv (putR st r a))).2.1 = false := hS
        rw [hS]
        exact exprLoop_bad _ _ _ _ _
      | some y =>
        obtain ⟨r2, a2⟩ := y
        rw [e] at hS
        have hS : altP t ex (adv (putR st r a)) = ((((putR st r a).nodes.length + r2.sz - 1 : Nat) : Int), true, putR (putR st r a) r2 a2) := hS
        rw [hS]
        simp only
        rw [putR_alt]
        have hlen : (putR (putR st r a) r2 a2).nodes.length = st.nodes.length + (Rx.alt r r2).sz - 1 := by
          rw [putR_len, putR_len]; show _ = st.nodes.length + (r.sz + r2.sz + 1) - 1; omega
        rw [hlen]
        exact ih (.alt r r2) a2
theorem expr_sim (t : ByteArray) : ∀ f, SimE (exprP t f) (exprX t f) := by
  intro f
  induction f with
  | zero => intro st; rfl
  | succ k ih =>
    intro st
    rw [exprP, exprX]
    have hS := alt_sim (t := t) ih st
    cases e : altX t (exprX t k) st.at_ with
    | none =>
      rw [e] at hS
      have hS : (altP t (exprP t k) st).2.1 = false := hS
      rw [hS]
      exact exprLoop_bad _ _ _ _ _
    | some y =>
      obtain ⟨r, a1⟩ := y
      rw [e] at hS
      have hS : altP t (exprP t k) st = (((st.nodes.length + r.sz - 1 : Nat) : Int), true, putR st r a1) := hS
      rw [hS]
      exact exprLoop_sim ih st _ r a1
end Go.Stn

namespace Go.Stn
open Go.RowKit
/-- Conditions that can be read, below top: n of them; ns states each. -/
structure CM (w : World) (top cg n K : Nat) (yb : Nat → Nat) (zb : Nat → Nat → Nat) (ns : Nat → Nat) (tk : Nat → Nat → Nat) (nx : Nat → Nat → Nat → Int) : Prop where
  cc : ∀ c, c < n → w.cell? ⟨cg, c, none⟩ = some (.slice (some ⟨yb c, 0, none⟩) (ns c) (ns c))
  tc : ∀ c s, c < n → s < ns c → w.cell? ⟨yb c, s * 2, none⟩ = some (.int .i64 (tk c s))
  nc : ∀ c s, c < n → s < ns c → w.cell? ⟨yb c, s * 2 + 1, none⟩ = some (.slice (some ⟨zb c s, 0, none⟩) K K)
  lc : ∀ c s k, c < n → s < ns c → k < K → w.cell? ⟨zb c s, k, none⟩ = some (.int .i64 (nx c s k))
  b0 : cg < top
  b1 : ∀ c, c < n → yb c < top
  b2 : ∀ c s, c < n → s < ns c → zb c s < top
theorem CM.below {w w' : World} {top cg n K B : Nat} {yb : Nat → Nat} {zb : Nat → Nat → Nat} {ns : Nat → Nat} {tk : Nat → Nat → Nat} {nx : Nat → Nat → Nat → Int} (h : CM w top cg n K yb zb ns tk nx) (hB : Below B w w') (hb : top ≤ B) : CM w' top cg n K yb zb ns tk nx :=
  ⟨fun c hc => (hB.cell (p := ⟨cg, c, none⟩) (Nat.lt_of_lt_of_le h.b0 hb)).trans (h.cc c hc), fun c s hc hs => (hB.cell (p := ⟨yb c, s * 2, none⟩) (Nat.lt_of_lt_of_le (h.b1 c hc) hb)).trans (h.tc c s hc hs), fun c s hc hs => (hB.cell (p := ⟨yb c, s * 2 + 1, none⟩) (Nat.lt_of_lt_of_le (h.b1 c hc) hb)).trans (h.nc c s hc hs),
    fun c s k hc hs hk => (hB.cell (p := ⟨zb c s, k, none⟩) (Nat.lt_of_lt_of_le (h.b2 c s hc hs) hb)).trans (h.lc c s k hc hs hk), h.b0, h.b1, h.b2⟩
/-- Do two groups lead alike, in the conditions below c? -/
def samB (ns : Nat → Nat) (nx : Nat → Nat → Nat → Int) (n g h : Nat) : Bool := decide (∀ c, c < n → ∀ s, s < ns c → nx c s g = nx c s h)
theorem samB_no {ns : Nat → Nat} {nx : Nat → Nat → Nat → Int} {n g h c s : Nat} (hc : c < n) (hs : s < ns c) (hne : nx c s g ≠ nx c s h) : samB ns nx n g h = false := by
  unfold samB; rw [decide_eq_false_iff_not]; intro q; exact hne (q c hc s hs)
theorem samB_yes {ns : Nat → Nat} {nx : Nat → Nat → Nat → Int} {n g h : Nat} (hh : ∀ c, c < n → ∀ s, s < ns c → nx c s g = nx c s h) : samB ns nx n g h = true := by
  unfold samB; rw [decide_eq_true_eq]; exact hh
/-- A lead's byte. -/
def ldB (x : Int) : Nat := if x = -1 then 255 else x.toNat % 256
end Go.Stn
namespace Go.Proofs.Ytgjgjgihceijnaa
open Go.RowKit Go.Stn

theorem Try.stateSize : (Try.prog.info? 153).map (·.size) = some 2 := by kernel_rfl

set_option maxRecDepth 100000 in
set_option maxHeartbeats 1000000 in
theorem wsame_any (cg n K cap : Nat) (yb : Nat → Nat) (zb : Nat → Nat → Nat) (ns : Nat → Nat) (tk : Nat → Nat → Nat) (nx : Nat → Nat → Nat → Int) (g h : Nat) (w : World) (hn : n ≤ 1000) (hns : ∀ c, c < n → ns c ≤ 1000) (hg : g < K) (hh : h < K) (hC : CM w w.heap.size cg n K yb zb ns tk nx) :
    Calls Try.prog 97 #[.slice (some ⟨cg, 0, none⟩) n cap, .int .i64 g, .int .i64 h] w fun e w' => e = .returned (.bool (samB ns nx n g h)) ∧ Below w.heap.size w w' := by
  have HC := hidZ hC
  have HNS := hidZ hns
  clear hC hns
  have hgI : (0 : Int) ≤ (g : Int) ∧ (g : Int) < (K : Int) := by omega
  have hhI : (0 : Int) ≤ (h : Int) ∧ (h : Int) < (K : Int) := by omega
  go_enter Try.func97, Try.ntmps97
  go_wp2_with fail
  go_loopw [13] (fun x wr => ∃ c : Nat, x = .int .i64 (c : Int) ∧ c ≤ n ∧ (∀ c', c' < c → ∀ s, s < ns c' → nx c' s g = nx c' s h) ∧ Below w.heap.size w wr) (fun x _ => n - (intOf x).toNat)
  case atStart => exact ⟨0, rfl, Nat.zero_le _, fun c hc => absurd hc (Nat.not_lt_zero _), Below.refl _ _⟩
  case round =>
    obtain ⟨c, rfl, hcn, hall, hb⟩ := hrel
    have HA := hidZ hall
    have HB := hidZ hb
    clear hall hb
    by_cases hlt : c < n
    · have c1 := (HC.out.below HB.out (Nat.le_refl _)).cc c hlt
      obtain ⟨N, hN⟩ : ∃ N, ns c = N := ⟨_, rfl⟩
      rw [hN] at c1
      have hNb : N ≤ 1000 := by rw [← hN]; exact HNS.out c hlt
      replace hN := hidZ hN
      have hcI : (0 : Int) ≤ (c : Int) ∧ (c : Int) < (n : Int) := by omega
      have hd1 : decide ((c : Int) < (n : Int)) = true := by simp; omega
      go_wp2_with fail
      clear c1
      go_loopw [19] (fun x wj => ∃ s : Nat, x = .int .i64 (s : Int) ∧ s ≤ N ∧ (∀ s', s' < s → nx c s' g = nx c s' h) ∧ Below w.heap.size w wj) (fun x _ => N - (intOf x).toNat)
      case atStart => exact ⟨0, rfl, Nat.zero_le _, fun s hs => absurd hs (Nat.not_lt_zero _), HB.out⟩
      case round =>
        obtain ⟨s, rfl, hsN, hall2, hb2⟩ := hrel
        have HA2 := hidZ hall2
        have HB2 := hidZ hb2
        have hzw := hb2.size
        clear hall2 hb2 HB
        by_cases hs : s < N
        · have hs' : s < ns c := by rw [hN.out]; exact hs
          have HCj := hidZ (HC.out.below HB2.out (Nat.le_refl _))
          have HRG : Hid (wr.rangeAt (yb c) (s * 2) [.int .i64 (tk c s), .slice (some ⟨zb c s, 0, none⟩) K K]) := fun i v hv => by
            have hi : i < 2 := (List.getElem?_eq_some_iff.1 hv).1
            have : i = 0 ∨ i = 1 := by omega
            rcases this with rfl | rfl
            · cases hv; exact HCj.out.tc c s hlt hs'
            · cases hv; exact HCj.out.nc c s hlt hs'
          have HBA : Hid (Below w.heap.size w (wr.alloc (.cells #[.int .i64 (tk c s), .slice (some ⟨zb c s, 0, none⟩) K K] 153))) := HB2.out.alloc hzw _
          have d1 : (wr.alloc (.cells #[.int .i64 (tk c s), .slice (some ⟨zb c s, 0, none⟩) K K] 153)).cell? ⟨wr.heap.size, 1, none⟩ = some (.slice (some ⟨zb c s, 0, none⟩) K K) := (World.cell?_alloc_at _ _ _ 1 rfl).trans rfl
          have HCk := hidZ (HC.out.below HBA.out (Nat.le_refl _))
          have l1 := HCk.out.lc c s g hlt hs' hg
          have l2 := HCk.out.lc c s h hlt hs' hh
          have HNO := hidZ (@samB_no ns nx n g h c s hlt hs')
          have HST : Hid (nx c s g = nx c s h → ∀ s', s' < s + 1 → nx c s' g = nx c s' h) := fun e s' hs'' => by
            by_cases q : s' = s
            · rw [q]; exact e
            · exact HA2.out s' (by omega)
          have hsI : (0 : Int) ≤ (s : Int) ∧ (s : Int) < (N : Int) := by omega
          have hd2 : decide ((s : Int) < (N : Int)) = true := by simp; omega
          generalize nx c s g = x1 at *
          generalize nx c s h = x2 at *
          generalize tk c s = tks at *
          generalize zb c s = zbs at *
          clear HCj HCk hs'
          go_upto_region 7 with (first | (refine wpList_load_mid rfl 153 (.tmp 21) rfl (yb c) (s * 2) rfl [.int .i64 (tks : Int), .slice (some ⟨zbs, 0, none⟩) K K] _ HRG.out Try.underlying153 rfl Try.stateSize ?_))
          generalize wr.alloc (.cells #[.int .i64 (tks : Int), .slice (some ⟨zbs, 0, none⟩) K K] 153) = A at *
          by_cases hne : x1 = x2
          · have hd3 : (x1 != x2) = false := by rw [hne]; simp
            have HA3 := hidZ (HST.out hne)
            clear hne
            go_quiet (fail)
            go_wp2
            go_roundw
            case rel => exact ⟨s + 1, by go_num, hs, HA3.out, ⟨HBA.out.os, HBA.out.tape, HBA.out.output, HBA.out.size, HBA.out.block⟩⟩
            case measure => simp [intOf]; omega
          · have hd3 : (x1 != x2) = true := by rw [bne_iff_ne]; exact hne
            have HE := hidZ (HNO.out hne)
            clear hne
            go_quiet (fail)
            go_wp2
            go_ret
            exact ⟨by rw [HE.out]; rfl, ⟨HBA.out.os, HBA.out.tape, HBA.out.output, HBA.out.size, HBA.out.block⟩⟩
        · have hd2 : decide ((s : Int) < (N : Int)) = false := by simp; omega
          have HA4 : Hid (∀ c', c' < c + 1 → ∀ s, s < ns c' → nx c' s g = nx c' s h) := fun c' hc' s' hs' => by
            by_cases q : c' = c
            · rw [q] at hs' ⊢; exact HA2.out s' (by rw [hN.out] at hs'; omega)
            · exact HA.out c' (by omega) s' hs'
          go_wp2
          go_roundw
          case rel => exact ⟨c + 1, by go_num, hlt, HA4.out, HB2.out⟩
          case measure => simp [intOf]; omega
    · have e : c = n := by omega
      subst e
      have HE := hidZ (samB_yes HA.out)
      have hd1 : decide ((c : Int) < (c : Int)) = false := by simp
      go_wp2
      go_ret
      exact ⟨by rw [HE.out]; rfl, HB.out⟩
end Go.Proofs.Ytgjgjgihceijnaa

