/- Texts put together: XpPure, XpFile. -/
import Derived.Test.YtgjgjgihceijnaaG31
import Derived.Test.YtgjgjgihceijnaaG25
/- Plain functions: the reader of rule files once more, by places in the text alone: what it reads as expressions. -/
namespace Go.Stn
/-- The places of an expression. -/
def Rx.fns : Rx → List (Nat → Bool)
  | .pl f => [f]
  | .cat a b => a.fns ++ b.fns
  | .alt a b => a.fns ++ b.fns
  | .opt a => a.fns
  | .plus a => a.fns
  | .star a => a.fns
theorem Rx.fns_len : ∀ r : Rx, r.fns.length = r.np
  | .pl _ => rfl
  | .cat a b => by show (a.fns ++ b.fns).length = a.np + b.np; rw [List.length_append, a.fns_len, b.fns_len]
  | .alt a b => by show (a.fns ++ b.fns).length = a.np + b.np; rw [List.length_append, a.fns_len, b.fns_len]
  | .opt a => a.fns_len
  | .plus a => a.fns_len
  | .star a => a.fns_len

/-- Is it the byte b that stands at a? -/
def isB (t : ByteArray) (b : Int) (a : Nat) : Bool := decide (peekP t a = b)
def escX (t : ByteArray) (a : Nat) : Option (Int × Nat) :=
  if isB t 110 a = true then some (10, a + 1)
  else if isB t 115 a = true then some (32, a + 1)
  else if visB (peekP t a) = true ∧ lodB (peekP t a) = false then some (peekP t a, a + 1)
  else none
def singleX (t sp : ByteArray) (a : Nat) : Option (Int × Nat) :=
  if isB t 92 a = true then escX t (a + 1)
  else if plainB (peekP t a) sp = true then some (peekP t a, a + 1)
  else none
def memberX (t : ByteArray) (f : Nat → Bool) (a : Nat) : Option ((Nat → Bool) × Nat) :=
  match singleX t spIn a with
  | none => none
  | some (x, a1) => if isB t 45 a1 = false then some (withB f x x, a1) else
    match singleX t spIn (a1 + 1) with
    | none => none
    | some (y, a2) => if y < x then none else some (withB f x y, a2)
def setLoopX (t : ByteArray) : Nat → (Nat → Bool) → Nat → Option ((Nat → Bool) × Nat)
  | 0, _, _ => none
  | n + 1, f, a => if isB t 93 a = true then some (f, a + 1) else
    match memberX t f a with
    | none => none
    | some (g, a1) => setLoopX t n g a1
def setRX (t : ByteArray) (a : Nat) : Option ((Nat → Bool) × Nat) :=
  match memberX t zeroF a with
  | none => none
  | some (f, a1) => setLoopX t (t.size + 1) f a1
def setX (t : ByteArray) (a : Nat) : Option ((Nat → Bool) × Nat) :=
  if isB t 94 a = true then
    match setRX t (a + 1) with
    | none => none
    | some (f, a1) => some ((fun i => !(f i)), a1)
  else setRX t a
/-- A place: the bytes that it allows. -/
def allowedX (t : ByteArray) (a : Nat) : Option ((Nat → Bool) × Nat) :=
  if isB t 91 a = true then setX t (a + 1)
  else if isB t 46 a = true then some ((fun i => !(zeroF i)), a + 1)
  else match singleX t spOut a with
    | none => none
    | some (x, a1) => some (withB zeroF x x, a1)
def atPieceX (t : ByteArray) (a : Nat) : Bool :=
  decide (peekP t a = 40 ∨ peekP t a = 91 ∨ peekP t a = 46 ∨ peekP t a = 92) || plainB (peekP t a) spOut
def atomX (t : ByteArray) (ex : Nat → Option (Rx × Nat)) (a : Nat) : Option (Rx × Nat) :=
  if isB t 40 a = true then
    match ex (a + 1) with
    | none => none
    | some (r, a1) => if isB t 41 a1 = true then some (r, a1 + 1) else none
  else match allowedX t a with
    | none => none
    | some (f, a1) => some (.pl f, a1)
def markX (k : Int) (r : Rx) : Rx := if k = 3 then .opt r else if k = 4 then .plus r else .star r
def pieceX (t : ByteArray) (ex : Nat → Option (Rx × Nat)) (a : Nat) : Option (Rx × Nat) :=
  match atomX t ex a with
  | none => none
  | some (r, a1) => if markK (peekP t a1) = 0 then some (r, a1) else some (markX (markK (peekP t a1)) r, a1 + 1)
def altLoopX (t : ByteArray) (ex : Nat → Option (Rx × Nat)) : Nat → Rx → Nat → Option (Rx × Nat)
  | 0, _, _ => none
  | n + 1, r, a => if atPieceX t a = false then some (r, a) else
    match pieceX t ex a with
    | none => none
    | some (r2, a2) => altLoopX t ex n (.cat r r2) a2
def altX (t : ByteArray) (ex : Nat → Option (Rx × Nat)) (a : Nat) : Option (Rx × Nat) :=
  match pieceX t ex a with
  | none => none
  | some (r, a1) => altLoopX t ex (t.size + 1) r a1
def exprLoopX (t : ByteArray) (ex : Nat → Option (Rx × Nat)) : Nat → Rx → Nat → Option (Rx × Nat)
  | 0, _, _ => none
  | n + 1, r, a => if isB t 124 a = false then some (r, a) else
    match altX t ex (a + 1) with
    | none => none
    | some (r2, a2) => exprLoopX t ex n (.alt r r2) a2
def exprX (t : ByteArray) : Nat → Nat → Option (Rx × Nat)
  | 0, _ => none
  | f + 1, a => match altX t (exprX t f) a with
    | none => none
    | some (r, a1) => exprLoopX t (exprX t f) (t.size + 1) r a1

/-! How the two readers go together. -/
def atS (st : PSt) (a : Nat) : PSt := { st with at_ := a }
def putR (st : PSt) (r : Rx) (a : Nat) : PSt := ⟨a, st.rules, st.nodes ++ r.flat st.nodes.length st.places.length, st.places ++ r.fns⟩
/-- A reader of numbers. -/
def SimI (p : Int × Bool × PSt) (st : PSt) : Option (Int × Nat) → Prop
  | none => p.2.1 = false
  | some (x, a) => p = (x, true, atS st a)
def SimF (p : (Nat → Bool) × Bool × PSt) (st : PSt) : Option ((Nat → Bool) × Nat) → Prop
  | none => p.2.1 = false
  | some (x, a) => p = (x, true, atS st a)
def SimR (p : Int × Bool × PSt) (st : PSt) : Option (Rx × Nat) → Prop
  | none => p.2.1 = false
  | some (r, a) => p = (((st.nodes.length + r.sz - 1 : Nat) : Int), true, putR st r a)

theorem nextB_is (t : ByteArray) (b : Int) (st : PSt) : nextB t b st = isB t b st.at_ := by
  rw [Bool.eq_iff_iff]
  exact Iff.rfl
theorem adv_atS (st : PSt) : adv st = atS st (st.at_ + 1) := rfl
theorem atS_atS (st : PSt) (a b : Nat) : atS (atS st a) b = atS st b := rfl

theorem esc_sim (t : ByteArray) (st : PSt) : SimI (escP t st) st (escX t st.at_) := by
  unfold escP escX
  simp only [nextB_is, adv_atS]
  split
  · rfl
  · split
    · rfl
    · split
      · rfl
      · rfl
theorem single_sim (t sp : ByteArray) (st : PSt) : SimI (singleP t sp st) st (singleX t sp st.at_) := by
  unfold singleP singleX
  simp only [nextB_is, adv_atS]
  split
  · have := esc_sim t (atS st (st.at_ + 1))
    show SimI _ _ (escX t (atS st (st.at_ + 1)).at_)
    cases h : escX t (atS st (st.at_ + 1)).at_ with
    | none => rw [h] at this; exact this
    | some x => rw [h] at this; exact this
  · split
    · rfl
    · rfl
theorem member_sim (t : ByteArray) (f : Nat → Bool) (st : PSt) : SimF (memberP t f st) st (memberX t f st.at_) := by
  have h1 := single_sim t spIn st
  unfold memberX
  cases e1 : singleX t spIn st.at_ with
  | none =>
    rw [e1] at h1
    obtain ⟨b, ok, s1, hS⟩ : ∃ b ok s, singleP t spIn st = (b, ok, s) := ⟨_, _, _, rfl⟩
    have ho : ok = false := by have : (singleP t spIn st).2.1 = false := h1; rw [hS] at this; exact this
    subst ho
    show (memberP t f st).2.1 = false
    rw [memberP_no1 hS]
  | some y =>
    obtain ⟨x, a1⟩ := y
    rw [e1] at h1
    have h1 : singleP t spIn st = (x, true, atS st a1) := h1
    simp only
    by_cases e2 : isB t 45 a1 = false
    · rw [if_pos e2]
      exact memberP_one h1 e2
    · rw [if_neg e2]
      have e2' : nextB t 45 (atS st a1) = true := by
        have : isB t 45 a1 = true := by simpa using e2
        exact this
      have h2 := single_sim t spIn (adv (atS st a1))
      rw [show (adv (atS st a1)).at_ = a1 + 1 from rfl] at h2
      cases e3 : singleX t spIn (a1 + 1) with
      | none =>
        rw [e3] at h2
        obtain ⟨b, ok, s1, hS⟩ : ∃ b ok s, singleP t spIn (adv (atS st a1)) = (b, ok, s) := ⟨_, _, _, rfl⟩
        have ho : ok = false := by have : (singleP t spIn (adv (atS st a1))).2.1 = false := h2; rw [hS] at this; exact this
        show (memberP t f st).2.1 = false
        rw [memberP_no2 h1 e2' hS (.inl ho)]
      | some z =>
        obtain ⟨y, a2⟩ := z
        rw [e3] at h2
        have h2 : singleP t spIn (adv (atS st a1)) = (y, true, atS st a2) := h2
        simp only
        by_cases e4 : y < x
        · rw [if_pos e4]
          show (memberP t f st).2.1 = false
          rw [memberP_no2 h1 e2' h2 (.inr e4)]
        · rw [if_neg e4]
          exact memberP_two h1 e2' h2 e4
theorem setLoop_sim (t : ByteArray) : ∀ (n : Nat) (f : Nat → Bool) (st : PSt), SimF (setLoop t n f true st) st (setLoopX t n f st.at_) := by
  intro n
  induction n with
  | zero => intro f st; rfl
  | succ k ih =>
    intro f st
    rw [setLoopX]
    by_cases h : isB t 93 st.at_ = true
    · rw [if_pos h, setLoop_done h]; rfl
    · rw [if_neg h, setLoop_more (by simpa [nextB_is] using h)]
      have hm := member_sim t f st
      cases e : memberX t f st.at_ with
      | none =>
        rw [e] at hm
        have hm : (memberP t f st).2.1 = false := hm
        show (setLoop t k (memberP t f st).1 (memberP t f st).2.1 (memberP t f st).2.2).2.1 = false
        rw [hm, setLoop_false]
      | some y =>
        obtain ⟨g, a1⟩ := y
        rw [e] at hm
        have hm : memberP t f st = (g, true, atS st a1) := hm
        rw [hm]
        have := ih g (atS st a1)
        rw [show (atS st a1).at_ = a1 from rfl] at this
        simp only
        cases e2 : setLoopX t k g a1 with
        | none => rw [e2] at this; exact this
        | some z => rw [e2] at this; exact this
theorem setR_sim (t : ByteArray) (st : PSt) : SimF (setR t st) st (setRX t st.at_) := by
  unfold setR setRX
  have hm := member_sim t zeroF st
  cases e : memberX t zeroF st.at_ with
  | none =>
    rw [e] at hm
    have hm : (memberP t zeroF st).2.1 = false := hm
    show (setLoop t (t.size + 1) _ (memberP t zeroF st).2.1 _).2.1 = false
    rw [hm, setLoop_false]
  | some y =>
    obtain ⟨g, a1⟩ := y
    rw [e] at hm
    have hm : memberP t zeroF st = (g, true, atS st a1) := hm
    rw [hm]
    have := setLoop_sim t (t.size + 1) g (atS st a1)
    rw [show (atS st a1).at_ = a1 from rfl] at this
    simp only
    cases e2 : setLoopX t (t.size + 1) g a1 with
    | none => rw [e2] at this; exact this
    | some z => rw [e2] at this; exact this
theorem set_sim (t : ByteArray) (st : PSt) : SimF (setP t st) st (setX t st.at_) := by
  unfold setP setX
  simp only [nextB_is]
  by_cases h : isB t 94 st.at_ = true
  · have hR := setR_sim t (adv st)
    rw [if_pos h, if_pos h]
    rw [show (adv st).at_ = st.at_ + 1 from rfl] at hR
    cases e : setRX t (st.at_ + 1) with
    | none =>
      rw [e] at hR
      have hR : (setR t (adv st)).2.1 = false := hR
      rw [if_neg (by rw [hR]; decide)]
      rfl
    | some y =>
      obtain ⟨g, a1⟩ := y
      rw [e] at hR
      have hR : setR t (adv st) = (g, true, atS st a1) := hR
      rw [hR]
      rfl
  · have hR := setR_sim t st
    rw [if_neg h, if_neg h]
    cases e : setRX t st.at_ with
    | none =>
      rw [e] at hR
      have hR : (setR t st).2.1 = false := hR
      rw [if_neg (by rw [hR]; decide)]
      rfl
    | some y =>
      obtain ⟨g, a1⟩ := y
      rw [e] at hR
      have hR : setR t st = (g, true, atS st a1) := hR
      rw [hR]
      rfl
theorem allowed_sim (t : ByteArray) (st : PSt) : SimF (allowedP t st) st (allowedX t st.at_) := by
  unfold allowedP allowedX
  simp only [nextB_is]
  by_cases h : isB t 91 st.at_ = true
  · rw [if_pos h, if_pos h]
    have := set_sim t (adv st)
    rw [show (adv st).at_ = st.at_ + 1 from rfl] at this
    cases e : setX t (st.at_ + 1) with
    | none => rw [e] at this; exact this
    | some y => rw [e] at this; exact this
  · rw [if_neg h, if_neg h]
    by_cases h2 : isB t 46 st.at_ = true
    · rw [if_pos h2, if_pos h2]; rfl
    · rw [if_neg h2, if_neg h2]
      have hS := single_sim t spOut st
      cases e : singleX t spOut st.at_ with
      | none =>
        rw [e] at hS
        have hS : (singleP t spOut st).2.1 = false := hS
        rw [if_neg (by rw [hS]; decide)]
        rfl
      | some y =>
        obtain ⟨x, a1⟩ := y
        rw [e] at hS
        have hS : singleP t spOut st = (x, true, atS st a1) := hS
        rw [hS]
        rfl
theorem place_sim (t : ByteArray) (st : PSt) : SimR (placeP t st) st (match allowedX t st.at_ with
    | none => none
    | some (f, a1) => some (.pl f, a1)) := by
  unfold placeP
  have hS := allowed_sim t st
  cases e : allowedX t st.at_ with
  | none =>
    rw [e] at hS
    have hS : (allowedP t st).2.1 = false := hS
    rw [if_neg (by rw [hS]; decide)]
    rfl
  | some y =>
    obtain ⟨f, a1⟩ := y
    rw [e] at hS
    have hS : allowedP t st = (f, true, atS st a1) := hS
    rw [hS]
    rfl

/-- The expressions in brackets are read alike. -/
def SimE (ex : PSt → Int × Bool × PSt) (exx : Nat → Option (Rx × Nat)) : Prop := ∀ st, SimR (ex st) st (exx st.at_)

theorem atom_sim {t : ByteArray} {ex : PSt → Int × Bool × PSt} {exx : Nat → Option (Rx × Nat)} (h : SimE ex exx) (st : PSt) : SimR (atomP t ex st) st (atomX t exx st.at_) := by
  unfold atomP atomX
  simp only [nextB_is]
  by_cases h1 : isB t 40 st.at_ = true
  · rw [if_pos h1, if_pos h1]
    have hS := h (adv st)
    rw [show (adv st).at_ = st.at_ + 1 from rfl] at hS
    cases e : exx (st.at_ + 1) with
    | none =>
      rw [e] at hS
      have hS : (ex (adv st)).2.1 = false := hS
      rw [if_neg (by rw [hS]; simp)]
      rfl
    | some y =>
      obtain ⟨r, a1⟩ := y
      rw [e] at hS
      have hS : ex (adv st) = (((st.nodes.length + r.sz - 1 : Nat) : Int), true, putR (adv st) r a1) := hS
      rw [hS]
      by_cases h2 : isB t 41 a1 = true
      · rw [if_pos ⟨rfl, h2⟩]
        simp only [if_pos h2]
        rfl
      · rw [if_neg (fun hh => h2 hh.2)]
        simp only [if_neg h2]
        rfl
  · rw [if_neg h1, if_neg h1]
    exact place_sim t st

theorem markX_flat {p : Int} (h : markK p ≠ 0) (r : Rx) (nb pb : Nat) : (markX (markK p) r).flat nb pb = r.flat nb pb ++ [(markK p, ((nb + r.sz - 1 : Nat) : Int), 0)] ∧ (markX (markK p) r).sz = r.sz + 1 ∧ (markX (markK p) r).fns = r.fns ∧ (markX (markK p) r).np = r.np := by
  unfold markK at *
  unfold markX
  split at h
  · rename_i e; rw [if_pos e]; exact ⟨rfl, rfl, rfl, rfl⟩
  · rename_i e
    rw [if_neg e]
    split at h
    · rename_i e; rw [if_pos e]; exact ⟨rfl, rfl, rfl, rfl⟩
    · rename_i e
      rw [if_neg e]
      split at h
      · rename_i e; rw [if_pos e]; exact ⟨rfl, rfl, rfl, rfl⟩
      · exact absurd rfl h

theorem piece_sim {t : ByteArray} {ex : PSt → Int × Bool × PSt} {exx : Nat → Option (Rx × Nat)} (h : SimE ex exx) (st : PSt) : SimR (pieceP t ex st) st (pieceX t exx st.at_) := by
  unfold pieceP pieceX
  have hS := atom_sim (t := t) h st
  cases e : atomX t exx st.at_ with
  | none =>
    rw [e] at hS
    have hS : (atomP t ex st).2.1 = false := hS
    rw [if_neg (by rw [hS]; decide)]
    rfl
  | some y =>
    obtain ⟨r, a1⟩ := y
    rw [e] at hS
    have hS : atomP t ex st = (((st.nodes.length + r.sz - 1 : Nat) : Int), true, putR st r a1) := hS
    rw [hS]
    rw [if_pos rfl]
    simp only
    rw [show (putR st r a1).at_ = a1 from rfl]
    by_cases hm : markK (peekP t a1) = 0
    · rw [if_pos hm, if_pos hm]; rfl
    · rw [if_neg hm, if_neg hm]
      obtain ⟨f1, f2, f3, f4⟩ := markX_flat hm r st.nodes.length st.places.length
      show (_, true, addN (markK (peekP t a1), _, 0) (adv (putR st r a1))) = (_, true, putR st (markX (markK (peekP t a1)) r) (a1 + 1))
      unfold putR addN adv
      rw [f1, f2, f3]
      have := r.sz_pos
      simp [Rx.flat_len]
theorem putR_cat (st : PSt) (r r2 : Rx) (a1 a2 : Nat) : addN (1, ((st.nodes.length + r.sz - 1 : Nat) : Int), (((putR st r a1).nodes.length + r2.sz - 1 : Nat) : Int)) (putR (putR st r a1) r2 a2) = putR st (.cat r r2) a2 := by
  unfold putR addN
  simp only [PSt.mk.injEq, true_and]
  refine ⟨?_, ?_⟩
  · show _ = st.nodes ++ (r.flat _ _ ++ (r2.flat _ _ ++ [_]))
    simp only [List.length_append, r.flat_len, r.fns_len, List.append_assoc]
  · show _ = st.places ++ (r.fns ++ r2.fns)
    rw [List.append_assoc]
theorem putR_alt (st : PSt) (r r2 : Rx) (a1 a2 : Nat) : addN (2, ((st.nodes.length + r.sz - 1 : Nat) : Int), (((putR st r a1).nodes.length + r2.sz - 1 : Nat) : Int)) (putR (putR st r a1) r2 a2) = putR st (.alt r r2) a2 := by
  unfold putR addN
  simp only [PSt.mk.injEq, true_and]
  refine ⟨?_, ?_⟩
  · show _ = st.nodes ++ (r.flat _ _ ++ (r2.flat _ _ ++ [_]))
    simp only [List.length_append, r.flat_len, r.fns_len, List.append_assoc]
  · show _ = st.places ++ (r.fns ++ r2.fns)
    rw [List.append_assoc]
theorem putR_len (st : PSt) (r : Rx) (a : Nat) : (putR st r a).nodes.length = st.nodes.length + r.sz := by
  unfold putR; simp [r.flat_len]
theorem altLoop_bad (t : ByteArray) (ex : PSt → Int × Bool × PSt) (n : Nat) (x : Int) (st : PSt) : (altLoop t ex n x false st).2.1 = false := by cases n <;> rfl
theorem exprLoop_bad (t : ByteArray) (ex : PSt → Int × Bool × PSt) (n : Nat) (x : Int) (st : PSt) : (exprLoop t ex n x false st).2.1 = false := by cases n <;> rfl

theorem altLoop_sim {t : ByteArray} {ex : PSt → Int × Bool × PSt} {exx : Nat → Option (Rx × Nat)} (h : SimE ex exx) (st : PSt) : ∀ (n : Nat) (r : Rx) (a : Nat),
    SimR (altLoop t ex n ((st.nodes.length + r.sz - 1 : Nat) : Int) true (putR st r a)) st (altLoopX t exx n r a) := by
  intro n
  induction n with
  | zero => intro r a; rfl
  | succ k ih =>
    intro r a
    rw [altLoop, altLoopX, if_neg (by decide)]
    rw [show atPieceB t (putR st r a) = atPieceX t a from rfl]
    by_cases hp : atPieceX t a = false
    · rw [if_pos hp, if_pos hp]; rfl
    · rw [if_neg hp, if_neg hp]
      have hS := piece_sim (t := t) h (putR st r a)
      rw [show (putR st r a).at_ = a from rfl] at hS
      cases e : pieceX t exx a with
      | none =>
        rw [e] at hS
        have hS : (pieceP t ex (putR st r a)).2.1 = false := hS
        rw [hS]
        exact altLoop_bad _ _ _ _ _
      | some y =>
        obtain ⟨r2, a2⟩ := y
        rw [e] at hS
        have hS : pieceP t ex (putR st r a) = ((((putR st r a).nodes.length + r2.sz - 1 : Nat) : Int), true, putR (putR st r a) r2 a2) := hS
        rw [hS]
        simp only
        rw [putR_cat]
        have hlen : (putR (putR st r a) r2 a2).nodes.length = st.nodes.length + (Rx.cat r r2).sz - 1 := by
          rw [putR_len, putR_len]; show _ = st.nodes.length + (r.sz + r2.sz + 1) - 1; omega
        rw [hlen]
        exact ih (.cat r r2) a2
theorem alt_sim {t : ByteArray} {ex : PSt → Int × Bool × PSt} {exx : Nat → Option (Rx × Nat)} (h : SimE ex exx) (st : PSt) : SimR (altP t ex st) st (altX t exx st.at_) := by
  unfold altP altX
  have hS := piece_sim (t := t) h st
  cases e : pieceX t exx st.at_ with
  | none =>
    rw [e] at hS
    have hS : (pieceP t ex st).2.1 = false := hS
    rw [hS]
    exact altLoop_bad _ _ _ _ _
  | some y =>
    obtain ⟨r, a1⟩ := y
    rw [e] at hS
    have hS : pieceP t ex st = (((st.nodes.length + r.sz - 1 : Nat) : Int), true, putR st r a1) := hS
    rw [hS]
    exact altLoop_sim h st _ r a1
theorem exprLoop_sim {t : ByteArray} {ex : PSt → Int × Bool × PSt} {exx : Nat → Option (Rx × Nat)} (h : SimE ex exx) (st : PSt) : ∀ (n : Nat) (r : Rx) (a : Nat),
    SimR (exprLoop t ex n ((st.nodes.length + r.sz - 1 : Nat) : Int) true (putR st r a)) st (exprLoopX t exx n r a) := by
  intro n
  induction n with
  | zero => intro r a; rfl
  | succ k ih =>
    intro r a
    rw [exprLoop, exprLoopX, if_neg (by decide)]
    rw [show nextB t 124 (putR st r a) = isB t 124 a from rfl]
    by_cases hp : isB t 124 a = false
    · rw [if_pos hp, if_pos hp]; rfl
    · rw [if_neg hp, if_neg hp]
      have hS := alt_sim (t := t) h (adv (putR st r a))
      rw [show (adv (putR st r a)).at_ = a + 1 from rfl] at hS
      have he : ∀ r2 a2, putR (adv (putR st r a)) r2 a2 = putR (putR st r a) r2 a2 := fun _ _ => rfl
      cases e : altX t exx (a + 1) with
      | none =>
        rw [e] at hS
        have hS : (altP t ex (adv (putR st r a))).2.1 = false := hS
        rw [hS]
        exact exprLoop_bad _ _ _ _ _
      | some y =>
        obtain ⟨r2, a2⟩ := y
        rw [e] at hS
        have hS : altP t ex (adv (putR st r a)) = ((((putR st r a).nodes.length + r2.sz - 1 : Nat) : Int), true, putR (putR st r a) r2 a2) := hS
        rw [hS]
        simp only
        rw [putR_alt]
        have hlen : (putR (putR st r a) r2 a2).nodes.length = st.nodes.length + (Rx.alt r r2).sz - 1 := by
          rw [putR_len, putR_len]; show _ = st.nodes.length + (r.sz + r2.sz + 1) - 1; omega
        rw [hlen]
        exact ih (.alt r r2) a2
theorem expr_sim (t : ByteArray) : ∀ f, SimE (exprP t f) (exprX t f) := by
  intro f
  induction f with
  | zero => intro st; rfl
  | succ k ih =>
    intro st
    rw [exprP, exprX]
    have hS := alt_sim (t := t) ih st
    cases e : altX t (exprX t k) st.at_ with
    | none =>
      rw [e] at hS
      have hS : (altP t (exprP t k) st).2.1 = false := hS
      rw [hS]
      exact exprLoop_bad _ _ _ _ _
    | some y =>
      obtain ⟨r, a1⟩ := y
      rw [e] at hS
      have hS : altP t (exprP t k) st = (((st.nodes.length + r.sz - 1 : Nat) : Int), true, putR st r a1) := hS
      rw [hS]
      exact exprLoop_sim ih st _ r a1
end Go.Stn

/- Plain functions: rule files by places in the text alone; what a file that was read keeps to. -/
namespace Go.Stn
abbrev RuleX := (Nat → Bool) × Int × Rx
def letterX (t : ByteArray) (a : Nat) : Option (Int × Nat) := if 65 ≤ peekP t a ∧ peekP t a < 69 then some (peekP t a - 65, a + 1) else none
def behindX (t : ByteArray) (a : Nat) : Option (Int × Nat) :=
  if isB t 46 a = true then some (0, a + 1)
  else if isB t 45 a = true then some (1, a + 1)
  else match letterX t a with
    | none => none
    | some (x, a1) => some (x + 2, a1)
def condsLoopX (t : ByteArray) : Nat → (Nat → Bool) → Int → Nat → Option ((Nat → Bool) × Nat)
  | 0, _, _, _ => none
  | n + 1, f, last, a => match letterX t a with
    | none => some (f, a)
    | some (x, a1) => if x ≤ last then none else condsLoopX t n (set1 f x) x a1
def condsX (t : ByteArray) (a : Nat) : Option ((Nat → Bool) × Nat) := match letterX t a with
  | none => none
  | some (x, a1) => condsLoopX t 5 (set1 zeroF x) x a1
def ruleX (t : ByteArray) (a : Nat) : Option (RuleX × Nat) := match condsX t a with
  | none => none
  | some (f, a1) => if isB t 32 a1 = false then none else match exprX t (t.size + 1) (a1 + 1) with
    | none => none
    | some (r, a2) => if isB t 32 a2 = false then none else match behindX t (a2 + 1) with
      | none => none
      | some (b, a3) => some ((f, b, r), a3)
def rulesLoopX (t : ByteArray) : Nat → List RuleX → Nat → Option (List RuleX × Nat)
  | 0, _, _ => none
  | n + 1, l, a => if isB t 10 a = false then some (l, a) else match ruleX t (a + 1) with
    | none => none
    | some (x, a1) => rulesLoopX t n (l ++ [x]) a1
def rulesX (t : ByteArray) : Option (List RuleX × Nat) := match ruleX t 0 with
  | none => none
  | some (x, a) => rulesLoopX t (t.size + 1) [x] a
/-- A rule file: its rules. -/
def fileX (t : ByteArray) : Option (List RuleX) := match rulesX t with
  | none => none
  | some (l, a) => if a = t.size ∧ l.length ≤ 8 then some l else none

def putRule (st : PSt) (x : RuleX) (a : Nat) : PSt := ⟨a, st.rules ++ [(x.1, x.2.1, ((st.nodes.length + x.2.2.sz - 1 : Nat) : Int))], st.nodes ++ x.2.2.flat st.nodes.length st.places.length, st.places ++ x.2.2.fns⟩
def putRules : PSt → List RuleX → PSt
  | st, [] => st
  | st, x :: l => putRules (putRule st x st.at_) l

theorem letter_sim (t : ByteArray) (st : PSt) : SimI (letterP t st) st (letterX t st.at_) := by
  unfold letterP letterX
  split
  · rfl
  · rfl
theorem behind_sim (t : ByteArray) (st : PSt) : SimI (behindP t st) st (behindX t st.at_) := by
  unfold behindP behindX
  simp only [nextB_is]
  by_cases h : isB t 46 st.at_ = true
  · rw [if_pos h, if_pos h]; rfl
  · rw [if_neg h, if_neg h]
    by_cases h2 : isB t 45 st.at_ = true
    · rw [if_pos h2, if_pos h2]; rfl
    · rw [if_neg h2, if_neg h2]
      have hS := letter_sim t st
      cases e : letterX t st.at_ with
      | none =>
        rw [e] at hS
        have hS : (letterP t st).2.1 = false := hS
        rw [if_neg (by rw [hS]; decide)]; rfl
      | some y =>
        obtain ⟨x, a1⟩ := y
        rw [e] at hS
        have hS : letterP t st = (x, true, atS st a1) := hS
        rw [hS]; rfl
theorem condsLoop_sim (t : ByteArray) : ∀ (n : Nat) (f : Nat → Bool) (last : Int) (st : PSt), SimF (condsLoop t n f last st) st (condsLoopX t n f last st.at_) := by
  intro n
  induction n with
  | zero => intro f last st; rfl
  | succ k ih =>
    intro f last st
    rw [condsLoop, condsLoopX]
    have hS := letter_sim t st
    cases e : letterX t st.at_ with
    | none =>
      rw [e] at hS
      have hS2 : (letterP t st).2.1 = false := hS
      rw [if_pos hS2]
      have hs : (letterP t st).2.2 = st := by
        unfold letterP at hS2 ⊢
        split at hS2
        · cases hS2
        · rename_i h; rw [if_neg h]
      rw [hs]; rfl
    | some y =>
      obtain ⟨x, a1⟩ := y
      rw [e] at hS
      have hS : letterP t st = (x, true, atS st a1) := hS
      rw [hS, if_neg (by simp)]
      simp only
      by_cases h : x ≤ last
      · rw [if_pos h, if_pos h]; rfl
      · rw [if_neg h, if_neg h]
        have := ih (set1 f x) x (atS st a1)
        rw [show (atS st a1).at_ = a1 from rfl] at this
        cases e2 : condsLoopX t k (set1 f x) x a1 with
        | none => rw [e2] at this; exact this
        | some z => rw [e2] at this; exact this
theorem conds_sim (t : ByteArray) (st : PSt) : SimF (rcondsP t st) st (condsX t st.at_) := by
  unfold rcondsP condsX
  have hS := letter_sim t st
  cases e : letterX t st.at_ with
  | none =>
    rw [e] at hS
    have hS : (letterP t st).2.1 = false := hS
    rw [if_pos hS]; rfl
  | some y =>
    obtain ⟨x, a1⟩ := y
    rw [e] at hS
    have hS : letterP t st = (x, true, atS st a1) := hS
    rw [hS, if_neg (by simp)]
    simp only
    have := condsLoop_sim t 5 (set1 zeroF x) x (atS st a1)
    rw [show (atS st a1).at_ = a1 from rfl] at this
    cases e2 : condsLoopX t 5 (set1 zeroF x) x a1 with
    | none => rw [e2] at this; exact this
    | some z => rw [e2] at this; exact this

def SimU (p : Bool × PSt) (st : PSt) : Option (RuleX × Nat) → Prop
  | none => p.1 = false
  | some (x, a) => p = (true, putRule st x a)
theorem rule_sim (t : ByteArray) (st : PSt) : SimU (ruleP t st) st (ruleX t st.at_) := by
  unfold ruleP ruleX
  have hS := conds_sim t st
  cases e : condsX t st.at_ with
  | none =>
    rw [e] at hS
    have hS : (rcondsP t st).2.1 = false := hS
    rw [if_pos hS]; rfl
  | some y =>
    obtain ⟨f, a1⟩ := y
    rw [e] at hS
    have hS : rcondsP t st = (f, true, atS st a1) := hS
    rw [hS, if_neg (by simp)]
    simp only [nextB_is]
    rw [show (atS st a1).at_ = a1 from rfl]
    by_cases h1 : isB t 32 a1 = false
    · rw [if_pos h1, if_pos h1]; rfl
    · rw [if_neg h1, if_neg h1]
      unfold ruleMid
      have hE := expr_sim t (t.size + 1) (adv (atS st a1))
      rw [show (adv (atS st a1)).at_ = a1 + 1 from rfl] at hE
      cases e2 : exprX t (t.size + 1) (a1 + 1) with
      | none =>
        rw [e2] at hE
        have hE : (exprP t (t.size + 1) (adv (atS st a1))).2.1 = false := hE
        rw [if_pos hE]; rfl
      | some z =>
        obtain ⟨r, a2⟩ := z
        rw [e2] at hE
        have hE : exprP t (t.size + 1) (adv (atS st a1)) = (((st.nodes.length + r.sz - 1 : Nat) : Int), true, putR st r a2) := hE
        rw [hE, if_neg (by simp)]
        simp only [nextB_is]
        rw [show (putR st r a2).at_ = a2 from rfl]
        by_cases h2 : isB t 32 a2 = false
        · rw [if_pos h2, if_pos h2]; rfl
        · rw [if_neg h2, if_neg h2]
          unfold ruleEnd
          have hB := behind_sim t (adv (putR st r a2))
          rw [show (adv (putR st r a2)).at_ = a2 + 1 from rfl] at hB
          cases e3 : behindX t (a2 + 1) with
          | none =>
            rw [e3] at hB
            have hB : (behindP t (adv (putR st r a2))).2.1 = false := hB
            rw [if_pos hB]; rfl
          | some u =>
            obtain ⟨b, a3⟩ := u
            rw [e3] at hB
            have hB : behindP t (adv (putR st r a2)) = (b, true, atS (adv (putR st r a2)) a3) := hB
            rw [hB, if_neg (by simp)]
            rfl
theorem putRules_snoc : ∀ (l : List RuleX) (st : PSt) (x : RuleX) (a : Nat), atS (putRule (putRules st l) x a) 0 = atS (putRules st (l ++ [x])) 0
  | [], _, _, _ => rfl
  | y :: l, st, x, a => putRules_snoc l (putRule st y st.at_) x a

def SimL (p : Bool × PSt) : Option (List RuleX × Nat) → Prop
  | none => p.1 = false
  | some (l, a) => p.1 = true ∧ p.2.at_ = a ∧ atS p.2 0 = atS (putRules st0 l) 0
theorem putRule_at (st st' : PSt) (x : RuleX) (a : Nat) (h : atS st 0 = atS st' 0) : putRule st x a = putRule st' x a := by
  unfold atS at h
  injection h with _ h1 h2 h3
  unfold putRule
  rw [h1, h2, h3]
theorem rulesLoop_sim (t : ByteArray) : ∀ (n : Nat) (l : List RuleX) (st : PSt), atS st 0 = atS (putRules st0 l) 0 → SimL (rulesLoop t n true st) (rulesLoopX t n l st.at_) := by
  intro n
  induction n with
  | zero => intro l st _; rfl
  | succ k ih =>
    intro l st h
    rw [rulesLoopX]
    by_cases h1 : isB t 10 st.at_ = false
    · rw [if_pos h1, rulesLoop_done (by rw [nextB_is]; exact h1)]
      exact ⟨rfl, rfl, h⟩
    · rw [if_neg h1, rulesLoop_more (by rw [nextB_is]; simpa using h1)]
      have hS := rule_sim t (adv st)
      rw [show (adv st).at_ = st.at_ + 1 from rfl] at hS
      cases e : ruleX t (st.at_ + 1) with
      | none =>
        rw [e] at hS
        have hS : (ruleP t (adv st)).1 = false := hS
        rw [hS, rulesLoop_false]; rfl
      | some y =>
        obtain ⟨x, a1⟩ := y
        rw [e] at hS
        have hS : ruleP t (adv st) = (true, putRule (adv st) x a1) := hS
        rw [hS]
        have he : putRule (adv st) x a1 = putRule (putRules st0 l) x a1 := putRule_at _ _ x a1 h
        rw [he]
        have := ih (l ++ [x]) (putRule (putRules st0 l) x a1) (putRules_snoc l st0 x a1)
        exact this
theorem rules_sim (t : ByteArray) : SimL (rulesR t st0) (rulesX t) := by
  unfold rulesR rulesX
  have hS := rule_sim t st0
  rw [show st0.at_ = 0 from rfl] at hS
  cases e : ruleX t 0 with
  | none =>
    rw [e] at hS
    have hS : (ruleP t st0).1 = false := hS
    rw [hS, rulesLoop_false]; rfl
  | some y =>
    obtain ⟨x, a1⟩ := y
    rw [e] at hS
    have hS : ruleP t st0 = (true, putRule st0 x a1) := hS
    rw [hS]
    exact rulesLoop_sim t (t.size + 1) [x] (putRule st0 x a1) rfl

theorem putRules_len : ∀ (l : List RuleX) (st : PSt), (putRules st l).rules.length = st.rules.length + l.length
  | [], st => rfl
  | x :: l, st => by rw [putRules, putRules_len l]; simp [putRule]; omega
/-- What Parse comes to, by fileX. -/
theorem parse_file (t : ByteArray) : (120 < t.size → parseC t = 1) ∧ (t.size ≤ 120 → fileX t = none → parseC t = 2) ∧
    (t.size ≤ 120 → ∀ l, fileX t = some l → (10 < (putRules st0 l).places.length → parseC t = 3) ∧ ((putRules st0 l).places.length ≤ 10 → parseC t = 0 ∧ atS (parsedP t) 0 = atS (putRules st0 l) 0)) := by
  have hS := rules_sim t
  unfold parseC parsedP fileX
  refine ⟨fun h => by rw [if_pos h], fun h hf => ?_, fun h l hf => ?_⟩
  · rw [if_neg (by omega)]
    have : rulesB t (rulesR t st0) = false := by
      unfold rulesB
      cases e : rulesX t with
      | none =>
        rw [e] at hS
        have hS : (rulesR t st0).1 = false := hS
        rw [hS]; rfl
      | some y =>
        obtain ⟨l, a⟩ := y
        rw [e] at hS hf
        obtain ⟨h1, h2, h3⟩ := hS
        simp only at hf
        split at hf
        · cases hf
        · rename_i hno
          rw [h1, h2]
          have hr : (rulesR t st0).2.rules = (putRules st0 l).rules := by have := congrArg PSt.rules h3; exact this
          rw [hr, putRules_len]
          simp only [Bool.true_and, Bool.and_eq_false_iff, decide_eq_false_iff_not]
          have : st0.rules.length = 0 := rfl
          omega
    rw [if_pos this]
  · rw [if_neg (by omega)]
    cases e : rulesX t with
    | none => rw [e] at hf; cases hf
    | some y =>
      obtain ⟨l', a⟩ := y
      rw [e] at hS hf
      obtain ⟨h1, h2, h3⟩ := hS
      simp only at hf
      split at hf
      · rename_i hyes
        injection hf with hf
        subst hf
        have hr : (rulesR t st0).2.rules = (putRules st0 l').rules := by have := congrArg PSt.rules h3; exact this
        have hp : (rulesR t st0).2.places = (putRules st0 l').places := by have := congrArg PSt.places h3; exact this
        have hb : rulesB t (rulesR t st0) = true := by
          unfold rulesB
          rw [h1, h2, hr, putRules_len, hyes.1]
          have : st0.rules.length = 0 := rfl
          simp
          omega
        rw [if_neg (by rw [hb]; decide), hp]
        exact ⟨fun h => by rw [if_pos h], fun h => ⟨by rw [if_neg (by omega)], h3⟩⟩
      · cases hf
end Go.Stn

