/- Texts put together: XpFacts, AkFile. -/
import Derived.Test.YtgjgjgihceijnaaG27
import Derived.Test.YtgjgjgihceijnaaG28
namespace Go.Stn
/-- Some byte is allowed. -/
def FnOk (f : Nat → Bool) : Prop := ∃ b, b < 256 ∧ f b = true
/-- None above 126 is. -/
def FnLow (f : Nat → Bool) : Prop := ∀ b, 126 < b → f b = false
theorem escX_ok {t : ByteArray} {a a' : Nat} {x : Int} (h : escX t a = some (x, a')) : ∃ b : Nat, x = (b : Int) ∧ b ≤ 126 := by
  unfold escX at h
  split at h
  · injection h with h; injection h with h1 h2; exact ⟨10, by rw [← h1]; rfl, by omega⟩
  · split at h
    · injection h with h; injection h with h1 h2; exact ⟨32, by rw [← h1]; rfl, by omega⟩
    · split at h
      · rename_i hv
        injection h with h; injection h with h1 h2
        have hv := hv.1
        unfold visB at hv
        rw [decide_eq_true_eq] at hv
        exact ⟨x.toNat, by omega, by omega⟩
      · cases h
theorem singleX_ok {t sp : ByteArray} {a a' : Nat} {x : Int} (h : singleX t sp a = some (x, a')) : ∃ b : Nat, x = (b : Int) ∧ b ≤ 126 := by
  unfold singleX at h
  split at h
  · exact escX_ok h
  · split at h
    · rename_i hv
      injection h with h; injection h with h1 h2
      unfold plainB visB at hv
      rw [Bool.and_eq_true, decide_eq_true_eq] at hv
      exact ⟨x.toNat, by omega, by omega⟩
    · cases h
theorem withB_ok {f : Nat → Bool} {x y : Nat} (h : x ≤ y) (hy : y ≤ 126) : FnOk (withB f x y) := ⟨x, by omega, by unfold withB; simp; omega⟩
theorem withB_low {f : Nat → Bool} {x y : Nat} (hf : FnLow f) (hy : y ≤ 126) : FnLow (withB f x y) := fun b hb => by
  unfold withB; rw [hf b hb]; simp; omega
theorem memberX_ok {t : ByteArray} {f g : Nat → Bool} {a a' : Nat} (hf : FnLow f) (h : memberX t f a = some (g, a')) : FnOk g ∧ FnLow g := by
  unfold memberX at h
  cases e : singleX t spIn a with
  | none => rw [e] at h; cases h
  | some y =>
    obtain ⟨x, a1⟩ := y
    obtain ⟨b, rfl, hb⟩ := singleX_ok e
    rw [e] at h
    simp only at h
    split at h
    · injection h with h; injection h with h1 h2
      rw [← h1]; exact ⟨withB_ok (Nat.le_refl _) hb, withB_low hf hb⟩
    · cases e2 : singleX t spIn (a1 + 1) with
      | none => rw [e2] at h; cases h
      | some z =>
        obtain ⟨y, a2⟩ := z
        obtain ⟨c, rfl, hc⟩ := singleX_ok e2
        rw [e2] at h
        simp only at h
        split at h
        · cases h
        · rename_i hlt
          injection h with h; injection h with h1 h2
          rw [← h1]; exact ⟨withB_ok (by omega) hc, withB_low hf hc⟩
theorem setLoopX_ok {t : ByteArray} : ∀ (n : Nat) (f g : Nat → Bool) (a a' : Nat), FnOk f → FnLow f → setLoopX t n f a = some (g, a') → FnOk g ∧ FnLow g := by
  intro n
  induction n with
  | zero => intro f g a a' _ _ h; cases h
  | succ k ih =>
    intro f g a a' h1 h2 h
    rw [setLoopX] at h
    split at h
    · injection h with h; injection h with h3 _; rw [← h3]; exact ⟨h1, h2⟩
    · cases e : memberX t f a with
      | none => rw [e] at h; cases h
      | some y =>
        obtain ⟨f2, a2⟩ := y
        rw [e] at h
        obtain ⟨k1, k2⟩ := memberX_ok h2 e
        exact ih f2 g a2 a' k1 k2 h
theorem setRX_ok {t : ByteArray} {g : Nat → Bool} {a a' : Nat} (h : setRX t a = some (g, a')) : FnOk g ∧ FnLow g := by
  unfold setRX at h
  cases e : memberX t zeroF a with
  | none => rw [e] at h; cases h
  | some y =>
    obtain ⟨f2, a2⟩ := y
    rw [e] at h
    obtain ⟨k1, k2⟩ := memberX_ok (fun _ _ => rfl) e
    exact setLoopX_ok _ f2 g a2 a' k1 k2 h
theorem allowedX_ok {t : ByteArray} {g : Nat → Bool} {a a' : Nat} (h : allowedX t a = some (g, a')) : FnOk g := by
  unfold allowedX at h
  split at h
  · unfold setX at h
    split at h
    · cases e : setRX t (a + 1 + 1) with
      | none => rw [e] at h; cases h
      | some y =>
        obtain ⟨f2, a2⟩ := y
        rw [e] at h
        obtain ⟨_, k2⟩ := setRX_ok e
        injection h with h; injection h with h3 _
        rw [← h3]
        exact ⟨255, by omega, by show (!(f2 255)) = true; rw [k2 255 (by omega)]; rfl⟩
    · exact (setRX_ok h).1
  · split at h
    · injection h with h; injection h with h3 _
      rw [← h3]; exact ⟨0, by omega, rfl⟩
    · cases e : singleX t spOut a with
      | none => rw [e] at h; cases h
      | some y =>
        obtain ⟨x, a1⟩ := y
        obtain ⟨b, rfl, hb⟩ := singleX_ok e
        rw [e] at h
        injection h with h; injection h with h3 _
        rw [← h3]; exact withB_ok (Nat.le_refl _) hb

/-- Each place allows some byte. -/
def Rx.good (r : Rx) : Prop := ∀ f ∈ r.fns, FnOk f
def GoodE (ex : Nat → Option (Rx × Nat)) : Prop := ∀ a r a', ex a = some (r, a') → r.good
theorem good_cat {r r2 : Rx} (h : r.good) (k : r2.good) : (Rx.cat r r2).good := fun f hf => by
  rcases List.mem_append.1 hf with h1 | h1
  · exact h f h1
  · exact k f h1
theorem good_alt {r r2 : Rx} (h : r.good) (k : r2.good) : (Rx.alt r r2).good := fun f hf => by
  rcases List.mem_append.1 hf with h1 | h1
  · exact h f h1
  · exact k f h1
theorem atomX_good {t : ByteArray} {ex : Nat → Option (Rx × Nat)} (hx : GoodE ex) : GoodE (atomX t ex) := fun a r a' h => by
  unfold atomX at h
  split at h
  · cases e : ex (a + 1) with
    | none => rw [e] at h; cases h
    | some y =>
      obtain ⟨r2, a2⟩ := y
      rw [e] at h
      simp only at h
      split at h
      · injection h with h; injection h with h1 _; rw [← h1]; exact hx _ _ _ e
      · cases h
  · cases e : allowedX t a with
    | none => rw [e] at h; cases h
    | some y =>
      obtain ⟨f, a2⟩ := y
      rw [e] at h
      injection h with h; injection h with h1 _
      rw [← h1]
      intro g hg
      have hg : g ∈ [f] := hg
      rw [List.mem_singleton] at hg
      rw [hg]; exact allowedX_ok e
theorem pieceX_good {t : ByteArray} {ex : Nat → Option (Rx × Nat)} (hx : GoodE ex) : GoodE (pieceX t ex) := fun a r a' h => by
  unfold pieceX at h
  cases e : atomX t ex a with
  | none => rw [e] at h; cases h
  | some y =>
    obtain ⟨r2, a2⟩ := y
    have hg := atomX_good hx _ _ _ e
    rw [e] at h
    simp only at h
    split at h
    · injection h with h; injection h with h1 _; rw [← h1]; exact hg
    · rename_i hm
      injection h with h; injection h with h1 _
      rw [← h1]
      intro f hf
      rw [(markX_flat hm r2 0 0).2.2.1] at hf
      exact hg f hf
theorem altLoopX_good {t : ByteArray} {ex : Nat → Option (Rx × Nat)} (hx : GoodE ex) : ∀ (n : Nat) (r : Rx) (a : Nat) (r' : Rx) (a' : Nat), r.good → altLoopX t ex n r a = some (r', a') → r'.good := by
  intro n
  induction n with
  | zero => intro r a r' a' _ h; cases h
  | succ k ih =>
    intro r a r' a' hr h
    rw [altLoopX] at h
    split at h
    · injection h with h; injection h with h1 _; rw [← h1]; exact hr
    · cases e : pieceX t ex a with
      | none => rw [e] at h; cases h
      | some y =>
        obtain ⟨r2, a2⟩ := y
        rw [e] at h
        exact ih _ _ _ _ (good_cat hr (pieceX_good hx _ _ _ e)) h
theorem altX_good {t : ByteArray} {ex : Nat → Option (Rx × Nat)} (hx : GoodE ex) : GoodE (altX t ex) := fun a r a' h => by
  unfold altX at h
  cases e : pieceX t ex a with
  | none => rw [e] at h; cases h
  | some y =>
    obtain ⟨r2, a2⟩ := y
    rw [e] at h
    exact altLoopX_good hx _ _ _ _ _ (pieceX_good hx _ _ _ e) h
theorem exprLoopX_good {t : ByteArray} {ex : Nat → Option (Rx × Nat)} (hx : GoodE ex) : ∀ (n : Nat) (r : Rx) (a : Nat) (r' : Rx) (a' : Nat), r.good → exprLoopX t ex n r a = some (r', a') → r'.good := by
  intro n
  induction n with
  | zero => intro r a r' a' _ h; cases h
  | succ k ih =>
    intro r a r' a' hr h
    rw [exprLoopX] at h
    split at h
    · injection h with h; injection h with h1 _; rw [← h1]; exact hr
    · cases e : altX t ex (a + 1) with
      | none => rw [e] at h; cases h
      | some y =>
        obtain ⟨r2, a2⟩ := y
        rw [e] at h
        exact ih _ _ _ _ (good_alt hr (altX_good hx _ _ _ e)) h
theorem exprX_good (t : ByteArray) : ∀ f, GoodE (exprX t f) := by
  intro f
  induction f with
  | zero => intro a r a' h; cases h
  | succ k ih =>
    intro a r a' h
    rw [exprX] at h
    cases e : altX t (exprX t k) a with
    | none => rw [e] at h; cases h
    | some y =>
      obtain ⟨r2, a2⟩ := y
      rw [e] at h
      exact exprLoopX_good ih _ _ _ _ _ (altX_good ih _ _ _ e) h

/-- What a rule keeps to. -/
structure RuleOk (x : RuleX) : Prop where
  b0 : 0 ≤ x.2.1
  b5 : x.2.1 ≤ 5
  c4 : ∀ c, 4 ≤ c → x.1 c = false
  c0 : ∃ c, c < 4 ∧ x.1 c = true
  g : x.2.2.good
theorem letterX_ok {t : ByteArray} {a a' : Nat} {x : Int} (h : letterX t a = some (x, a')) : ∃ c : Nat, x = (c : Int) ∧ c < 4 := by
  unfold letterX at h
  split at h
  · injection h with h; injection h with h1 _
    exact ⟨x.toNat, by omega, by omega⟩
  · cases h
theorem condsLoopX_ok {t : ByteArray} : ∀ (n : Nat) (f : Nat → Bool) (last : Int) (a : Nat) (g : Nat → Bool) (a' : Nat), (∀ c, 4 ≤ c → f c = false) → (∃ c, c < 4 ∧ f c = true) → condsLoopX t n f last a = some (g, a') → (∀ c, 4 ≤ c → g c = false) ∧ ∃ c, c < 4 ∧ g c = true := by
  intro n
  induction n with
  | zero => intro f last a g a' _ _ h; cases h
  | succ k ih =>
    intro f last a g a' h1 h2 h
    rw [condsLoopX] at h
    cases e : letterX t a with
    | none => rw [e] at h; injection h with h; injection h with h3 _; rw [← h3]; exact ⟨h1, h2⟩
    | some y =>
      obtain ⟨x, a1⟩ := y
      obtain ⟨c, rfl, hc⟩ := letterX_ok e
      rw [e] at h
      simp only at h
      split at h
      · cases h
      · refine ih _ _ _ _ _ (fun d hd => ?_) ?_ h
        · unfold set1; rw [if_neg (by omega)]; exact h1 d hd
        · exact ⟨c, hc, by unfold set1; rw [if_pos rfl]⟩
theorem ruleX_ok {t : ByteArray} {a a' : Nat} {x : RuleX} (h : ruleX t a = some (x, a')) : RuleOk x := by
  unfold ruleX at h
  cases e : condsX t a with
  | none => rw [e] at h; cases h
  | some y =>
    obtain ⟨f, a1⟩ := y
    rw [e] at h
    simp only at h
    have hf : (∀ c, 4 ≤ c → f c = false) ∧ ∃ c, c < 4 ∧ f c = true := by
      unfold condsX at e
      cases e2 : letterX t a with
      | none => rw [e2] at e; cases e
      | some z =>
        obtain ⟨u, a2⟩ := z
        obtain ⟨c, rfl, hc⟩ := letterX_ok e2
        rw [e2] at e
        refine condsLoopX_ok _ _ _ _ _ _ (fun d hd => ?_) ?_ e
        · unfold set1; rw [if_neg (by omega)]; rfl
        · exact ⟨c, hc, by unfold set1; rw [if_pos rfl]⟩
    split at h
    · cases h
    · cases e2 : exprX t (t.size + 1) (a1 + 1) with
      | none => rw [e2] at h; cases h
      | some z =>
        obtain ⟨r, a2⟩ := z
        rw [e2] at h
        simp only at h
        split at h
        · cases h
        · cases e3 : behindX t (a2 + 1) with
          | none => rw [e3] at h; cases h
          | some u =>
            obtain ⟨b, a3⟩ := u
            rw [e3] at h
            injection h with h; injection h with h1 _
            have hb : 0 ≤ b ∧ b ≤ 5 := by
              unfold behindX at e3
              split at e3
              · injection e3 with e3; injection e3 with e4 _; omega
              · split at e3
                · injection e3 with e3; injection e3 with e4 _; omega
                · cases e5 : letterX t (a2 + 1) with
                  | none => rw [e5] at e3; cases e3
                  | some v =>
                    obtain ⟨c, a4⟩ := v
                    obtain ⟨d, rfl, hd⟩ := letterX_ok e5
                    rw [e5] at e3
                    injection e3 with e3; injection e3 with e4 _; omega
            rw [← h1]
            exact ⟨hb.1, hb.2, hf.1, hf.2, exprX_good t _ _ _ _ e2⟩
theorem rulesLoopX_ok {t : ByteArray} : ∀ (n : Nat) (l : List RuleX) (a : Nat) (l' : List RuleX) (a' : Nat), (∀ x ∈ l, RuleOk x) → 0 < l.length → rulesLoopX t n l a = some (l', a') → (∀ x ∈ l', RuleOk x) ∧ 0 < l'.length := by
  intro n
  induction n with
  | zero => intro l a l' a' _ _ h; cases h
  | succ k ih =>
    intro l a l' a' h1 h2 h
    rw [rulesLoopX] at h
    split at h
    · injection h with h; injection h with h3 _; rw [← h3]; exact ⟨h1, h2⟩
    · cases e : ruleX t (a + 1) with
      | none => rw [e] at h; cases h
      | some y =>
        obtain ⟨x, a1⟩ := y
        rw [e] at h
        refine ih _ _ _ _ (fun z hz => ?_) (by simp) h
        rcases List.mem_append.1 hz with q | q
        · exact h1 z q
        · rw [List.mem_singleton] at q; rw [q]; exact ruleX_ok e
theorem fileX_ok {t : ByteArray} {l : List RuleX} (h : fileX t = some l) : (∀ x ∈ l, RuleOk x) ∧ 0 < l.length ∧ l.length ≤ 8 := by
  unfold fileX rulesX at h
  cases e : ruleX t 0 with
  | none => rw [e] at h; cases h
  | some y =>
    obtain ⟨x, a1⟩ := y
    rw [e] at h
    simp only at h
    cases e2 : rulesLoopX t (t.size + 1) [x] a1 with
    | none => rw [e2] at h; cases h
    | some z =>
      obtain ⟨l', a'⟩ := z
      rw [e2] at h
      simp only at h
      have := rulesLoopX_ok _ _ _ _ _ (fun z hz => by rw [List.mem_singleton] at hz; rw [hz]; exact ruleX_ok e) (by simp) e2
      split at h
      · rename_i hyes
        injection h with h
        rw [← h]
        exact ⟨this.1, this.2, hyes.2⟩
      · cases h

/-- A node whose parts stand ahead of it. -/
def nodeOk1 (k : Nat) (x : Int × Int × Int) : Prop := 0 ≤ x.1 ∧ x.1 ≤ 5 ∧ (x.1 = 0 → 0 ≤ x.2.1 ∧ x.2.1 < 10) ∧ (x.1 ≠ 0 → 0 ≤ x.2.1 ∧ x.2.1 < k ∧ 0 ≤ x.2.2 ∧ x.2.2 < k)
def NodesFrom (nb : Nat) (l : List (Int × Int × Int)) : Prop := ∀ k x, l[k]? = some x → nodeOk1 (nb + k) x
theorem NodesFrom.app {nb : Nat} {l m : List (Int × Int × Int)} (h : NodesFrom nb l) (k : NodesFrom (nb + l.length) m) : NodesFrom nb (l ++ m) := fun i x hx => by
  by_cases e : i < l.length
  · rw [List.getElem?_append_left e] at hx; exact h i x hx
  · rw [List.getElem?_append_right (by omega)] at hx
    have := k _ x hx
    rw [show nb + l.length + (i - l.length) = nb + i by omega] at this
    exact this
theorem NodesFrom.one {nb : Nat} {x : Int × Int × Int} (h : nodeOk1 nb x) : NodesFrom nb [x] := fun i y hy => by
  cases i with
  | zero => simp at hy; rw [← hy]; exact h
  | succ j => simp at hy
theorem Rx.flat_ok : ∀ (r : Rx) (nb pb : Nat), pb + r.np ≤ 10 → NodesFrom nb (r.flat nb pb)
  | .pl f, nb, pb, h => NodesFrom.one (by have h : pb + 1 ≤ 10 := h; unfold nodeOk1; simp only; omega)
  | .cat a b, nb, pb, h => by
    have h : pb + (a.np + b.np) ≤ 10 := h
    have := a.sz_pos
    have := b.sz_pos
    refine (a.flat_ok nb pb (by omega)).app ?_
    rw [a.flat_len]
    refine (b.flat_ok _ _ (by omega)).app ?_
    rw [b.flat_len]
    exact NodesFrom.one (by unfold nodeOk1; simp only; omega)
  | .alt a b, nb, pb, h => by
    have h : pb + (a.np + b.np) ≤ 10 := h
    have := a.sz_pos
    have := b.sz_pos
    refine (a.flat_ok nb pb (by omega)).app ?_
    rw [a.flat_len]
    refine (b.flat_ok _ _ (by omega)).app ?_
    rw [b.flat_len]
    exact NodesFrom.one (by unfold nodeOk1; simp only; omega)
  | .opt a, nb, pb, h => by
    have := a.sz_pos
    refine (a.flat_ok nb pb h).app ?_
    rw [a.flat_len]
    exact NodesFrom.one (by unfold nodeOk1; simp only; omega)
  | .plus a, nb, pb, h => by
    have := a.sz_pos
    refine (a.flat_ok nb pb h).app ?_
    rw [a.flat_len]
    exact NodesFrom.one (by unfold nodeOk1; simp only; omega)
  | .star a, nb, pb, h => by
    have := a.sz_pos
    refine (a.flat_ok nb pb h).app ?_
    rw [a.flat_len]
    exact NodesFrom.one (by unfold nodeOk1; simp only; omega)

/-- What the lists of rules and nodes keep to. -/
structure ListsOk (st : PSt) : Prop where
  no : NodesFrom 0 st.nodes
  ro : ∀ x ∈ st.rules, 0 ≤ x.2.2 ∧ x.2.2 < st.nodes.length
  be : ∀ x ∈ st.rules, 0 ≤ x.2.1 ∧ x.2.1 ≤ 5
def sumNp : List RuleX → Nat
  | [] => 0
  | x :: l => x.2.2.np + sumNp l
theorem putRules_places : ∀ (l : List RuleX) (st : PSt), (putRules st l).places.length = st.places.length + sumNp l
  | [], st => rfl
  | x :: l, st => by rw [putRules, putRules_places l]; simp [putRule, sumNp, Rx.fns_len]; omega
theorem putRules_ok : ∀ (l : List RuleX) (st : PSt), ListsOk st → (∀ x ∈ l, RuleOk x) → st.places.length + sumNp l ≤ 10 → ListsOk (putRules st l)
  | [], st, h, _, _ => h
  | x :: l, st, h, hl, hp => by
    have hx := hl x List.mem_cons_self
    have hp : st.places.length + (x.2.2.np + sumNp l) ≤ 10 := hp
    have hsz := x.2.2.sz_pos
    refine putRules_ok l _ ⟨?_, fun y hy => ?_, fun y hy => ?_⟩ (fun y hy => hl y (List.mem_cons_of_mem _ hy)) ?_
    · refine h.no.app ?_
      rw [Nat.zero_add]
      exact x.2.2.flat_ok _ _ (by omega)
    · show 0 ≤ y.2.2 ∧ y.2.2 < ((st.nodes ++ x.2.2.flat st.nodes.length st.places.length).length : Nat)
      rw [List.length_append, Rx.flat_len]
      rcases List.mem_append.1 hy with q | q
      · have := h.ro y q; omega
      · rw [List.mem_singleton] at q; rw [q]; simp only; omega
    · rcases List.mem_append.1 hy with q | q
      · exact h.be y q
      · rw [List.mem_singleton] at q; rw [q]; exact ⟨hx.b0, hx.b5⟩
    · show (st.places ++ x.2.2.fns).length + sumNp l ≤ 10
      rw [List.length_append, Rx.fns_len]; omega

theorem rulesLoop_gr {t : ByteArray} : ∀ (n : Nat) (ok : Bool) (st : PSt), st.at_ ≤ t.size → st.nodes.length ≤ 3 * st.at_ → (rulesLoop t n ok st).2.nodes.length ≤ 3 * t.size := by
  intro n
  induction n with
  | zero => intro ok st h1 h2; rw [rulesLoop]; simp only; omega
  | succ k ih =>
    intro ok st h1 h2
    rw [rulesLoop]
    split
    · simp only; omega
    · split
      · simp only; omega
      · rename_i hn
        have hlt := nextB_lt (t := t) (b := 10) (st := st) (by omega) (by simpa using hn)
        have hg := (ruleP_gr (t := t) (st := adv st) (by rw [adv_at]; omega)).1
        obtain ⟨g1, g2, g3, g4⟩ := hg
        rw [adv_at] at g1 g3
        have e : (adv st).nodes = st.nodes := rfl
        rw [e] at g3
        exact ih _ _ g2 (by omega)
theorem parsed_few (t : ByteArray) : (parsedP t).nodes.length ≤ 3 * t.size := by
  unfold parsedP rulesR
  have hg := (ruleP_gr (t := t) (st := st0) (Nat.zero_le _)).1
  obtain ⟨g1, g2, g3, g4⟩ := hg
  have e : st0.nodes.length = 0 := rfl
  have e2 : st0.at_ = 0 := rfl
  rw [e, e2] at g3
  exact rulesLoop_gr _ _ _ g2 (by omega)

theorem st0_ok : ListsOk st0 := ⟨fun k x hx => by simp [st0] at hx, fun x hx => absurd hx List.not_mem_nil, fun x hx => absurd hx List.not_mem_nil⟩
/-- What was read, where Parse says OK. -/
theorem parse_ok {t : ByteArray} (h : parseC t = 0) : t.size ≤ 120 ∧ ∃ l, fileX t = some l ∧ sumNp l ≤ 10 ∧ (parsedP t).rules = (putRules st0 l).rules ∧ (parsedP t).nodes = (putRules st0 l).nodes ∧ (parsedP t).places = (putRules st0 l).places := by
  obtain ⟨h1, h2, h3⟩ := parse_file t
  by_cases hs : 120 < t.size
  · rw [h1 hs] at h; cases h
  · refine ⟨by omega, ?_⟩
    cases e : fileX t with
    | none => rw [h2 (by omega) e] at h; cases h
    | some l =>
      obtain ⟨a, b⟩ := h3 (by omega) l e
      by_cases hp : 10 < (putRules st0 l).places.length
      · rw [a hp] at h; cases h
      · obtain ⟨_, c⟩ := b (by omega)
        rw [putRules_places] at hp
        have e0 : st0.places.length = 0 := rfl
        have c1 := congrArg PSt.rules c
        have c2 := congrArg PSt.nodes c
        have c3 := congrArg PSt.places c
        exact ⟨l, rfl, by omega, c1, c2, c3⟩
theorem file_ok {t : ByteArray} (h : parseC t = 0) : FileOk (parsedP t) := by
  obtain ⟨hs, l, hl, hn, e1, e2, e3⟩ := parse_ok h
  obtain ⟨k1, k2, k3⟩ := fileX_ok hl
  have e0 : st0.places.length = 0 := rfl
  have e4 : st0.rules.length = 0 := rfl
  have hok := putRules_ok l st0 st0_ok k1 (by omega)
  have hfew := parsed_few t
  have hlen : (putRules st0 l).rules.length = l.length := by rw [putRules_len]; omega
  have hpl : (putRules st0 l).places.length = sumNp l := by rw [putRules_places]; omega
  obtain ⟨g0, g1, g2⟩ := grpP_facts (parsedP t).places
  have hnp : 0 < sumNp l := by
    cases l with
    | nil => simp at k2
    | cons x r => have := x.2.2.np_pos; show 0 < x.2.2.np + sumNp r; omega
  have hnn : 0 < (putRules st0 l).nodes.length := by
    cases hr : (putRules st0 l).rules with
    | nil => rw [hr] at hlen; simp at hlen; omega
    | cons x r => have := hok.ro x (by rw [hr]; exact List.mem_cons_self); omega
  refine ⟨by omega, by rw [e2]; exact hnn, ?_, by rw [e1, hlen]; exact k2, by rw [e1, hlen]; omega, ?_, ?_, by rw [e3, hpl]; exact hnp, by rw [e3, hpl]; exact hn, g0, g1, g2⟩
  · rw [e2]
    intro k x hx
    have := hok.no k x hx
    rw [Nat.zero_add] at this
    exact this
  · rw [e1, e2]; exact hok.ro
  · rw [e1]
    intro x hx
    have := hok.be x hx
    omega
end Go.Stn

namespace Go.Stn
def ruleTx (e : List Nat) : List Nat := 65 :: 32 :: (e ++ [32, 46])
def tailTx : List (List Nat) → List Nat
  | [] => []
  | e :: l => 10 :: (ruleTx e ++ tailTx l)
/-- The text of some rules. -/
def fileTx : List (List Nat) → List Nat
  | [] => []
  | e :: l => ruleTx e ++ tailTx l
theorem ruleTx_len (e : List Nat) : (ruleTx e).length = e.length + 4 := by simp [ruleTx]
theorem tailTx_snoc : ∀ (l : List (List Nat)) (e : List Nat), tailTx (l ++ [e]) = tailTx l ++ 10 :: ruleTx e
  | [], e => by simp [tailTx]
  | x :: l, e => by simp [tailTx, tailTx_snoc l e]
theorem tailTx_len : ∀ (l : List (List Nat)), l.length ≤ (tailTx l).length
  | [] => Nat.le_refl _
  | e :: l => by have := tailTx_len l; simp only [tailTx, List.length_cons, List.length_append]; omega
theorem fileTx_snoc {l : List (List Nat)} (h : l ≠ []) (e : List Nat) : fileTx (l ++ [e]) = fileTx l ++ 10 :: ruleTx e := by
  cases l with
  | nil => exact absurd rfl h
  | cons x l => simp [fileTx, tailTx_snoc]
def aF : Nat → Bool := set1 zeroF 0
def ruleOfT (o : Bool) (r : Tr) : RuleX := (aF, 0, r.rx o)
theorem letter_none {t : ByteArray} {a : Nat} {b : Int} (h : peekP t a = b) (hb : b < 65) : letterX t a = none := by
  unfold letterX; rw [h, if_neg (by omega)]
theorem rule_tr {t : ByteArray} {o : Bool} {r : Tr} (hg : r.good) {a : Nat} (hs : Stands t a (ruleTx (r.sp o))) : ruleX t a = some (ruleOfT o r, a + (ruleTx (r.sp o)).length) := by
  have hz := hs.size (Nat.succ_pos _)
  rw [ruleTx_len] at hz ⊢
  obtain ⟨h0, h1, h2⟩ := hs
  obtain ⟨h3, h4, h5, _⟩ := h2.app
  have hc : condsX t a = some (aF, a + 1) := by
    unfold condsX letterX
    rw [h0, if_pos (by omega)]
    simp only
    rw [condsLoopX, letter_none h1 (by omega)]
    rfl
  have he := Tr.sp_expr (o := o) hg (a := a + 1 + 1) (f := t.size) (by omega) h3 h4
  unfold ruleX
  rw [hc]
  simp only
  rw [isB_at h1, if_neg (by decide), he]
  simp only
  rw [isB_at h4, if_neg (by decide)]
  unfold behindX
  rw [isB_at h5, if_pos (by decide)]
  simp only
  rw [show a + 1 + 1 + (r.sp o).length + 1 + 1 = a + ((r.sp o).length + 4) by omega]
  rfl
theorem rules_tr {t : ByteArray} {o : Bool} : ∀ (rs : List Tr) (n : Nat) (l : List RuleX) (a : Nat), (∀ r ∈ rs, r.good) → rs.length < n → Stands t a (tailTx (rs.map (Tr.sp o))) → t.size = a + (tailTx (rs.map (Tr.sp o))).length →
    rulesLoopX t n l a = some (l ++ rs.map (ruleOfT o), t.size)
  | [], n, l, a, _, hn, _, hz => by
    obtain ⟨k, rfl⟩ : ∃ k, n = k + 1 := ⟨n - 1, by simp at hn; omega⟩
    have hz : t.size = a := hz
    rw [rulesLoopX, if_pos (by unfold isB; rw [peekP_end (by omega)]; rfl)]
    simp [hz]
  | r :: rs, n, l, a, hg, hn, hs, hz => by
    obtain ⟨k, rfl⟩ : ∃ k, n = k + 1 := ⟨n - 1, by simp at hn; omega⟩
    have e1 : tailTx ((r :: rs).map (Tr.sp o)) = 10 :: (ruleTx (r.sp o) ++ tailTx (rs.map (Tr.sp o))) := rfl
    rw [e1] at hs hz
    obtain ⟨h0, h1⟩ := hs
    obtain ⟨h2, h3⟩ := h1.app
    rw [rulesLoopX, isB_at h0, if_neg (by decide), rule_tr (hg r List.mem_cons_self) h2]
    simp only
    rw [rules_tr rs k (l ++ [ruleOfT o r]) _ (fun x hx => hg x (List.mem_cons_of_mem _ hx)) (by simp at hn; omega) h3 (by rw [hz]; simp only [List.length_cons, List.length_append]; omega)]
    simp [List.append_assoc]
/-- The rules of a file of trees. -/
def rulesOf (o : Bool) (rs : List Tr) : List RuleX := rs.map (ruleOfT o)
theorem file_tr {t : ByteArray} {o : Bool} {rs : List Tr} (hg : ∀ r ∈ rs, r.good) (hne : rs ≠ []) (hs : Stands t 0 (fileTx (rs.map (Tr.sp o)))) (hz : t.size = (fileTx (rs.map (Tr.sp o))).length) :
    fileX t = if rs.length ≤ 8 then some (rulesOf o rs) else none := by
  cases rs with
  | nil => exact absurd rfl hne
  | cons r rs =>
    have e1 : fileTx ((r :: rs).map (Tr.sp o)) = ruleTx (r.sp o) ++ tailTx (rs.map (Tr.sp o)) := rfl
    rw [e1] at hs hz
    obtain ⟨h2, h3⟩ := hs.app
    have hlen := tailTx_len (rs.map (Tr.sp o))
    rw [List.length_map] at hlen
    rw [List.length_append] at hz
    unfold fileX rulesX
    rw [rule_tr (hg r List.mem_cons_self) h2]
    simp only
    rw [rules_tr rs (t.size + 1) [ruleOfT o r] _ (fun x hx => hg x (List.mem_cons_of_mem _ hx)) (by omega) h3 (by omega)]
    simp only
    have e2 : ([ruleOfT o r] ++ rs.map (ruleOfT o)).length = (r :: rs).length := by simp
    by_cases h8 : (r :: rs).length ≤ 8
    · rw [if_pos (by rw [e2]; exact ⟨by simp, h8⟩), if_pos h8]; rfl
    · rw [if_neg (fun hh => h8 (by rw [← e2]; exact hh.2)), if_neg h8]
def sumC (o : Bool) : List Tr → Nat
  | [] => 0
  | r :: l => r.cnt o + sumC o l
theorem sumC_snoc (o : Bool) : ∀ (l : List Tr) (r : Tr), sumC o (l ++ [r]) = sumC o l + r.cnt o
  | [], r => by simp [sumC]
  | x :: l, r => by simp only [List.cons_append, sumC, sumC_snoc o l r]; omega
theorem sumNp_tr (o : Bool) : ∀ rs : List Tr, sumNp (rulesOf o rs) = sumC o rs
  | [] => rfl
  | r :: rs => by show (r.rx o).np + sumNp (rulesOf o rs) = r.cnt o + sumC o rs; rw [r.np_rx, sumNp_tr o rs]
/-- What Parse says of a file of trees. -/
theorem parse_tr {t : ByteArray} {o : Bool} {rs : List Tr} (hg : ∀ r ∈ rs, r.good) (hne : rs ≠ []) (hs : Stands t 0 (fileTx (rs.map (Tr.sp o)))) (hz : t.size = (fileTx (rs.map (Tr.sp o))).length) :
    parseC t = if 120 < t.size then 1 else if 8 < rs.length then 2 else if 10 < sumC o rs then 3 else 0 := by
  obtain ⟨p1, p2, p3⟩ := parse_file t
  have hf := file_tr hg hne hs hz
  by_cases h1 : 120 < t.size
  · rw [if_pos h1]; exact p1 h1
  · rw [if_neg h1]
    by_cases h2 : 8 < rs.length
    · rw [if_pos h2]; exact p2 (by omega) (by rw [hf, if_neg (by omega)])
    · rw [if_neg h2]
      obtain ⟨q1, q2⟩ := p3 (by omega) _ (by rw [hf, if_pos (by omega)])
      rw [putRules_places, show st0.places.length = 0 from rfl, Nat.zero_add, sumNp_tr] at q1 q2
      by_cases h3 : 10 < sumC o rs
      · rw [if_pos h3]; exact q1 h3
      · rw [if_neg h3]; exact (q2 (by omega)).1
end Go.Stn

