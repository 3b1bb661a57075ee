/- Texts put together: AlOpen, TkNet. -/
import Derived.Test.YtgjgjgihceijnaaG34
import Derived.Deep.Slices
import Derived.DataReads
import Derived.Test.YtgjgjgihceijnaaG31
namespace Go.Proofs.Ytgjgjgihceijnaa
open Go.RowKit Go.Stn Go.ChangeShapes Go.WideShapes
theorem Try.opCells : Try.prog.cellsOf 107 = 3 := by kernel_rfl
theorem Try.intCells : Try.prog.cellsOf 3 = 1 := by kernel_rfl
theorem wf_isI {n : Int} (h : (Lit.int .i64 n).wf = true) : isI n := by
  have hx : -9223372036854775808 ≤ n ∧ n ≤ 9223372036854775807 := by simpa [Lit.wf, IntKind.min, IntKind.max, IntKind.signed, IntKind.bits] using h
  exact hx
set_option maxRecDepth 100000 in
theorem op_open {H : Type} {enc : TypeId × Value → H} {W : World} {n : Nat} {cs : List Value} {x : DataW H × List MemPlace} (h : DataW.trod enc Try.prog W 0 (fun _ => true) true n 107 cs = some x) : ∃ o : OpK, cs = o.cells ∧ o.ok := by
  obtain ⟨xs, k, hk, hxy, hl, hxl, hf⟩ := DataW.trod_struct Try.underlying107 h
  rw [Try.opCells] at hl
  have hxl : xs.length = 3 := hxl
  match xs, hxl, cs, hl with
  | [y0, y1, y2], _, [v0, v1, v2], _ =>
    have g0 := hf 0 _ rfl
    have g1 := hf 1 _ rfl
    have g2 := hf 2 _ rfl
    simp [Try.intCells] at g0 g1 g2
    obtain ⟨n0, e0, _, w0⟩ := DataW.trod_int Try.underlying3 g0
    obtain ⟨n1, e1, _, w1⟩ := DataW.trod_int Try.underlying3 g1
    obtain ⟨n2, e2, _, w2⟩ := DataW.trod_int Try.underlying3 g2
    refine ⟨⟨n0, n1, n2⟩, ?_, wf_isI w0, wf_isI w1, wf_isI w2⟩
    simp at e0 e1 e2
    rw [e0, e1, e2]
    rfl
theorem ops_open {H : Type} {enc : TypeId × Value → H} {W : World} {a : Option Addr} {len cap : Nat} {d : DataW H} {ps : List MemPlace} (h : DataW.Trod enc Try.prog W 0 (fun _ => true) true 46 (.slice a len cap) d ps) :
    len = 0 ∨ ∃ (b o : Nat) (D : Nat → DataW H) (sp : List (DataW H)) (ops : List OpK), a = some ⟨b, o, none⟩ ∧ ops.length = len ∧ d = .slice ((List.range len).map D) sp ∧ OpsIn W b o ops := by
  obtain ⟨fuel, h⟩ := h
  rcases Go.Deep.open_slice Try.underlying46 h with ⟨e, _⟩ | ⟨ad, len', cap', m, n, D, Pl, e, hb, hl, hm, hmm, hx, hall⟩
  · left
    have e : [Value.slice a len cap] = [.slice none 0 0] := e
    injection e with e _
    injection e
  · have e : [Value.slice a len cap] = [.slice (some ad) len' cap'] := e
    injection e with e _
    injection e with e1 e2 e3
    subst e1 e2 e3
    by_cases h0 : len = 0
    · exact .inl h0
    · right
      have hmle : len ≤ m := by rw [hmm]; split <;> omega
      rw [Try.opCells] at hall
      have heach : ∀ i, i < len → ∃ o : OpK, (∀ j v, o.cells[j]? = some v → W.cell? (ad.add (i * 3 + j)) = some v) ∧ o.ok := fun i hi => by
        obtain ⟨cs, h1, h2⟩ := hall i (by omega)
        obtain ⟨o, rfl, ho⟩ := op_open h2
        obtain ⟨_, hl3, hc⟩ := World.cells?_some h1
        refine ⟨o, fun j v hj => ?_, ho⟩
        have hj3 : j < 3 := by have := (List.getElem?_eq_some_iff.1 hj).1; rw [hl3] at this; exact this
        have := hc j hj3
        rw [Go.Deep.add_add] at this
        rw [this, hj]
      have hsp : ad.spot = none := by
        obtain ⟨o, ho, _⟩ := heach 0 (by omega)
        have := ho 0 _ rfl
        have e : ad.add (0 * 3 + 0) = ad := rfl
        rw [e] at this
        unfold World.cell? at this
        cases hs : ad.spot with
        | none => rfl
        | some k =>
          rw [hs] at this
          split at this
          · simp at this
          · cases this
      obtain ⟨b, o, s⟩ := ad
      simp only at hsp
      subst hsp
      have hch : ∃ f : Nat → OpK, ∀ i, i < len → (∀ j v, (f i).cells[j]? = some v → W.cell? ((⟨b, o, none⟩ : Addr).add (i * 3 + j)) = some v) ∧ (f i).ok :=
        ⟨fun i => if hi : i < len then Classical.choose (heach i hi) else ⟨0, 0, 0⟩, fun i hi => by simp only [dif_pos hi]; exact Classical.choose_spec (heach i hi)⟩
      obtain ⟨f, hf⟩ := hch
      refine ⟨b, o, D, _, (List.range len).map f, rfl, by simp, congrArg Prod.fst hx, ?_, ?_, ?_⟩
      · intro k op hk j v hj
        rw [List.getElem?_map] at hk
        have hkl : k < len := by
          apply Classical.byContradiction
          intro hc
          rw [List.getElem?_eq_none (by simp; omega)] at hk
          cases hk
        rw [List.getElem?_range hkl] at hk
        injection hk with hk
        subst hk
        have := (hf k hkl).1 j v hj
        have e : (⟨b, o, none⟩ : Addr).add (k * 3 + j) = ⟨b, o + k * 3 + j, none⟩ := by
          unfold Addr.add
          split
          · rename_i hz; congr 1; omega
          · congr 1; simp only; omega
        rw [e] at this
        exact this
      · intro op hop
        rw [List.mem_map] at hop
        obtain ⟨i, hi, rfl⟩ := hop
        exact (hf i (List.mem_range.1 hi)).2
      · obtain ⟨op, ho, _⟩ := heach 0 (by omega)
        have := ho 0 _ rfl
        unfold World.cell? at this
        apply Classical.byContradiction
        intro hc
        have hb2 : W.heap[b]? = none := by simp; omega
        have e : (⟨b, o, none⟩ : Addr).add (0 * 3 + 0) = ⟨b, o, none⟩ := rfl
        rw [e] at this
        simp only [hb2] at this
        cases this
end Go.Proofs.Ytgjgjgihceijnaa

namespace Go.Stn
open Go.Proofs.Ytgjgjgihceijnaa (netN netF netL)
theorem linkL_app : ∀ (l m : List (Int × Int × Int)) (k : Nat) (ps : Nat → PartT) (next : Nat → Int), linkL (l ++ m) k ps next = linkL m (k + l.length) (linkL l k ps next).1 (linkL l k ps next).2
  | [], m, k, ps, next => rfl
  | x :: l, m, k, ps, next => by
    rw [List.cons_append, linkL, linkL_app l m, linkL, List.length_cons, show k + 1 + l.length = k + (l.length + 1) by omega]
/-- The expressions of the rules, and where their places begin. -/
def bases : Nat → List RuleX → List (Rx × Nat)
  | _, [] => []
  | k, x :: l => (x.2.2, k) :: bases (k + x.2.2.np) l
theorem bases_len : ∀ (l : List RuleX) (k : Nat), (bases k l).length = l.length
  | [], _ => rfl
  | x :: l, k => by simp [bases, bases_len l]
theorem bases_in : ∀ (l : List RuleX) (k : Nat) (y : Rx × Nat), y ∈ bases k l → k ≤ y.2 ∧ y.2 + y.1.np ≤ k + sumNp l
  | [], _, y, h => absurd h List.not_mem_nil
  | x :: l, k, y, h => by
    rcases List.mem_cons.1 h with e | e
    · rw [e]; show k ≤ k ∧ k + x.2.2.np ≤ k + (x.2.2.np + sumNp l); omega
    · have := bases_in l _ y e
      show k ≤ y.2 ∧ y.2 + y.1.np ≤ k + (x.2.2.np + sumNp l); omega
/-- No two rules share a place. -/
theorem bases_apart : ∀ (l : List RuleX) (k i j : Nat) (y z : Rx × Nat), (bases k l)[i]? = some y → (bases k l)[j]? = some z → i < j → y.2 + y.1.np ≤ z.2
  | [], _, _, _, _, _, h, _, _ => by simp [bases] at h
  | x :: l, k, i, j, y, z, hy, hz, hij => by
    obtain ⟨j', rfl⟩ : ∃ j', j = j' + 1 := ⟨j - 1, by omega⟩
    rw [bases, List.getElem?_cons_succ] at hz
    cases i with
    | zero =>
      rw [bases, List.getElem?_cons_zero] at hy
      injection hy with hy
      have := bases_in l _ z (List.mem_of_getElem? hz)
      rw [← hy]
      exact this.1
    | succ i' =>
      rw [bases, List.getElem?_cons_succ] at hy
      exact bases_apart l _ i' j' y z hy hz (by omega)

/-- What each place allows. -/
def plA (places : List (Nat → Bool)) (p b : Nat) : Bool := places.getD p zeroF b
theorem says_of : ∀ (r : Rx) (pre post : List (Nat → Bool)), r.says (plA (pre ++ (r.fns ++ post))) pre.length
  | .pl f, pre, post => fun b _ => by
    unfold plA
    rw [List.getD_eq_getElem?_getD, List.getElem?_append_right (Nat.le_refl _), Nat.sub_self]
    rfl
  | .cat a b, pre, post => by
    refine ⟨?_, ?_⟩
    · have := says_of a pre (b.fns ++ post)
      show a.says (plA (pre ++ ((a.fns ++ b.fns) ++ post))) pre.length
      rw [List.append_assoc]; exact this
    · have := says_of b (pre ++ a.fns) post
      rw [List.length_append, a.fns_len, List.append_assoc] at this
      show b.says (plA (pre ++ ((a.fns ++ b.fns) ++ post))) (pre.length + a.np)
      rw [List.append_assoc]; exact this
  | .alt a b, pre, post => by
    refine ⟨?_, ?_⟩
    · have := says_of a pre (b.fns ++ post)
      show a.says (plA (pre ++ ((a.fns ++ b.fns) ++ post))) pre.length
      rw [List.append_assoc]; exact this
    · have := says_of b (pre ++ a.fns) post
      rw [List.length_append, a.fns_len, List.append_assoc] at this
      show b.says (plA (pre ++ ((a.fns ++ b.fns) ++ post))) (pre.length + a.np)
      rw [List.append_assoc]; exact this
  | .opt a, pre, post => says_of a pre post
  | .plus a, pre, post => says_of a pre post
  | .star a, pre, post => says_of a pre post
def fnsOf : List RuleX → List (Nat → Bool)
  | [] => []
  | x :: l => x.2.2.fns ++ fnsOf l
theorem putRules_fns : ∀ (l : List RuleX) (st : PSt), (putRules st l).places = st.places ++ fnsOf l
  | [], st => (List.append_nil _).symm
  | x :: l, st => by
    rw [putRules, putRules_fns l]
    show (st.places ++ x.2.2.fns) ++ fnsOf l = _
    rw [List.append_assoc]; rfl
theorem bases_says : ∀ (l : List RuleX) (pre : List (Nat → Bool)) (y : Rx × Nat), y ∈ bases pre.length l → y.1.says (plA (pre ++ fnsOf l)) y.2
  | [], _, y, h => absurd h List.not_mem_nil
  | x :: l, pre, y, h => by
    rcases List.mem_cons.1 h with e | e
    · rw [e]; exact says_of x.2.2 pre (fnsOf l)
    · have := bases_says l (pre ++ x.2.2.fns) y (by rw [List.length_append, Rx.fns_len]; exact e)
      rw [List.append_assoc] at this
      exact this

/-- What Link comes to over the rules behind those that were read. -/
theorem link_rules (P0 : Nat → PartT) (N0 : Nat → Int) : ∀ (l : List RuleX) (st : PSt), st.places.length + sumNp l ≤ 10 → (∀ p, isSet ((linkL st.nodes 0 P0 N0).2 p)) →
    (∀ i, i < st.nodes.length → (linkL (putRules st l).nodes 0 P0 N0).1 i = (linkL st.nodes 0 P0 N0).1 i) ∧ st.nodes.length ≤ (putRules st l).nodes.length ∧
    (∀ p, isSet ((linkL (putRules st l).nodes 0 P0 N0).2 p)) ∧
    (∀ p q, inS ((linkL (putRules st l).nodes 0 P0 N0).2 p) q = true ↔ (inS ((linkL st.nodes 0 P0 N0).2 p) q = true ∨ ∃ y ∈ bases st.places.length l, y.1.fol y.2 p q)) ∧
    ∃ R : List ((Nat → Bool) × Int × Int), (putRules st l).rules = st.rules ++ R ∧ R.length = l.length ∧ ∀ (r : Nat) (x : RuleX) (y : Rx × Nat), l[r]? = some x → (bases st.places.length l)[r]? = some y →
      ∃ root : Nat, R[r]? = some (x.1, x.2.1, (root : Int)) ∧ PartOk ((linkL (putRules st l).nodes 0 P0 N0).1 root) y.1 y.2
  | [], st, _, hn => by
    refine ⟨fun _ _ => rfl, Nat.le_refl _, hn, fun p q => ⟨fun h => .inl h, fun h => h.elim id (fun ⟨y, hy, _⟩ => absurd hy List.not_mem_nil)⟩, [], (List.append_nil _).symm, rfl, fun r x y h => by simp at h⟩
  | x :: l, st, hp, hn => by
    have hp : st.places.length + (x.2.2.np + sumNp l) ≤ 10 := hp
    obtain ⟨ps1, n1, e1, k1, p1, o1⟩ := linkL_rx x.2.2 st.nodes.length st.places.length [] (linkL st.nodes 0 P0 N0).1 (linkL st.nodes 0 P0 N0).2 (by omega) hn
    have hsz := x.2.2.sz_pos
    have hlink : linkL (putRule st x st.at_).nodes 0 P0 N0 = (ps1, n1) := by
      show linkL (st.nodes ++ x.2.2.flat st.nodes.length st.places.length) 0 P0 N0 = _
      rw [linkL_app, Nat.zero_add]
      rw [List.append_nil] at e1
      rw [e1]; rfl
    have hlen : (putRule st x st.at_).nodes.length = st.nodes.length + x.2.2.sz := by
      show (st.nodes ++ x.2.2.flat st.nodes.length st.places.length).length = _
      rw [List.length_append, Rx.flat_len]
    have hpl : (putRule st x st.at_).places.length = st.places.length + x.2.2.np := by
      show (st.places ++ x.2.2.fns).length = _
      rw [List.length_append, Rx.fns_len]
    obtain ⟨a1, a2, a3, a4, R, b1, b2, b3⟩ := link_rules P0 N0 l (putRule st x st.at_) (by rw [hpl]; omega) (by rw [hlink]; exact o1.s)
    rw [hlink] at a1 a4
    rw [hpl] at a4 b3
    rw [hlen] at a1 a2
    refine ⟨fun i hi => ?_, by show st.nodes.length ≤ (putRules (putRule st x st.at_) l).nodes.length; omega, a3, fun p q => ?_, (x.1, x.2.1, ((st.nodes.length + x.2.2.sz - 1 : Nat) : Int)) :: R, ?_, by simp [b2], fun r z y hz hy => ?_⟩
    · show (linkL (putRules (putRule st x st.at_) l).nodes 0 P0 N0).1 i = _
      rw [a1 i (by omega)]; exact k1 i hi
    · show inS ((linkL (putRules (putRule st x st.at_) l).nodes 0 P0 N0).2 p) q = true ↔ _
      rw [a4, o1.f]
      constructor
      · rintro ((h | h) | ⟨y, hy, h⟩)
        · exact .inl h
        · exact .inr ⟨(x.2.2, st.places.length), List.mem_cons_self, h⟩
        · exact .inr ⟨y, List.mem_cons_of_mem _ hy, h⟩
      · rintro (h | ⟨y, hy, h⟩)
        · exact .inl (.inl h)
        · rcases List.mem_cons.1 hy with e | e
          · rw [e] at h; exact .inl (.inr h)
          · exact .inr ⟨y, e, h⟩
    · show (putRules (putRule st x st.at_) l).rules = _
      rw [b1]
      show (st.rules ++ [_]) ++ R = _
      rw [List.append_assoc]; rfl
    · cases r with
      | zero =>
        rw [List.getElem?_cons_zero] at hz
        rw [bases, List.getElem?_cons_zero] at hy
        injection hz with hz
        injection hy with hy
        rw [← hz, ← hy]
        refine ⟨st.nodes.length + x.2.2.sz - 1, rfl, ?_⟩
        show PartOk ((linkL (putRules (putRule st x st.at_) l).nodes 0 P0 N0).1 _) _ _
        rw [a1 _ (by omega)]
        exact p1
      | succ r' =>
        rw [List.getElem?_cons_succ] at hz
        rw [bases, List.getElem?_cons_succ] at hy
        obtain ⟨root, h1, h2⟩ := b3 r' z y hz hy
        exact ⟨root, by rw [List.getElem?_cons_succ]; exact h1, h2⟩

/-- The net of a file, by its rules. -/
structure NetOk (l : List RuleX) (next : Nat → Int) (fi la : List Int) : Prop where
  s : ∀ p, isSet (next p)
  f : ∀ p q, inS (next p) q = true ↔ ∃ y ∈ bases 0 l, y.1.fol y.2 p q
  fl : fi.length = l.length
  ll : la.length = l.length
  fs : ∀ x ∈ fi, isSet x
  ls : ∀ x ∈ la, isSet x
  ff : ∀ r y, (bases 0 l)[r]? = some y → ∀ p, inS (fi.getD r 0) p = true ↔ y.1.fst y.2 p
  lf : ∀ r y, (bases 0 l)[r]? = some y → ∀ p, inS (la.getD r 0) p = true ↔ y.1.lst y.2 p

theorem net_ok (l : List RuleX) (h : sumNp l ≤ 10) : NetOk l (netN (putRules st0 l).nodes) (netF (putRules st0 l).nodes (putRules st0 l).rules) (netL (putRules st0 l).nodes (putRules st0 l).rules) ∧
    (putRules st0 l).rules.map (fun x => (x.1, x.2.1)) = l.map (fun x => (x.1, x.2.1)) := by
  have e0 : st0.places.length = 0 := rfl
  have en : st0.nodes = [] := rfl
  obtain ⟨_, _, a3, a4, R, b1, b2, b3⟩ := link_rules (fun _ => part0) (fun _ => 0) l st0 (by omega) (fun p => isSet_zero)
  rw [e0] at a4 b3
  have hR : (putRules st0 l).rules = R := by rw [b1]; rfl
  have hroot : ∀ (r : Nat) (y : Rx × Nat), (bases 0 l)[r]? = some y → ∃ (x : RuleX) (root : Nat), l[r]? = some x ∧ R[r]? = some (x.1, x.2.1, ((root : Nat) : Int)) ∧ PartOk ((linkL (putRules st0 l).nodes 0 (fun _ => part0) (fun _ => 0)).1 root) y.1 y.2 := fun r y hy => by
    have hr : r < l.length := by rw [← bases_len l 0]; exact (List.getElem?_eq_some_iff.1 hy).1
    obtain ⟨root, h1, h2⟩ := b3 r l[r] y (List.getElem?_eq_getElem hr) hy
    exact ⟨l[r], root, List.getElem?_eq_getElem hr, h1, h2⟩
  have hall : ∀ x ∈ R, ∃ y : Rx × Nat, PartOk ((linkL (putRules st0 l).nodes 0 (fun _ => part0) (fun _ => 0)).1 x.2.2.toNat) y.1 y.2 := fun x hx => by
    obtain ⟨r, hr, he⟩ := List.getElem_of_mem hx
    have hr2 : r < (bases 0 l).length := by rw [bases_len, ← b2]; exact hr
    obtain ⟨z, root, _, h2, h3⟩ := hroot r _ (List.getElem?_eq_getElem hr2)
    rw [List.getElem?_eq_getElem hr, he] at h2
    injection h2 with h2
    exact ⟨_, by rw [h2]; exact h3⟩
  refine ⟨⟨a3, fun p q => ?_, ?_, ?_, fun x hx => ?_, fun x hx => ?_, fun r y hy p => ?_, fun r y hy p => ?_⟩, ?_⟩
  · show inS ((linkL (putRules st0 l).nodes 0 (fun _ => part0) (fun _ => 0)).2 p) q = true ↔ _
    rw [a4]
    constructor
    · rintro (hz | hz)
      · rw [show (linkL st0.nodes 0 (fun _ => part0) (fun _ => (0 : Int))).2 p = 0 from rfl, inS_zero] at hz; cases hz
      · exact hz
    · intro hz; exact .inr hz
  · unfold netF; rw [List.length_map, hR, b2]
  · unfold netL; rw [List.length_map, hR, b2]
  · unfold netF at hx
    rw [List.mem_map] at hx
    obtain ⟨z, hz, rfl⟩ := hx
    rw [hR] at hz
    obtain ⟨y, hy⟩ := hall z hz
    exact hy.s1
  · unfold netL at hx
    rw [List.mem_map] at hx
    obtain ⟨z, hz, rfl⟩ := hx
    rw [hR] at hz
    obtain ⟨y, hy⟩ := hall z hz
    exact hy.s2
  · obtain ⟨x, root, h1, h2, h3⟩ := hroot r y hy
    unfold netF
    rw [hR, List.getD_eq_getElem?_getD, List.getElem?_map, h2]
    simp only [Option.map_some, Option.getD_some, Int.toNat_natCast]
    exact h3.f p
  · obtain ⟨x, root, h1, h2, h3⟩ := hroot r y hy
    unfold netL
    rw [hR, List.getD_eq_getElem?_getD, List.getElem?_map, h2]
    simp only [Option.map_some, Option.getD_some, Int.toNat_natCast]
    exact h3.l p
  · rw [hR]
    refine List.ext_getElem? (fun r => ?_)
    rw [List.getElem?_map, List.getElem?_map]
    by_cases hr : r < l.length
    · obtain ⟨x, root, h1, h2, h3⟩ := hroot r _ (List.getElem?_eq_getElem (by rw [bases_len]; exact hr))
      rw [h1, h2]; rfl
    · rw [List.getElem?_eq_none (by omega), List.getElem?_eq_none (by omega)]
      rfl

theorem begC_val (f : Nat → Bool) (fr : Int) (c : Nat) (b : Int) : begC f fr c 4 b = if c < 4 ∧ f c = true then orI b fr else b := by
  have h : ∀ k, k ≤ 4 → begC f fr c k b = if c < k ∧ f c = true then orI b fr else b := by
    intro k
    induction k with
    | zero => intro _; rw [begC, if_neg (by omega)]
    | succ j ih =>
      intro hk
      rw [begC, ih (by omega)]
      by_cases e : j = c
      · subst e
        by_cases hf : f j = true
        · rw [if_pos ⟨hf, rfl⟩, if_neg (by omega), if_pos ⟨by omega, hf⟩]
        · rw [if_neg (fun h => hf h.1), if_neg (by omega), if_neg (fun h => hf h.2)]
      · rw [if_neg (fun h => e h.2)]
        by_cases hf : c < j ∧ f c = true
        · rw [if_pos hf, if_pos ⟨by omega, hf.2⟩]
        · rw [if_neg hf, if_neg (fun h => hf ⟨by omega, h.2⟩)]
  exact h 4 (Nat.le_refl _)
theorem beginL_in (fi : Nat → Int) (c : Nat) : ∀ (rules : List ((Nat → Bool) × Int × Int)) (r : Nat) (b : Int), isSet b → (∀ i, i < rules.length → isSet (fi (r + i))) →
    isSet (beginL fi c rules r b) ∧ ∀ q, inS (beginL fi c rules r b) q = true ↔ (inS b q = true ∨ ∃ i x, rules[i]? = some x ∧ (c < 4 ∧ x.1 c = true) ∧ inS (fi (r + i)) q = true)
  | [], r, b, hb, _ => ⟨hb, fun q => ⟨fun h => .inl h, fun h => h.elim id (fun ⟨i, x, h, _⟩ => by simp at h)⟩⟩
  | x :: l, r, b, hb, hf => by
    have h0 := hf 0 (by simp)
    rw [Nat.add_zero] at h0
    have hb' : isSet (begC x.1 (fi r) c 4 b) := by
      rw [begC_val]
      split
      · exact isSet_or hb h0
      · exact hb
    obtain ⟨h1, h2⟩ := beginL_in fi c l (r + 1) (begC x.1 (fi r) c 4 b) hb' (fun i hi => by have := hf (i + 1) (by simp; omega); rw [show r + 1 + i = r + (i + 1) by omega]; exact this)
    rw [beginL]
    refine ⟨h1, fun q => ?_⟩
    rw [h2, begC_val]
    constructor
    · rintro (h | ⟨i, y, h3, h4, h5⟩)
      · split at h
        · rename_i hc
          rw [inS_or hb h0, Bool.or_eq_true] at h
          rcases h with h | h
          · exact .inl h
          · exact .inr ⟨0, x, rfl, hc, h⟩
        · exact .inl h
      · exact .inr ⟨i + 1, y, by rw [List.getElem?_cons_succ]; exact h3, h4, by rw [show r + (i + 1) = r + 1 + i by omega]; exact h5⟩
    · rintro (h | ⟨i, y, h3, h4, h5⟩)
      · left
        split
        · rw [inS_or hb h0, h]; rfl
        · exact h
      · cases i with
        | zero =>
          rw [List.getElem?_cons_zero] at h3
          injection h3 with h3
          subst h3
          left
          rw [if_pos h4, inS_or hb h0]
          rw [Nat.add_zero] at h5
          rw [h5, Bool.or_true]
        | succ j =>
          rw [List.getElem?_cons_succ] at h3
          exact .inr ⟨j, y, h3, h4, by rw [show r + 1 + j = r + (j + 1) by omega]; exact h5⟩

theorem alwL_in (b : Nat) : ∀ (l : List (Nat → Bool)) (k : Nat) (a : Int), isSet a → k + l.length ≤ 10 → isSet (alwL b l k a) ∧ ∀ p, inS (alwL b l k a) p = true ↔ (inS a p = true ∨ (k ≤ p ∧ p < k + l.length ∧ l.getD (p - k) zeroF b = true))
  | [], k, a, ha, _ => ⟨ha, fun p => ⟨fun h => .inl h, fun h => h.elim id (fun h => by simp at h; omega)⟩⟩
  | f :: l, k, a, ha, hk => by
    simp only [List.length_cons] at hk
    have hs : isSet (if f b = true then orI a (pow2 k) else a) := by
      split
      · exact isSet_or ha (isSet_pow (by omega))
      · exact ha
    obtain ⟨h1, h2⟩ := alwL_in b l (k + 1) _ hs (by omega)
    rw [alwL]
    refine ⟨h1, fun p => ?_⟩
    rw [h2]
    simp only [List.length_cons]
    constructor
    · rintro (h | ⟨h3, h4, h5⟩)
      · split at h
        · rename_i hf
          rw [inS_or ha (isSet_pow (by omega)), Bool.or_eq_true, inS_pow, decide_eq_true_eq] at h
          rcases h with h | h
          · exact .inl h
          · subst h
            exact .inr ⟨Nat.le_refl _, by omega, by rw [Nat.sub_self]; exact hf⟩
        · exact .inl h
      · refine .inr ⟨by omega, by omega, ?_⟩
        rw [show p - k = (p - (k + 1)) + 1 by omega, List.getD_cons_succ]
        exact h5
    · rintro (h | ⟨h3, h4, h5⟩)
      · left
        split
        · rw [inS_or ha (isSet_pow (by omega)), h]; rfl
        · exact h
      · by_cases e : p = k
        · subst e
          rw [Nat.sub_self, List.getD_cons_zero] at h5
          left
          rw [if_pos h5, inS_or ha (isSet_pow (by omega)), inS_pow]
          simp
        · right
          refine ⟨by omega, by omega, ?_⟩
          rw [show p - k = (p - (k + 1)) + 1 by omega, List.getD_cons_succ] at h5
          exact h5
/-- The places that allow a byte. -/
theorem alwP_in {places : List (Nat → Bool)} (h : places.length ≤ 10) (b : Nat) : isSet (alwP places b) ∧ ∀ p, inS (alwP places b) p = true ↔ plA places p b = true := by
  obtain ⟨h1, h2⟩ := alwL_in b places 0 0 isSet_zero (by omega)
  refine ⟨h1, fun p => ?_⟩
  unfold alwP
  rw [h2, inS_zero]
  unfold plA
  constructor
  · rintro (h | ⟨_, _, h⟩)
    · cases h
    · rw [Nat.sub_zero] at h; exact h
  · intro hp
    refine .inr ⟨Nat.zero_le _, ?_, by rw [Nat.sub_zero]; exact hp⟩
    rw [Nat.zero_add]
    apply Classical.byContradiction
    intro hc
    rw [List.getD_eq_getElem?_getD, List.getElem?_eq_none (by omega)] at hp
    cases hp
end Go.Stn

