/- Texts put together: LePure, KpOrd, KpLive, KpTells. -/
import Derived.Test.YtgjgjgihceijnaaG35
import Derived.Test.YtgjgjgihceijnaaG25
/- Plain mathematics: what Least looks for, of an automaton that is canonical. -/
namespace Go.Stn
/-- Led to from a state and byte ahead of (s, b). -/
def seenB (ld : Nat → Nat → Nat) (s b q : Nat) : Prop := ∃ p' b', b' < 256 ∧ (p' < s ∨ (p' = s ∧ b' < b)) ∧ ld p' b' = q ∧ ld p' b' ≠ 255
theorem leadI_nat {x q : Nat} (h : leadI x = (q : Int)) : x = q ∧ x ≠ 255 := by
  unfold leadI at h
  split at h
  · omega
  · rename_i hn; exact ⟨by omega, hn⟩
theorem leadI_ne {x : Nat} (h : x ≠ 255) : leadI x = (x : Int) := by unfold leadI; rw [if_neg h]
theorem leadI_255 {x : Nat} : leadI x = -1 ↔ x = 255 := by
  unfold leadI
  split
  · rename_i h; exact ⟨fun _ => h, fun _ => rfl⟩
  · rename_i h; exact ⟨fun e => by omega, fun e => absurd e h⟩

/-- So many states are known ahead of (s, b). -/
structure OI (n : Nat) (ld : Nat → Nat → Nat) (s b K : Nat) : Prop where
  k1 : 1 ≤ K
  kn : K ≤ n
  sn : ∀ q, 0 < q → (q < K ↔ seenB ld s b q)
section
variable {n : Nat} {mk : Nat → Nat} {ld : Nat → Nat → Nat}
theorem OI.start (hn : 0 < n) : OI n ld 0 0 1 := ⟨Nat.le_refl _, hn, fun q hq => ⟨fun h => by omega, fun ⟨p', b', _, h, _⟩ => by omega⟩⟩
theorem OI.row (ho : Order n 256 (fun p b => leadI (ld p b))) {s K : Nat} (h : OI n ld s 0 K) (hs : s < n) : s < K := by
  by_cases e : s = 0
  · have := h.k1; omega
  · obtain ⟨p, b, h1, h2, h3⟩ := ho.d2 s (by omega) hs
    obtain ⟨h4, h5⟩ := leadI_nat h3
    exact (h.sn s (by omega)).2 ⟨p, b, h2, .inl h1, h4, h5⟩
theorem OI.le (ho : Order n 256 (fun p b => leadI (ld p b))) {s b K : Nat} (h : OI n ld s b K) (hs : s < n) (hb : b < 256) (hne : ld s b ≠ 255) : ld s b ≤ K := by
  apply Classical.byContradiction
  intro hc
  have hk := h.k1
  obtain ⟨p', b', h1, h2, h3⟩ := ho.d1 s b K hs hb (by omega) (by simp only [leadI_ne hne]; omega)
  obtain ⟨h4, h5⟩ := leadI_nat h3
  have hne2 : ¬ (p' = s ∧ b' = b) := by rintro ⟨rfl, rfl⟩; omega
  have := (h.sn K (by omega)).2 ⟨p', b', h1, by omega, h4, h5⟩
  omega
theorem OI.hit {s b K : Nat} (h : OI n ld s b K) (hb : b < 256) (hl : ld s b = K) (hne : ld s b ≠ 255) (hK : K < n) : OI n ld s (b + 1) (K + 1) := by
  refine ⟨by omega, by omega, fun q hq => ?_⟩
  constructor
  · intro hlt
    by_cases e : q = K
    · exact ⟨s, b, hb, .inr ⟨rfl, by omega⟩, by omega, hne⟩
    · obtain ⟨p', b', h1, h2, h3⟩ := (h.sn q hq).1 (by omega)
      exact ⟨p', b', h1, by omega, h3⟩
  · rintro ⟨p', b', h1, h2, h3, h4⟩
    by_cases e : p' = s ∧ b' = b
    · obtain ⟨rfl, rfl⟩ := e; omega
    · have := (h.sn q hq).2 ⟨p', b', h1, by omega, h3, h4⟩
      omega
theorem OI.miss {s b K : Nat} (h : OI n ld s b K) (hl : ld s b ≠ K) (hle : ld s b ≠ 255 → ld s b ≤ K) : OI n ld s (b + 1) K := by
  refine ⟨h.k1, h.kn, fun q hq => ?_⟩
  constructor
  · intro hlt
    obtain ⟨p', b', h1, h2, h3⟩ := (h.sn q hq).1 hlt
    exact ⟨p', b', h1, by omega, h3⟩
  · rintro ⟨p', b', h1, h2, h3, h4⟩
    by_cases e : p' = s ∧ b' = b
    · obtain ⟨rfl, rfl⟩ := e
      have := hle h4; omega
    · exact (h.sn q hq).2 ⟨p', b', h1, by omega, h3, h4⟩
theorem OI.next {s K : Nat} (h : OI n ld s 256 K) : OI n ld (s + 1) 0 K :=
  ⟨h.k1, h.kn, fun q hq => ⟨fun hlt => by obtain ⟨p', b', h1, h2, h3⟩ := (h.sn q hq).1 hlt; exact ⟨p', b', h1, by omega, h3⟩, fun ⟨p', b', h1, h2, h3⟩ => (h.sn q hq).2 ⟨p', b', h1, by omega, h3⟩⟩⟩
theorem OI.done (ho : Order n 256 (fun p b => leadI (ld p b))) {K : Nat} (h : OI n ld n 0 K) : K = n := by
  apply Classical.byContradiction
  intro hc
  have hk := h.kn
  have hk1 := h.k1
  obtain ⟨p, b, h1, h2, h3⟩ := ho.d2 K (by omega) (by omega)
  obtain ⟨h4, h5⟩ := leadI_nat h3
  have := (h.sn K (by omega)).2 ⟨p, b, h2, .inl (by omega), h4, h5⟩
  omega

/-- A token comes soon, if one comes. -/
theorem short_path {tr : Nat → Nat → Int} {L : Nat} (ha : Auto n L tr) : ∀ (k : Nat) (z : List Nat) (p : Nat), z.length ≤ k → p < n → lets L z → obsA mk tr p z ≠ 0 → ∃ z', lets L z' ∧ z'.length < n ∧ obsA mk tr p z' ≠ 0 := by
  intro k
  induction k with
  | zero => intro z p hk hp hz ho; exact ⟨z, hz, by have := ha.pos; omega, ho⟩
  | succ d ih =>
    intro z p hk hp hz ho
    by_cases hlt : z.length < n
    · exact ⟨z, hz, hlt, ho⟩
    · have hrun : ∀ i, i ≤ z.length → ∃ q, runA tr p (z.take i) = some q := fun i _ => by
        cases e : runA tr p (z.take i) with
        | some q => exact ⟨q, rfl⟩
        | none =>
          exfalso
          apply ho
          unfold obsA
          rw [← List.take_append_drop i z, runA_app, e]
      have hlt2 : ∀ i q, runA tr p (z.take i) = some q → q < n := fun i q hq => runA_lt ha _ p q hp (fun b hb => hz b (List.mem_of_mem_take hb)) hq
      have hpg : ∃ i j, i < j ∧ j ≤ n ∧ runA tr p (z.take i) = runA tr p (z.take j) := by
        apply Classical.byContradiction
        intro hc
        have := pigeon n (n + 1) (fun i => (runA tr p (z.take i)).getD 0) (fun i hi => by
          obtain ⟨q, hq⟩ := hrun i (by omega)
          simp only [hq, Option.getD_some]
          exact hlt2 i q hq) (fun i j hi hj he => by
          obtain ⟨q, hq⟩ := hrun i (by omega)
          obtain ⟨q', hq'⟩ := hrun j (by omega)
          simp only [hq, hq', Option.getD_some] at he
          rcases Nat.lt_trichotomy i j with e | e | e
          · exact absurd ⟨i, j, e, by omega, by rw [hq, hq', he]⟩ hc
          · exact e
          · exact absurd ⟨j, i, e, by omega, by rw [hq, hq', he]⟩ hc)
        omega
      obtain ⟨i, j, hij, hjn, he⟩ := hpg
      obtain ⟨q, hq⟩ := hrun i (by omega)
      rw [hq] at he
      have hz' : lets L (z.take i ++ z.drop j) := lets_app (fun b hb => hz b (List.mem_of_mem_take hb)) (fun b hb => hz b (List.mem_of_mem_drop hb))
      refine ih (z.take i ++ z.drop j) p ?_ hp hz' ?_
      · rw [List.length_append, List.length_take, List.length_drop]; omega
      · rw [obsA_app hq, ← obsA_app he.symm, List.take_append_drop]
        exact ho
/-- Each state is alive, if there are two. -/
theorem all_alive {tr : Nat → Nat → Int} {L : Nat} (h : Canon n L mk tr) (h2 : 1 < n) {p : Nat} (hp : p < n) : ∃ z, lets L z ∧ z.length < n ∧ obsA mk tr p z ≠ 0 := by
  have key : ∀ q, 0 < q → q < n → ∃ z, lets L z ∧ obsA mk tr q z ≠ 0 := fun q h0 hq => by
    obtain ⟨p', b, h1, h2, h3⟩ := h.od.d2 q h0 hq
    obtain ⟨z, hz, ho⟩ := h.li p' b (by omega) h2 (by rw [h3]; omega)
    rw [h3, Int.toNat_natCast] at ho
    exact ⟨z, hz, ho⟩
  have hz : ∃ z, lets L z ∧ obsA mk tr p z ≠ 0 := by
    by_cases e : p = 0
    · subst e
      obtain ⟨p', b, h1, h2', h3⟩ := h.od.d2 1 (by omega) h2
      have e1 : p' = 0 := by omega
      subst e1
      obtain ⟨z, hz, ho⟩ := key 1 (by omega) h2
      refine ⟨b :: z, lets_cons h2' hz, ?_⟩
      rw [obsA_cons (by rw [h3]; omega), h3]
      exact ho
    · exact key p (by omega) hp
  obtain ⟨z, hz1, hz2⟩ := hz
  exact short_path h.au z.length z p (Nat.le_refl _) hp hz1 hz2

/-- A token comes within fewer than k bytes behind s: then it is known that s is alive. -/
def AlK (mk : Nat → Nat) (ld : Nat → Nat → Nat) (al : Nat → Bool) (k s : Nat) : Prop := ∀ z, lets 256 z → z.length < k → obsA mk (fun p b => leadI (ld p b)) s z ≠ 0 → al s = true
theorem AlK.mono {al al' : Nat → Bool} {k s : Nat} (h : AlK mk ld al k s) (hm : al s = true → al' s = true) : AlK mk ld al' k s := fun z h1 h2 h3 => hm (h z h1 h2 h3)
/-- What a round finds. -/
theorem AlK.step {al al' : Nat → Bool} {k s : Nat} (hall : ∀ p, p < n → AlK mk ld al k p) (hr : ∀ b, b < 256 → ld s b < n ∨ ld s b = 255) (hmk : mk s ≠ 0 → al' s = true) (hto : ∀ b, b < 256 → ld s b ≠ 255 → al (ld s b) = true → al' s = true) : AlK mk ld al' (k + 1) s := fun z h1 h2 h3 => by
  cases z with
  | nil => exact hmk h3
  | cons b z' =>
    have hb := h1 b List.mem_cons_self
    by_cases e : ld s b = 255
    · exfalso
      apply h3
      exact obsA_none (leadI_255.2 e)
    · have hlt : ld s b < n := (hr b hb).resolve_right e
      rw [obsA_cons (by simp only [leadI_ne e]; omega)] at h3
      simp only [leadI_ne e, Int.toNat_natCast] at h3
      simp only [List.length_cons] at h2
      exact hto b hb e (hall _ hlt z' (fun c hc => h1 c (List.mem_cons_of_mem _ hc)) (by omega) h3)

/-- Does a class tell two states apart, by what is known? -/
def tellB (mk : Nat → Nat) (tc : Nat → Nat → Nat) (K : Nat) (d : Nat → Nat → Bool) (i j : Nat) : Bool :=
  decide (mk i ≠ mk j ∨ ∃ k, k < K ∧ ((¬ (tc i k = 255 ↔ tc j k = 255)) ∨ (tc i k ≠ 255 ∧ d (tc i k) (tc j k) = true)))
/-- Told apart in so many rounds: then it is known. -/
def DpK (mk : Nat → Nat) (tc : Nat → Nat → Nat) (K : Nat) (d : Nat → Nat → Bool) (k i j : Nat) : Prop := ¬ Eqv mk (fun p j => leadI (tc p j)) K k i j → d i j = true
theorem DpK.step {tc : Nat → Nat → Nat} {K : Nat} {d : Nat → Nat → Bool} {k i j : Nat} {v : Bool} (hr : ∀ p k, p < n → k < K → tc p k < n ∨ tc p k = 255) (hi : i < n) (hj : j < n) (hall : ∀ p q, p < n → q < n → DpK mk tc K d k p q)
    (hv : v = (d i j || tellB mk tc K d i j)) : ¬ Eqv mk (fun p j => leadI (tc p j)) K (k + 1) i j → v = true := fun h => by
  rw [hv, Bool.or_eq_true]
  by_cases h1 : Eqv mk (fun p j => leadI (tc p j)) K k i j
  · right
    unfold tellB
    rw [decide_eq_true_eq]
    by_cases h2 : mk i = mk j
    · right
      apply Classical.byContradiction
      intro hc
      refine h ⟨h1, h2, fun g hg => ?_⟩
      have hiff : tc i g = 255 ↔ tc j g = 255 := Classical.byContradiction fun hn => hc ⟨g, hg, .inl hn⟩
      refine ⟨by simp only [leadI_255]; exact hiff, fun hne => ?_⟩
      have e1 : tc i g ≠ 255 := fun e => hne (leadI_255.2 e)
      have e2 : tc j g ≠ 255 := fun e => e1 (hiff.2 e)
      simp only [leadI_ne e1, leadI_ne e2, Int.toNat_natCast]
      apply Classical.byContradiction
      intro hE
      exact hc ⟨g, hg, .inr ⟨e1, hall _ _ ((hr i g hi hg).resolve_right e1) ((hr j g hj hg).resolve_right e2) hE⟩⟩
    · exact .inl h2
  · exact .inl (hall i j hi hj h1)
end
end Go.Stn

/- stencilkeep.Table's ordered: a walk. -/
namespace Go.Proofs.Ytgjgjgihceijnaa
open Go.RowKit Go.Stn

/-- A table in memory: its two slices; the rows. -/
structure TabAt (w : World) (v1 v2 : Value) (n K g1 cap1 g2 cap2 : Nat) (gr cr : Nat → Nat) (mk : Nat → Nat) (tc : Nat → Nat → Nat) : Prop where
  e1 : v1 = .slice (some ⟨g1, 0, none⟩) n cap1
  e2 : v2 = .slice (some ⟨g2, 0, none⟩) n cap2
  m : ∀ i, i < n → w.cell? ⟨g1, i, none⟩ = some (.int .i64 (mk i : Int))
  r : ∀ i, i < n → w.cell? ⟨g2, i, none⟩ = some (.slice (some ⟨gr i, 0, none⟩) K (cr i))
  t : ∀ i k, i < n → k < K → w.cell? ⟨gr i, k, none⟩ = some (.int .i64 (tc i k : Int))
  b1 : g1 < w.heap.size
  b2 : g2 < w.heap.size
  b3 : ∀ i, i < n → gr i < w.heap.size
theorem TabAt.of {w : World} {P : Nat → Prop} {v1 v2 : Value} {n K : Nat} {mk : Nat → Nat} {tc : Nat → Nat → Nat} (h : TabIn w P v1 v2 n K mk tc) (hP : ∀ k, P k → k < w.heap.size) : ∃ g1 cap1 g2 cap2 gr cr, TabAt w v1 v2 n K g1 cap1 g2 cap2 gr cr mk tc := by
  obtain ⟨⟨g1, cap1, e1, p1, r1⟩, rs, hl, ⟨g2, cap2, e2, p2, r2⟩, hrows⟩ := h
  rw [natR_len] at e1
  rw [hl] at e2
  have hrow : ∀ i, i < n → ∃ x : Nat × Nat, rs[i]? = some (.slice (some ⟨x.1, 0, none⟩) K x.2) ∧ P x.1 ∧ w.rangeAt x.1 0 (natR K (tc i)) := fun i hi => by
    have hi2 : i < rs.length := by omega
    obtain ⟨g, cap, e, p, r⟩ := hrows i _ (List.getElem?_eq_getElem hi2)
    rw [natR_len] at e
    exact ⟨(g, cap), by rw [List.getElem?_eq_getElem hi2, e], p, r⟩
  have hch : ∃ f : Nat → Nat × Nat, ∀ i, i < n → rs[i]? = some (.slice (some ⟨(f i).1, 0, none⟩) K (f i).2) ∧ P (f i).1 ∧ w.rangeAt (f i).1 0 (natR K (tc i)) := ⟨fun i => if hi : i < n then Classical.choose (hrow i hi) else (0, 0), fun i hi => by simp only [dif_pos hi]; exact Classical.choose_spec (hrow i hi)⟩
  obtain ⟨f, hf⟩ := hch
  refine ⟨g1, cap1, g2, cap2, fun i => (f i).1, fun i => (f i).2, e1, e2, fun i hi => ?_, fun i hi => ?_, fun i k hi hk => ?_, hP _ p1, hP _ p2, fun i hi => hP _ (hf i hi).2.1⟩
  · have := r1 i _ (natR_get hi); rw [Nat.zero_add] at this; exact this
  · have := r2 i _ (hf i hi).1; rw [Nat.zero_add] at this; exact this
  · have := (hf i hi).2.2 k _ (natR_get hk); rw [Nat.zero_add] at this; exact this
theorem TabAt.below {w w' : World} {v1 v2 : Value} {n K g1 cap1 g2 cap2 : Nat} {gr cr : Nat → Nat} {mk : Nat → Nat} {tc : Nat → Nat → Nat} {B : Nat} (h : TabAt w v1 v2 n K g1 cap1 g2 cap2 gr cr mk tc) (hB : Below B w w') (hb : w.heap.size ≤ B) : TabAt w' v1 v2 n K g1 cap1 g2 cap2 gr cr mk tc := by
  have h1 := h.b1
  have h2 := h.b2
  have hz := hB.size
  exact ⟨h.e1, h.e2, fun i hi => (hB.cell (p := ⟨g1, i, none⟩) (by show g1 < B; omega)).trans (h.m i hi), fun i hi => (hB.cell (p := ⟨g2, i, none⟩) (by show g2 < B; omega)).trans (h.r i hi), fun i k hi hk => (hB.cell (p := ⟨gr i, k, none⟩) (by show gr i < B; have := h.b3 i hi; omega)).trans (h.t i k hi hk), by omega, by omega, fun i hi => by have := h.b3 i hi; omega⟩

set_option maxRecDepth 100000 in
set_option maxHeartbeats 2000000 in
theorem kordered_any (v1 v2 : Value) (n K g1 cap1 g2 cap2 : Nat) (gr cr : Nat → Nat) (mk : Nat → Nat) (tc : Nat → Nat → Nat) (cls : Nat → Nat) (og ocap : Nat) (w : World) (h : TabAt w v1 v2 n K g1 cap1 g2 cap2 gr cr mk tc) (hof : w.rangeAt og 0 (natR 256 cls)) (hog : og < w.heap.size)
    (hn : n ≤ 100) (hcl : ∀ b, b < 256 → cls b < K) (ho : Order n 256 (fun p b => leadI (tc p (cls b)))) (hr : ∀ p k, p < n → k < K → tc p k < n ∨ tc p k = 255) (hn0 : 0 < n) :
    Calls Try.prog 20 #[.agg #[v1, v2], .slice (some ⟨og, 0, none⟩) 256 ocap] w fun e w' => e = .returned (.bool true) ∧ Below w.heap.size w w' := by
  have HB0 : Hid (Below w.heap.size w (w.alloc (.cells #[v1, v2] 35))) := (Below.refl _ _).alloc (Nat.le_refl _) _
  have HT := hidZ (h.below HB0.out (Nat.le_refl _))
  have HOF : Hid ((w.alloc (.cells #[v1, v2] 35)).rangeAt og 0 (natR 256 cls)) := rangeAt_below hof HB0.out hog
  have c1 : (w.alloc (.cells #[v1, v2] 35)).cell? ⟨w.heap.size, 1, none⟩ = some v2 := (World.cell?_alloc_at _ _ w.heap.size 1 rfl).trans rfl
  have hv1 := h.e1
  have hv2 := h.e2
  subst hv1 hv2
  have HO := hidZ ho
  have HR := hidZ hr
  have HCL := hidZ hcl
  clear h hof hog ho hr hcl
  go_enter Try.func20, Try.ntmps20
  go_wp2
  generalize w.alloc (.cells #[.slice (some ⟨g1, 0, none⟩) n cap1, .slice (some ⟨g2, 0, none⟩) n cap2] 35) = W at *
  go_loopw [5, 6] (fun x y wr => ∃ (kn i q : Nat), i ≤ n ∧ y = .int .i64 (i : Int) ∧ x = .int .i64 (kn : Int) ∧ OI n (fun p b => tc p (cls b)) i 0 kn ∧ wr = W.drewN q) (fun _ y _ => n - (intOf y).toNat)
  case atStart => exact ⟨1, 0, 0, by omega, rfl, rfl, OI.start hn0, rfl⟩
  case round =>
    obtain ⟨kn, i, q, hi, rfl, rfl, hOI, rfl⟩ := hrel
    by_cases hlt : i < n
    · have hrow := OI.row HO.out hOI hlt
      have hknn := hOI.kn
      have HOI := hidZ hOI
      have r1 := HT.out.r i hlt
      have hd : decide ((kn : Int) ≤ (i : Int)) = false := by simp; omega
      clear hOI
      go_wp2
      go_loopw [5, 7] (fun x y wr => ∃ (kk b q2 : Nat), b ≤ 256 ∧ y = .int .i64 (b : Int) ∧ x = .int .i64 (kk : Int) ∧ OI n (fun p b => tc p (cls b)) i b kk ∧ wr = W.drewN q2) (fun _ y _ => 256 - (intOf y).toNat)
      case atStart => exact ⟨kn, 0, q, by omega, rfl, rfl, HOI.out, rfl⟩
      case round =>
        obtain ⟨kk, b, q2, hb, rfl, rfl, hOI, rfl⟩ := hrel
        by_cases hltb : b < 256
        · have hcb := HCL.out b hltb
          have r2 : W.cell? ⟨og, b, none⟩ = some (.int .i64 (cls b : Int)) := by have := HOF.out b _ (natR_get hltb); rw [Nat.zero_add] at this; exact this
          have r3 := HT.out.t i (cls b) hlt hcb
          have hrr := HR.out i (cls b) hlt hcb
          have hle := OI.le HO.out hOI hlt hltb
          have hkk := hOI.kn
          have HOI2 := hidZ hOI
          have hiI : (0 : Int) ≤ (i : Int) ∧ (i : Int) < (n : Int) := by omega
          have hcI : (0 : Int) ≤ (cls b : Int) ∧ (cls b : Int) < (K : Int) := by omega
          have hbI : (0 : Int) ≤ (b : Int) ∧ (b : Int) < 256 := by omega
          clear hOI
          obtain ⟨x, hx⟩ : ∃ x, tc i (cls b) = x := ⟨_, rfl⟩
          rw [hx] at r3 hrr hle
          have HX := hidZ hx
          clear hx
          generalize hcc : cls b = cb at *
          replace hcc := hidZ hcc
          by_cases e255 : x = 255
          · have d1 : ((x : Int) != 255) = false := by rw [e255]; rfl
            have d2 : ((x : Int) == (kk : Int)) = false := by rw [beq_eq_false_iff_ne]; omega
            clear hle hrr
            replace e255 := hidZ e255
            go_wp2
            go_quiet (fail)
            go_wp2
            go_roundw
            case rel => exact ⟨kk, b + 1, _, hltb, by go_num, rfl, OI.miss HOI2.out (by simp only [hcc.out, HX.out]; have := e255.out; omega) (fun hne => absurd (by simp only [hcc.out, HX.out]; exact e255.out) hne), rfl⟩
            case measure => simp [intOf]; omega
          · have hlex := hle e255
            have hxn : x < n := hrr.resolve_right e255
            have d1 : ((x : Int) != 255) = true := by rw [bne_iff_ne]; omega
            have d3 : decide ((kk : Int) < (x : Int)) = false := by simp; omega
            clear hle hrr
            replace e255 := hidZ e255
            by_cases ek : x = kk
            · have d2 : ((x : Int) == (kk : Int)) = true := by rw [ek]; simp
              have HN := hidZ (OI.hit HOI2.out hltb (by simp only [hcc.out, HX.out]; exact ek) (by simp only [hcc.out, HX.out]; exact e255.out) (by omega))
              clear ek
              go_wp2
              go_quiet (fail)
              go_wp2
              go_roundw
              case rel => exact ⟨kk + 1, b + 1, _, hltb, by go_num, by go_num, HN.out, rfl⟩
              case measure => simp [intOf]; omega
            · have d2 : ((x : Int) == (kk : Int)) = false := by rw [beq_eq_false_iff_ne]; omega
              have HN := hidZ (OI.miss HOI2.out (by simp only [hcc.out, HX.out]; exact ek) (fun _ => by simp only [hcc.out, HX.out]; exact hlex))
              clear ek
              go_wp2
              go_quiet (fail)
              go_wp2
              go_roundw
              case rel => exact ⟨kk, b + 1, _, hltb, by go_num, rfl, HN.out, rfl⟩
              case measure => simp [intOf]; omega
        · have e : b = 256 := by omega
          subst e
          have HN := hidZ (OI.next hOI)
          clear hOI
          go_wp2
          go_roundw
          case rel => exact ⟨kk, i + 1, q2, hlt, by go_num, rfl, HN.out, rfl⟩
          case measure => simp [intOf]; omega
    · have e : i = n := by omega
      subst e
      have hk := OI.done HO.out hOI
      clear hOI
      subst hk
      go_wp2
      go_ret
      exact ⟨by simp, HB0.out.os, HB0.out.tape, HB0.out.output, HB0.out.size, HB0.out.block⟩
end Go.Proofs.Ytgjgjgihceijnaa

/- stencilkeep.Table's lively: a walk. -/
namespace Go.Proofs.Ytgjgjgihceijnaa
open Go.RowKit Go.Stn

/-- Bools in memory, to be written. -/
structure BA (w : World) (ab n : Nat) (al : Nat → Bool) : Prop where
  c : ∀ i, i < n → w.cell? ⟨ab, i, none⟩ = some (.bool (al i))
  f : ∀ i, w.frozen? ⟨ab, i, none⟩ = false
theorem BA.set {w : World} {ab n : Nat} {al : Nat → Bool} (h : BA w ab n al) {s : Nat} (hs : s < n) (v : Bool) : BA (w.setCell ⟨ab, s, none⟩ (.bool v)) ab n (fun i => if i = s then v else al i) := by
  refine ⟨fun i hi => ?_, fun i => by rw [World.frozen?_setCell]; exact h.f i⟩
  by_cases e : i = s
  · subst e; rw [if_pos rfl]; exact World.cell?_setCell_same _ _ _ (h.c i hi)
  · rw [if_neg e, World.cell?_setCell_other (h := by intro e'; injection e'; omega)]; exact h.c i hi
theorem Try.infoBool1 : (Try.prog.info? 4).map (fun i => (i.zero, i.size, i.bytes)) = some (some (.bool false), 1, 1) := by kernel_rfl
theorem BA.new {w : World} {base ab n : Nat} {e : TypeId} (h : w.ownsRow base e 1 (.slice (some ⟨ab, 0, none⟩) n n) n (madeCells (Value.bool false).cells (n * 1)).toList) : BA w ab n (fun _ => false) := by
  refine ⟨fun i hi => ?_, fun i => row_frozen h i⟩
  have hg : (madeCells (Value.bool false).cells (n * 1)).toList[i]? = some (.bool false) := by
    rw [Nat.mul_one, Array.getElem?_toList]
    exact made_get n i hi
  have := h.cells rfl i _ hg
  rw [addr_add] at this; exact this
theorem BA.below {w w' : World} {ab n : Nat} {al : Nat → Bool} (h : BA w ab n al) {B : Nat} (hB : Below B w w') (hb : ab < B) : BA w' ab n al :=
  ⟨fun i hi => (hB.cell (p := ⟨ab, i, none⟩) hb).trans (h.c i hi), fun i => (hB.frozen (p := ⟨ab, i, none⟩) hb).trans (h.f i)⟩

/-- The walk of lively stands here. -/
structure LV (W wr : World) (n : Nat) (al : Nat → Bool) : Prop where
  bl : Below W.heap.size W wr
  ba : BA wr W.heap.size n al
theorem LV.set {W wr : World} {n : Nat} {al : Nat → Bool} (h : LV W wr n al) {s : Nat} (hs : s < n) (v : Bool) : LV W (wr.setCell ⟨W.heap.size, s, none⟩ (.bool v)) n (fun i => if i = s then v else al i) :=
  ⟨h.bl.setCell (p := ⟨W.heap.size, s, none⟩) (Nat.le_refl _) _, h.ba.set hs v⟩
theorem LV.draw {W wr : World} {n : Nat} {al : Nat → Bool} (h : LV W wr n al) (q : Nat) : LV W (wr.drewN q) n al :=
  ⟨⟨h.bl.os, h.bl.tape, h.bl.output, h.bl.size, h.bl.block⟩, ⟨h.ba.c, h.ba.f⟩⟩
theorem LV.congr {W wr : World} {n : Nat} {al al' : Nat → Bool} (h : LV W wr n al) (he : ∀ i, i < n → al i = al' i) : LV W wr n al' :=
  ⟨h.bl, ⟨fun i hi => by rw [← he i hi]; exact h.ba.c i hi, h.ba.f⟩⟩

set_option maxRecDepth 100000 in
set_option maxHeartbeats 2000000 in
theorem klively_any (v1 v2 : Value) (n K g1 cap1 g2 cap2 : Nat) (gr cr : Nat → Nat) (mk : Nat → Nat) (tc : Nat → Nat → Nat) (cls : Nat → Nat) (w : World) (h : TabAt w v1 v2 n K g1 cap1 g2 cap2 gr cr mk tc)
    (hn : n ≤ 100) (hK : K ≤ 256) (hcl : ∀ b, b < 256 → cls b < K) (hr : ∀ p k, p < n → k < K → tc p k < n ∨ tc p k = 255) (hm : ∀ p, p < n → mk p ≤ 8) (hm0 : mk 0 = 0) (hcan : Canon n 256 mk (fun p b => leadI (tc p (cls b)))) :
    Calls Try.prog 21 #[.agg #[v1, v2]] w fun e w' => e = .returned (.bool true) ∧ Below w.heap.size w w' := by
  obtain ⟨i0, hi0, hz0, hz1, hz2⟩ := info_parts Try.infoBool1
  have HI : Hid (Try.prog.info? 4 = some i0 ∧ i0.zero = some (.bool false) ∧ i0.size = 1 ∧ i0.bytes = 1) := ⟨hi0, hz0, hz1, hz2⟩
  clear hi0 hz0 hz1 hz2
  have hn0 := hcan.au.pos
  have HB0 : Hid (Below w.heap.size w (w.alloc (.cells #[v1, v2] 35))) := (Below.refl _ _).alloc (Nat.le_refl _) _
  have HT := hidZ (h.below HB0.out (Nat.le_refl _))
  have c0 : (w.alloc (.cells #[v1, v2] 35)).cell? ⟨w.heap.size, 0, none⟩ = some v1 := (World.cell?_alloc_at _ _ w.heap.size 0 rfl).trans rfl
  have c1 : (w.alloc (.cells #[v1, v2] 35)).cell? ⟨w.heap.size, 1, none⟩ = some v2 := (World.cell?_alloc_at _ _ w.heap.size 1 rfl).trans rfl
  have hsz : w.heap.size < (w.alloc (.cells #[v1, v2] 35)).heap.size := by simp
  have hv1 := h.e1
  have hv2 := h.e2
  subst hv1 hv2
  have HR := hidZ hr
  have HM := hidZ hm
  have HM0 := hidZ hm0
  have HCN := hidZ hcan
  have HCL := hidZ hcl
  clear h hr hm hm0 hcan hcl
  go_enter Try.func21, Try.ntmps21
  go_upto_region 1 with fail
  generalize w.alloc (.cells #[.slice (some ⟨g1, 0, none⟩) n cap1, .slice (some ⟨g2, 0, none⟩) n cap2] 35) = W at *
  have HC0 := hidZ c0
  have HC1 := hidZ c1
  go_upto_block 0 with (first | (at_make; refine wpList_make_full W rfl _ _ 94 rfl W.heap.size 4 i0 (.bool false) 1 Try.underlying94 HI.out.1 HI.out.2.1 HI.out.2.2.1 .i64 .i64 _ n n rfl rfl rfl rfl (by rw [HI.out.2.2.2]; omega) (by unfold maxLen; omega) (Nat.le_refl _) ?_; intro w1 hown hg; have HLV : Hid (LV W w1 n (fun _ => false)) := ⟨⟨hg.os, hg.tape, hg.output, hg.size, fun k hk => hg.block k hk (by simp)⟩, BA.new hown⟩; clear hown hg c0 c1))
  go_cut [5] from 14 to 73 (fun _ wc => ∃ al, LV W wc n al ∧ ∀ p, p < n → AlK mk (fun p b => tc p (cls b)) al (n + 1) p)
  case first =>
    go_wp2_with fail
    go_loopw [5] (fun x wr => ∃ (k : Nat) (al : Nat → Bool), k ≤ n + 1 ∧ x = .int .i64 (k : Int) ∧ LV W wr n al ∧ ∀ p, p < n → AlK mk (fun p b => tc p (cls b)) al k p) (fun x _ => n + 1 - (intOf x).toNat)
    case atStart => exact ⟨0, _, by omega, rfl, HLV.out, fun p _ z _ hz => absurd hz (by omega)⟩
    case round =>
      obtain ⟨k, al0, hk, rfl, hlv, hak⟩ := hrel
      replace hlv := hidZ hlv
      replace hak := hidZ hak
      clear HLV
      by_cases hlt : k < n + 1
      · have dk : decide ((k : Int) ≤ (n : Int)) = true := by simp; omega
        go_wp2
        go_loopw [6] (fun x wr => ∃ (s : Nat) (al : Nat → Bool), s ≤ n ∧ x = .int .i64 (s : Int) ∧ LV W wr n al ∧ (∀ p, p < n → AlK mk (fun p b => tc p (cls b)) al k p) ∧ (∀ p, p < s → AlK mk (fun p b => tc p (cls b)) al (k + 1) p)) (fun x _ => n - (intOf x).toNat)
        case atStart => exact ⟨0, al0, by omega, rfl, hlv.out, hak.out, fun p hp => absurd hp (by omega)⟩
        case round =>
          obtain ⟨s, al, hs, rfl, hl2, ha1, ha2⟩ := hrel
          replace hl2 := hidZ hl2
          replace ha1 := hidZ ha1
          replace ha2 := hidZ ha2
          clear hlv hak
          by_cases hls : s < n
          · have hsI : (0 : Int) ≤ (s : Int) ∧ (s : Int) < (n : Int) := by omega
            have x0 := hl2.out.ba.c s hls
            have x0f := hl2.out.ba.f s
            have m0 := (HT.out.below hl2.out.bl (Nat.le_refl _)).m s hls
            have r0 := (HT.out.below hl2.out.bl (Nat.le_refl _)).r s hls
            have c0' := (hl2.out.bl.cell (p := ⟨w.heap.size, 0, none⟩) hsz).trans HC0.out
            have c1' := (hl2.out.bl.cell (p := ⟨w.heap.size, 1, none⟩) hsz).trans HC1.out
            obtain ⟨a0, ea0⟩ : ∃ a, al s = a := ⟨_, rfl⟩
            rw [ea0] at x0
            replace ea0 := hidZ ea0
            obtain ⟨m, em⟩ : ∃ m, mk s = m := ⟨_, rfl⟩
            rw [em] at m0
            replace em := hidZ em
            go_upto_region 9 with fail
            go_cut [6] from 24 to 38 (fun x wc => x = .int .i64 (s : Int) ∧ ∃ al1, LV W wc n al1 ∧ (∀ i, i ≠ s → al1 i = al i) ∧ (al s = true → al1 s = true) ∧ (mk s ≠ 0 → al1 s = true))
            case first =>
              cases a0 with
              | true =>
                go_wp2
                go_meet
                case rel => exact ⟨rfl, _, hl2.out.set hls true, fun i hi => if_neg hi, fun _ => if_pos rfl, fun _ => if_pos rfl⟩
              | false =>
                by_cases hm : 0 < m
                · have dm : decide (0 < (m : Int)) = true := by simp; omega
                  go_wp2
                  go_meet
                  case rel => exact ⟨rfl, _, hl2.out.set hls true, fun i hi => if_neg hi, fun _ => if_pos rfl, fun _ => if_pos rfl⟩
                · have dm : decide (0 < (m : Int)) = false := by simp; omega
                  go_wp2
                  go_meet
                  case rel => exact ⟨rfl, _, hl2.out.set hls false, fun i hi => if_neg hi, fun h => (by rw [ea0.out] at h; cases h), fun h => (by rw [em.out] at h; omega)⟩
            case rest =>
              obtain ⟨rfl, al1, hl3, hk1, hk2, hk3⟩ := hcut
              replace hl3 := hidZ hl3
              replace hk1 := hidZ hk1
              replace hk2 := hidZ hk2
              replace hk3 := hidZ hk3
              clear x0 x0f m0 r0 c0' c1' ea0 em
              go_wp2
              go_loopw [7] (fun x wr => ∃ (j : Nat) (al2 : Nat → Bool), j ≤ K ∧ x = .int .i64 (j : Int) ∧ LV W wr n al2 ∧ (∀ i, i ≠ s → al2 i = al i) ∧ (al s = true → al2 s = true) ∧ (mk s ≠ 0 → al2 s = true) ∧ (∀ j', j' < j → tc s j' ≠ 255 → al (tc s j') = true → al2 s = true)) (fun x _ => K - (intOf x).toNat)
              case atStart => exact ⟨0, al1, by omega, rfl, hl3.out, hk1.out, hk2.out, hk3.out, fun j' hj' => absurd hj' (by omega)⟩
              case round =>
                obtain ⟨j, al2, hj, rfl, hl4, hg1, hg2, hg3, hg4⟩ := hrel
                replace hl4 := hidZ hl4
                replace hg1 := hidZ hg1
                replace hg2 := hidZ hg2
                replace hg3 := hidZ hg3
                replace hg4 := hidZ hg4
                clear hl3 hk1 hk2 hk3 hl2
                have r0 := (HT.out.below hl4.out.bl (Nat.le_refl _)).r s hls
                have c1' := (hl4.out.bl.cell (p := ⟨w.heap.size, 1, none⟩) hsz).trans HC1.out
                by_cases hlj : j < K
                · have hjI : (0 : Int) ≤ (j : Int) ∧ (j : Int) < (K : Int) := by omega
                  have t0 := (HT.out.below hl4.out.bl (Nat.le_refl _)).t s j hls hlj
                  have q0 := HR.out s j hls hlj
                  obtain ⟨a, ea⟩ : ∃ a, tc s j = a := ⟨_, rfl⟩
                  rw [ea] at t0 q0
                  replace ea := hidZ ea
                  by_cases e255 : a = 255
                  · have d1 : ((a : Int) != 255) = false := by rw [e255]; rfl
                    have HN : Hid (∀ j', j' < j + 1 → tc s j' ≠ 255 → al (tc s j') = true → al2 s = true) := fun j' hj' h1 h2 => by
                      by_cases e : j' = j
                      · subst e; exact absurd (ea.out.trans e255) h1
                      · exact hg4.out j' (by omega) h1 h2
                    clear q0 e255
                    go_wp2
                    go_roundw
                    case rel => exact ⟨j + 1, al2, hlj, by go_num, hl4.out, hg1.out, hg2.out, hg3.out, HN.out⟩
                    case measure => simp [intOf]; omega
                  · have d1 : ((a : Int) != 255) = true := by rw [bne_iff_ne]; omega
                    have han : a < n := q0.resolve_right e255
                    have haI : (0 : Int) ≤ (a : Int) ∧ (a : Int) < (n : Int) := by omega
                    have y0 := hl4.out.ba.c a han
                    have yf := hl4.out.ba.f s
                    have ys := hl4.out.ba.c s hls
                    clear q0 e255
                    cases hv : al2 a with
                    | true =>
                      rw [hv] at y0
                      replace hv := hidZ hv
                      go_wp2
                      go_roundw
                      case rel => exact ⟨j + 1, _, hlj, by go_num, hl4.out.set hls true, fun i hi => (if_neg hi).trans (hg1.out i hi), fun _ => if_pos rfl, fun _ => if_pos rfl, fun _ _ _ _ => if_pos rfl⟩
                      case measure => simp [intOf]; omega
                    | false =>
                      rw [hv] at y0
                      have HN : Hid (∀ j', j' < j + 1 → tc s j' ≠ 255 → al (tc s j') = true → al2 s = true) := fun j' hj' h1 h2 => by
                        by_cases e : j' = j
                        · subst e
                          rw [ea.out] at h2
                          by_cases e2 : a = s
                          · subst e2; exact hg2.out h2
                          · rw [hg1.out a e2, h2] at hv; cases hv
                        · exact hg4.out j' (by omega) h1 h2
                      replace hv := hidZ hv
                      go_wp2
                      go_roundw
                      case rel => exact ⟨j + 1, al2, hlj, by go_num, hl4.out, hg1.out, hg2.out, hg3.out, HN.out⟩
                      case measure => simp [intOf]; omega
                · have e : j = K := by omega
                  subst e
                  have HF1 : Hid (∀ p, p < n → AlK mk (fun p b => tc p (cls b)) al2 k p) := fun p hp => (ha1.out p hp).mono (fun h => by
                    by_cases e : p = s
                    · subst e; exact hg2.out h
                    · rw [hg1.out p e]; exact h)
                  have HF2 : Hid (∀ p, p < s + 1 → AlK mk (fun p b => tc p (cls b)) al2 (k + 1) p) := fun p hp => by
                    by_cases e : p = s
                    · subst e
                      exact AlK.step ha1.out (fun b hb => HR.out p (cls b) hls (HCL.out b hb)) hg3.out (fun b hb h1 h2 => hg4.out (cls b) (HCL.out b hb) h1 h2)
                    · exact (ha2.out p (by omega)).mono (fun h => by rw [hg1.out p e]; exact h)
                  go_wp2
                  go_roundw
                  case rel => exact ⟨s + 1, al2, hls, by go_num, hl4.out, HF1.out, HF2.out⟩
                  case measure => simp [intOf]; omega
          · have e : s = n := by omega
            subst e
            go_wp2
            go_roundw
            case rel => exact ⟨k + 1, al, by omega, by go_num, hl2.out, ha2.out⟩
            case measure => simp [intOf]; omega
      · have e : k = n + 1 := by omega
        have dk : decide ((k : Int) ≤ (n : Int)) = false := by simp; omega
        replace hak : Hid (∀ p, p < n → AlK mk (fun p b => tc p (cls b)) al0 (n + 1) p) := by rw [← e]; exact hak
        clear e
        go_wp2
        go_meet
        case rel => exact ⟨al0, hlv.out, hak.out⟩
  case rest =>
    obtain ⟨al, hl, ha⟩ := hcut
    replace hl := hidZ hl
    have HA : Hid (1 < n → ∀ p, p < n → al p = true) := fun h2 p hp => by
      obtain ⟨z, h3, h4, h5⟩ := all_alive HCN.out h2 hp
      exact ha p hp z h3 (by omega) h5
    clear ha HLV
    have c0' := (hl.out.bl.cell (p := ⟨w.heap.size, 0, none⟩) hsz).trans HC0.out
    have m0 := (HT.out.below hl.out.bl (Nat.le_refl _)).m 0 hn0
    rw [HM0.out] at m0
    go_wp2
    go_loopw [8] (fun x wr => ∃ j q : Nat, j ≤ n ∧ x = .int .i64 (j : Int) ∧ wr = wc.drewN q) (fun x _ => n - (intOf x).toNat)
    case atStart => exact ⟨0, 0, by omega, rfl, rfl⟩
    case round =>
      obtain ⟨j, q, hj, rfl, rfl⟩ := hrel
      by_cases hlj : j < n
      · have hjI : (0 : Int) ≤ (j : Int) ∧ (j : Int) < (n : Int) := by omega
        have y0 := hl.out.ba.c j hlj
        by_cases h1 : 1 < n
        · have hv := HA.out h1 j hlj
          rw [hv] at y0
          clear hv
          go_wp2
          go_roundw
          case rel => exact ⟨j + 1, _, hlj, by go_num, rfl⟩
          case measure => simp [intOf]; omega
        · have d1 : decide (1 < (n : Int)) = false := by simp; omega
          cases hv : al j with
          | true =>
            rw [hv] at y0
            clear hv
            go_wp2
            go_roundw
            case rel => exact ⟨j + 1, _, hlj, by go_num, rfl⟩
            case measure => simp [intOf]; omega
          | false =>
            rw [hv] at y0
            clear hv
            go_wp2
            go_roundw
            case rel => exact ⟨j + 1, _, hlj, by go_num, rfl⟩
            case measure => simp [intOf]; omega
      · have e : j = n := by omega
        subst e
        have HB2 := hidZ (HB0.out.trans (hl.out.bl.mono (Nat.le_of_lt hsz)))
        go_wp2
        go_ret
        exact ⟨by simp, HB2.out.os, HB2.out.tape, HB2.out.output, HB2.out.size, HB2.out.block⟩
end Go.Proofs.Ytgjgjgihceijnaa

/- stencilkeep.Table's tells: a walk. -/
namespace Go.Proofs.Ytgjgjgihceijnaa
open Go.RowKit Go.Stn

/-- What is known to be apart, in memory. -/
structure DAt (w : World) (dg n : Nat) (db : Nat → Nat) (d : Nat → Nat → Bool) : Prop where
  r : ∀ i, i < n → w.cell? ⟨dg, i, none⟩ = some (.slice (some ⟨db i, 0, none⟩) n n)
  c : ∀ i j, i < n → j < n → w.cell? ⟨db i, j, none⟩ = some (.bool (d i j))
  b0 : dg < w.heap.size
  b1 : ∀ i, i < n → db i < w.heap.size
theorem DAt.below {w w' : World} {dg n : Nat} {db : Nat → Nat} {d : Nat → Nat → Bool} {B : Nat} (h : DAt w dg n db d) (hB : Below B w w') (hb : w.heap.size ≤ B) : DAt w' dg n db d := by
  have h0 := h.b0
  have hz := hB.size
  exact ⟨fun i hi => (hB.cell (p := ⟨dg, i, none⟩) (by show dg < B; omega)).trans (h.r i hi), fun i j hi hj => (hB.cell (p := ⟨db i, j, none⟩) (by show db i < B; have := h.b1 i hi; omega)).trans (h.c i j hi hj), by omega, fun i hi => by have := h.b1 i hi; omega⟩

set_option maxRecDepth 100000 in
set_option maxHeartbeats 2000000 in
theorem ktells_any (v1 v2 : Value) (n K g1 cap1 g2 cap2 : Nat) (gr cr : Nat → Nat) (mk : Nat → Nat) (tc : Nat → Nat → Nat) (dg dcap : Nat) (db : Nat → Nat) (d : Nat → Nat → Bool) (i j : Nat) (w : World) (h : TabAt w v1 v2 n K g1 cap1 g2 cap2 gr cr mk tc) (hd : DAt w dg n db d)
    (hi : i < n) (hj : j < n) (hK : K ≤ 256) (hn : n ≤ 100) (hr : ∀ p k, p < n → k < K → tc p k < n ∨ tc p k = 255) (hm : ∀ p, p < n → mk p ≤ 8) :
    Calls Try.prog 45 #[.agg #[v1, v2], .slice (some ⟨dg, 0, none⟩) n dcap, .int .i64 i, .int .i64 j] w fun e w' => e = .returned (.bool (tellB mk tc K d i j)) ∧ Below w.heap.size w w' := by
  have HB0 : Hid (Below w.heap.size w (w.alloc (.cells #[v1, v2] 35))) := (Below.refl _ _).alloc (Nat.le_refl _) _
  have HT := hidZ (h.below HB0.out (Nat.le_refl _))
  have HD := hidZ (hd.below HB0.out (Nat.le_refl _))
  have c0 : (w.alloc (.cells #[v1, v2] 35)).cell? ⟨w.heap.size, 0, none⟩ = some v1 := (World.cell?_alloc_at _ _ w.heap.size 0 rfl).trans rfl
  have c1 : (w.alloc (.cells #[v1, v2] 35)).cell? ⟨w.heap.size, 1, none⟩ = some v2 := (World.cell?_alloc_at _ _ w.heap.size 1 rfl).trans rfl
  have hv1 := h.e1
  have hv2 := h.e2
  subst hv1 hv2
  have HR := hidZ hr
  have m1 := HT.out.m i hi
  have m2 := HT.out.m j hj
  have r1 := HT.out.r i hi
  have r2 := HT.out.r j hj
  have hmi := hm i hi
  have hmj := hm j hj
  clear h hd hr hm
  have hiI : (0 : Int) ≤ (i : Int) ∧ (i : Int) < (n : Int) := by omega
  have hjI : (0 : Int) ≤ (j : Int) ∧ (j : Int) < (n : Int) := by omega
  have HTB : Hid (tellB mk tc K d i j = decide (mk i ≠ mk j ∨ ∃ k, k < K ∧ ((¬ (tc i k = 255 ↔ tc j k = 255)) ∨ (tc i k ≠ 255 ∧ d (tc i k) (tc j k) = true)))) := rfl
  by_cases hmm : mk i = mk j
  · have hdm : ((mk i : Int) != (mk j : Int)) = false := by rw [hmm]; simp
    have HMM := hidZ hmm
    clear hmm
    go_enter Try.func45, Try.ntmps45
    go_wp2_with fail
    generalize w.alloc (.cells #[.slice (some ⟨g1, 0, none⟩) n cap1, .slice (some ⟨g2, 0, none⟩) n cap2] 35) = W at *
    go_quiet (fail)
    go_wp2
    go_loopw [9] (fun x wr => ∃ k q : Nat, k ≤ K ∧ x = .int .i64 (k : Int) ∧ (∀ k', k' < k → ¬ ((¬ (tc i k' = 255 ↔ tc j k' = 255)) ∨ (tc i k' ≠ 255 ∧ d (tc i k') (tc j k') = true))) ∧ wr = W.drewN q) (fun x _ => K - (intOf x).toNat)
    case atStart => exact ⟨0, nq, by omega, rfl, fun k' hk' => by omega, rfl⟩
    case round =>
      obtain ⟨k, q, hk, rfl, hall, rfl⟩ := hrel
      have HA := hidZ hall
      clear hall
      by_cases hlt : k < K
      · have t1 := HT.out.t i k hi hlt
        have t2 := HT.out.t j k hj hlt
        have q1 := HR.out i k hi hlt
        have q2 := HR.out j k hj hlt
        have hkI : (0 : Int) ≤ (k : Int) ∧ (k : Int) < (K : Int) := by omega
        obtain ⟨a, ha⟩ : ∃ a, tc i k = a := ⟨_, rfl⟩
        obtain ⟨b, hb⟩ : ∃ b, tc j k = b := ⟨_, rfl⟩
        rw [ha] at t1 q1
        rw [hb] at t2 q2
        have HAA := hidZ ha
        have HBB := hidZ hb
        clear ha hb
        have hyes : ((¬ (a = 255 ↔ b = 255)) ∨ (a ≠ 255 ∧ d a b = true)) → Hid (tellB mk tc K d i j = true) := fun hh => by
          unfold Hid
          rw [HTB.out, decide_eq_true_eq]
          exact .inr ⟨k, hlt, by rw [HAA.out, HBB.out]; exact hh⟩
        have hno : ¬ ((¬ (a = 255 ↔ b = 255)) ∨ (a ≠ 255 ∧ d a b = true)) → Hid (∀ k', k' < k + 1 → ¬ ((¬ (tc i k' = 255 ↔ tc j k' = 255)) ∨ (tc i k' ≠ 255 ∧ d (tc i k') (tc j k') = true))) := fun hh => fun k' hk' => by
          by_cases e : k' = k
          · rw [e, HAA.out, HBB.out]; exact hh
          · exact HA.out k' (by omega)
        by_cases ea : a = 255 <;> by_cases eb : b = 255
        · have HN := hno (by rw [ea, eb]; simp)
          have d1 : ((a : Int) == 255) = true := by rw [ea]; rfl
          have d2 : ((b : Int) == 255) = true := by rw [eb]; rfl
          have d3 : ((a : Int) != 255) = false := by rw [ea]; rfl
          clear hyes hno ea eb q1 q2
          go_wp2
          go_roundw
          case rel => exact ⟨k + 1, _, hlt, by go_num, HN.out, rfl⟩
          case measure => simp [intOf]; omega
        · have HY := hyes (.inl (by rw [ea]; simp [eb]))
          have d1 : ((a : Int) == 255) = true := by rw [ea]; rfl
          have d2 : ((b : Int) == 255) = false := by rw [beq_eq_false_iff_ne]; omega
          clear hyes hno ea eb q1 q2
          go_wp2
          go_ret
          rw [HY.out]
          exact ⟨rfl, HB0.out.os, HB0.out.tape, HB0.out.output, HB0.out.size, HB0.out.block⟩
        · have HY := hyes (.inl (by rw [eb]; simp [ea]))
          have d1 : ((a : Int) == 255) = false := by rw [beq_eq_false_iff_ne]; omega
          have d2 : ((b : Int) == 255) = true := by rw [eb]; rfl
          clear hyes hno ea eb q1 q2
          go_wp2
          go_ret
          rw [HY.out]
          exact ⟨rfl, HB0.out.os, HB0.out.tape, HB0.out.output, HB0.out.size, HB0.out.block⟩
        · have hal : a < n := q1.resolve_right ea
          have hbl : b < n := q2.resolve_right eb
          have d1 : ((a : Int) == 255) = false := by rw [beq_eq_false_iff_ne]; omega
          have d2 : ((b : Int) == 255) = false := by rw [beq_eq_false_iff_ne]; omega
          have d3 : ((a : Int) != 255) = true := by rw [bne_iff_ne]; omega
          have x1 := HD.out.r a hal
          have x2 := HD.out.c a b hal hbl
          cases hdv : d a b with
          | true =>
            have HY := hyes (.inr ⟨ea, hdv⟩)
            rw [hdv] at x2
            clear hyes hno ea eb q1 q2 hdv
            go_wp2
            go_ret
            rw [HY.out]
            exact ⟨rfl, HB0.out.os, HB0.out.tape, HB0.out.output, HB0.out.size, HB0.out.block⟩
          | false =>
            have HN := hno (by rw [hdv]; simp [ea, eb])
            rw [hdv] at x2
            clear hyes hno ea eb q1 q2 hdv
            go_wp2
            go_roundw
            case rel => exact ⟨k + 1, _, hlt, by go_num, HN.out, rfl⟩
            case measure => simp [intOf]; omega
      · have e : k = K := by omega
        subst e
        have HF : Hid (tellB mk tc k d i j = false) := by
          unfold Hid
          rw [HTB.out, decide_eq_false_iff_not]
          rintro (hh | ⟨k', hk', hh⟩)
          · exact hh HMM.out
          · exact HA.out k' hk' hh
        go_wp2
        go_ret
        rw [HF.out]
        exact ⟨rfl, HB0.out.os, HB0.out.tape, HB0.out.output, HB0.out.size, HB0.out.block⟩
  · have hdm : ((mk i : Int) != (mk j : Int)) = true := by rw [bne_iff_ne]; omega
    have HY : Hid (tellB mk tc K d i j = true) := by
      unfold Hid; rw [HTB.out, decide_eq_true_eq]; exact .inl hmm
    clear hmm
    go_enter Try.func45, Try.ntmps45
    go_wp2_with fail
    generalize w.alloc (.cells #[.slice (some ⟨g1, 0, none⟩) n cap1, .slice (some ⟨g2, 0, none⟩) n cap2] 35) = W at *
    go_quiet (fail)
    go_wp2
    go_ret
    rw [HY.out]
    exact ⟨rfl, HB0.out.os, HB0.out.tape, HB0.out.output, HB0.out.size, HB0.out.block⟩
end Go.Proofs.Ytgjgjgihceijnaa

