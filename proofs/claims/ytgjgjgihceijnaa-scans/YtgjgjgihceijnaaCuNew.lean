/- A new cutter of package cut: its cells, its tables. -/
import Derived.Test.YtgjgjgihceijnaaCuPass
import Derived.Laws.Tables
import Derived.Great.BuildSlice
import Derived.Great.Ranges
namespace Go.Stn
open Go.RowKit
/-- What a fill of a part leaves. -/
theorem fold_get (off : Nat) : ∀ (l : List Value) (n : Nat) (Z : Array Value), ((l.zipIdx n).foldl (fun cs x => cs.setIfInBounds (off + x.2) x.1) Z).size = Z.size ∧
    ∀ k, ((l.zipIdx n).foldl (fun cs x => cs.setIfInBounds (off + x.2) x.1) Z)[k]? = if off + n ≤ k ∧ k < off + n + l.length ∧ k < Z.size then l[k - (off + n)]? else Z[k]? := by
  intro l
  induction l with
  | nil => intro n Z; refine ⟨rfl, fun k => ?_⟩; rw [if_neg (by simp; omega)]; rfl
  | cons v r ih =>
    intro n Z
    rw [List.zipIdx_cons, List.foldl_cons]
    obtain ⟨h1, h2⟩ := ih (n + 1) (Z.setIfInBounds (off + n) v)
    refine ⟨by rw [h1]; simp, fun k => ?_⟩
    rw [h2 k]
    simp only [Array.size_setIfInBounds, List.length_cons]
    by_cases e : k = off + n
    · subst e
      rw [if_neg (by omega)]
      by_cases hz : off + n < Z.size
      · rw [if_pos (by omega), Array.getElem?_setIfInBounds_self_of_lt hz]; simp
      · rw [if_neg (by omega), Array.getElem?_eq_none (by simp; omega), Array.getElem?_eq_none (by omega)]
    · by_cases hc : off + (n + 1) ≤ k ∧ k < off + (n + 1) + r.length ∧ k < Z.size
      · rw [if_pos hc, if_pos (by omega), show k - (off + n) = (k - (off + (n + 1))) + 1 by omega, List.getElem?_cons_succ]
      · rw [if_neg hc, if_neg (by omega), Array.getElem?_setIfInBounds_ne (by omega)]
theorem all_get {A : Array Value} {q : Value → Bool} (h : A.all q = true) {i : Nat} {v : Value} (hv : A[i]? = some v) : q v = true := by
  rw [Array.all_eq_true] at h
  obtain ⟨hi, rfl⟩ := Array.getElem?_eq_some_iff.1 hv
  exact h i hi
theorem fill_get (off : Nat) (A Z : Array Value) : (A.zipIdx.foldl (fun cs x => cs.setIfInBounds (off + x.2) x.1) Z).size = Z.size ∧
    ∀ k, (A.zipIdx.foldl (fun cs x => cs.setIfInBounds (off + x.2) x.1) Z)[k]? = if off ≤ k ∧ k < off + A.size ∧ k < Z.size then A[k - off]? else Z[k]? := by
  have h := fold_get off A.toList 0 Z
  have e : A.zipIdx.foldl (fun cs x => cs.setIfInBounds (off + x.2) x.1) Z = (A.toList.zipIdx 0).foldl (fun cs x => cs.setIfInBounds (off + x.2) x.1) Z := by
    rw [← Array.foldl_toList, Array.toList_zipIdx]
  rw [e]
  refine ⟨h.1, fun k => ?_⟩
  rw [h.2 k]
  simp
end Go.Stn
namespace Go.Proofs.Ytgjgjgihceijnaa
open Go.RowKit Go.Stn

theorem Try.cutZero : ((Try.prog.info? 156).map (·.zero)) = some (some (.agg Try.zeroCells156)) := by kernel_rfl
theorem Try.cutZeroTail : (List.range 6).map (fun k => Try.zeroCells156[258 + k]?) = [some (.string ByteArray.empty), some (.int .i64 0), some (.int .i64 0), some (.int .i64 0), some (.slice none 0 0), some (.slice none 0 0)] := by kernel_rfl
theorem Try.cutZeroSize : Try.zeroCells156.size = 264 := by kernel_rfl
theorem Try.cutSize : (Try.prog.info? 156).map (·.size) = some 264 := by kernel_rfl
theorem Try.cutZeroOne : Try.zeroCells156.all (·.oneCell') = true := by kernel_rfl
theorem Try.cutPlaces : (match Try.prog.underlying 156 with
    | some (.struct fs) => fs.toList.mapM (fun f => (Try.prog.info? f.type).map fun i => (f.offset, i.size))
    | _ => none) = some [(0, 258), (258, 1), (259, 1), (260, 1), (261, 1), (262, 1), (263, 1)] := by kernel_rfl
theorem Try.cutBuilt (parts : List (Nat × Value)) : Try.prog.built 156 parts = Instr.fill ([(0, 258), (258, 1), (259, 1), (260, 1), (261, 1), (262, 1), (263, 1)].toArray[·]?) Try.zeroCells156 parts := by
  have h0 := Try.cutZero
  have hp := Try.cutPlaces
  generalize Try.zeroCells156 = Z at *
  unfold Program.built
  cases hi : Try.prog.info? 156 with
  | none => rw [hi] at h0; cases h0
  | some it =>
    rw [hi] at h0
    have hz : it.zero = some (.agg Z) := by simpa using h0
    cases hu : Try.prog.underlying 156 with
    | none => rw [hu] at hp; cases hp
    | some d =>
      rw [hu] at hp
      cases d with
      | struct fs =>
        simp only at hp
        simp only [hz, hp, Value.cells]
      | _ => cases hp

/-- The cells of a new cutter. -/
theorem cut_built (A : Array Value) (hA : A.size = 258) (hone : A.all (·.oneCell') = true) (inp : ByteArray) (c0 : Int) : ∃ C : Array Value, Try.prog.built 156 [(0, .agg A), (1, .string inp), (2, .int .i64 c0)] = some C ∧ C.size = 264 ∧ C.all (·.oneCell') = true ∧
    (∀ k, k < 258 → C[k]? = A[k]?) ∧ C[258]? = some (.string inp) ∧ C[259]? = some (.int .i64 c0) ∧ C[260]? = some (.int .i64 0) ∧ C[261]? = some (.int .i64 0) ∧ C[262]? = some (.slice none 0 0) ∧ C[263]? = some (.slice none 0 0) := by
  have hz := Try.cutZeroSize
  have ht := Try.cutZeroTail
  have ho := Try.cutZeroOne
  rw [Try.cutBuilt]
  generalize Try.zeroCells156 = Z at *
  have htl : ∀ k v, [some (Value.string ByteArray.empty), some (.int .i64 0), some (.int .i64 0), some (.int .i64 0), some (.slice none 0 0), some (.slice none 0 0)][k]? = some v → k < 6 → Z[258 + k]? = v := fun k v hk h6 => by
    rw [← ht, List.getElem?_map, List.getElem?_range h6] at hk
    simpa using hk
  obtain ⟨s1, g1⟩ := fill_get 0 A Z
  obtain ⟨s2, g2⟩ := fill_get 258 #[Value.string inp] (A.zipIdx.foldl (fun cs x => cs.setIfInBounds (0 + x.2) x.1) Z)
  obtain ⟨s3, g3⟩ := fill_get 259 #[Value.int .i64 c0] (#[Value.string inp].zipIdx.foldl (fun cs x => cs.setIfInBounds (258 + x.2) x.1) (A.zipIdx.foldl (fun cs x => cs.setIfInBounds (0 + x.2) x.1) Z))
  refine ⟨#[Value.int .i64 c0].zipIdx.foldl (fun cs x => cs.setIfInBounds (259 + x.2) x.1) (#[Value.string inp].zipIdx.foldl (fun cs x => cs.setIfInBounds (258 + x.2) x.1) (A.zipIdx.foldl (fun cs x => cs.setIfInBounds (0 + x.2) x.1) Z)), ?_, by rw [s3, s2, s1, hz], ?_, fun k hk => ?_, ?_, ?_, ?_, ?_, ?_, ?_⟩
  · have e1 : (Value.agg A).cells = A := rfl
    have e2 : (Value.string inp).cells = #[Value.string inp] := rfl
    have e3 : (Value.int .i64 c0).cells = #[Value.int .i64 c0] := rfl
    unfold Instr.fill
    simp only [List.getElem?_toArray, List.getElem?_cons_zero, e1, hA, hz]
    rw [if_neg (by decide)]
    unfold Instr.fill
    simp only [List.getElem?_cons_succ, List.getElem?_cons_zero, e2]
    rw [if_neg (by rw [s1, hz]; simp)]
    unfold Instr.fill
    simp only [List.getElem?_cons_succ, List.getElem?_cons_zero, e3]
    rw [if_neg (by rw [s2, s1, hz]; simp)]
    unfold Instr.fill
    rfl
  · rw [Array.all_eq_true]
    intro i hi
    have hv := Array.getElem?_eq_getElem hi
    have hi2 := hi
    rw [s3, s2, s1, hz] at hi2
    rw [g3, g2, g1] at hv
    generalize (#[Value.int .i64 c0].zipIdx.foldl (fun cs x => cs.setIfInBounds (259 + x.2) x.1) (#[Value.string inp].zipIdx.foldl (fun cs x => cs.setIfInBounds (258 + x.2) x.1) (A.zipIdx.foldl (fun cs x => cs.setIfInBounds (0 + x.2) x.1) Z)))[i] = u at *
    split at hv
    · rename_i hc
      have e : i - 259 = 0 := by have := hc.2.1; simp at this; omega
      rw [e] at hv
      have hq : (#[Value.int .i64 c0] : Array Value).all (·.oneCell') = true := by simp [Value.oneCell']
      exact all_get hq hv
    · split at hv
      · rename_i hc
        have e : i - 258 = 0 := by have := hc.2.1; simp at this; omega
        rw [e] at hv
        have hq : (#[Value.string inp] : Array Value).all (·.oneCell') = true := by simp [Value.oneCell']
        exact all_get hq hv
      · split at hv
        · exact all_get hone hv
        · exact all_get ho hv
  · rw [g3, if_neg (by omega), g2, if_neg (by omega), g1, if_pos (by omega)]; rfl
  · rw [g3, if_neg (by omega), g2, if_pos ⟨by omega, by simp, by rw [s1, hz]; omega⟩]; rfl
  · rw [g3, if_pos ⟨by omega, by simp, by rw [s2, s1, hz]; omega⟩]; rfl
  · rw [g3, if_neg (by simp), g2, if_neg (by simp), g1, if_neg (by omega)]; exact htl 2 _ rfl (by omega)
  · rw [g3, if_neg (by simp), g2, if_neg (by simp), g1, if_neg (by omega)]; exact htl 3 _ rfl (by omega)
  · rw [g3, if_neg (by simp), g2, if_neg (by simp), g1, if_neg (by omega)]; exact htl 4 _ rfl (by omega)
  · rw [g3, if_neg (by simp), g2, if_neg (by simp), g1, if_neg (by omega)]; exact htl 5 _ rfl (by omega)
end Go.Proofs.Ytgjgjgihceijnaa
