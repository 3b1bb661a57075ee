/- Cutters holds: whatever the script: every Open of any bytes, Cond, Next, in every order, on any number of cutters, answers as the document's, and every list that came out stays its owner's. No condition. -/
import Derived.Test.YtgjgjgihceijnaaGreatG11
import Derived.Test.YtgjgjgihceijnaaGreatRows
import Derived.ProofKit
import Derived.OpenShut
import Derived.ChangeOld
import Derived.Below
import Derived.Carry
import Derived.SizedLaws
namespace Go.Proofs.YtgjgjgihceijnaaGreat
open Go.ChangeShapes Go.WideShapes Go.ChangeAt Go.RowKit Go.Stn

theorem cutters_own : ownKnob Tryz.prog.godebug = none := by kernel_rfl
theorem cutters_laid : laidOutB Tryz.prog = true := by kernel_rfl
theorem cutters_bytes : Tryz.prog.bytesOf 86 = 48 := by kernel_rfl
theorem cutters_all {H : Type} {enc : TypeId × Value → H} {W : World} {a : Option Addr} {len cap : Nat} {d : DataW H} {ps : List MemPlace} (h : DataW.Trod enc Tryz.prog W 0 (fun _ => true) true 36 (.slice a len cap) d ps) (hb : ∀ e sp, d = .slice e sp → (e.length + sp.length) * 48 ≤ 140737488351232) :
    Calls Tryz.prog 4 #[.slice a len cap] W fun e w' => e = .returned (.bool true) ∧ Below W.heap.size W w' := by
  rcases opsz_open h with h0 | ⟨b, o, D, sp, ops, rfl, hl, hd, hops⟩
  · subst h0
    exact kcutters_walk [] a cap W (.inl rfl) (by simp)
  · have hn : ops.length ≤ 2932031007317 := by
      have := hb _ _ hd
      simp only [List.length_map, List.length_range] at this
      omega
    rw [← hl]
    exact kcutters_walk ops _ cap W (.inr ⟨b, o, rfl, hops.1⟩) hn

set_option maxRecDepth 100000 in
theorem cutters_lifted (os : Os) (started : os.Started) (H : Type) (enc : TypeId × Value → H) :
    ReturnsInHanded {} Tryz.checked os 4 .any (Rows.cuttersSpec.pre6 enc Tryz.prog Tryz.f4 Rows.cuttersRow.domain false) (Rows.cuttersSpec.post enc Tryz.prog Tryz.f4 false true false false) := by
  refine returnsInHanded_of_change_sized (C := Tryz.checked) cutters_own started (by kernel_rfl) Tryz.func4
    (ChangeSpec.witness6 (enc := enc) (C := Tryz.checked) false ⟨#[], #[.slice none 0 0], []⟩ 8 (by kernel_rfl) (by kernel_rfl) (by kernel_rfl) (by kernel_rfl)) ?_
  intro W base args ds gs before hval0 hW _ hsz0 _
  have hsz : (DataW.weightsEach Tryz.prog (Tryz.f4.params.toList ++ Rows.cuttersSpec.plain.varTypes Tryz.prog) (ds ++ gs)).all (· ≤ reachBytes) = true := hsz0
  have hval : ∀ (j : Nat) t v, Tryz.f4.params[j]? = some t → args[j]? = some v → Value.okWide Tryz.prog W .any base t v := hval0
  have hW' := hW
  obtain ⟨p, q, hA0, hV, rfl, hfz, hnd⟩ := hW
  have hA : DataW.TrodAll enc Tryz.prog W 0 (fun _ => true) true Tryz.f4.params.toList args.toList ds p := hA0
  rw [Tryz.params4] at hA hval hsz
  obtain ⟨v0, vs0, d0, ds0, p0, q0, hargs, rfl, rfl, h0, r0⟩ := trodAll_cons hA
  obtain ⟨rfl, rfl, rfl⟩ := trodAll_nil r0
  obtain rfl : args = #[v0] := by cases args; simp_all
  obtain ⟨rfl, rfl⟩ := trodVars_none hV
  obtain ⟨a, len, cap, rfl⟩ := okWide_slice Tryz.underlying36 (hval 0 36 v0 rfl rfl)
  clear hA0 hval0 hsz0
  simp only [List.append_nil] at hW'
  have hlt : ∀ x ∈ p0, x.block < W.heap.size := fun x hx => by simpa using hW'.lt x (by simpa using hx)
  have hb : ∀ e sp, d0 = .slice e sp → (e.length + sp.length) * 48 ≤ 140737488351232 := fun e sp he => by
    subst he
    have := sized_slice hsz (j := 0) rfl rfl Tryz.underlying36
    rw [cutters_bytes] at this
    exact this
  refine (cutters_all h0 hb).mono fun e W' ⟨he, bel⟩ => ?_
  subst he
  exact ⟨_, rfl, _, _, _, [], _, [], hW', trodAll_mk1 (shut_bool Tryz.underlying4 _), trodAll_mk1 (Below.trod cutters_laid (by kernel_rfl) (of_decide_eq_true (by kernel_rfl)) h0 bel hlt), rfl, bel.frame _, fun h => by cases h⟩

theorem cutters_holds : Rows.CuttersSaid :=
  OpenClaim.holds_of_wide 4 Tryz.f4 rfl rfl rfl rfl rfl rfl rfl ⟨rfl, rfl, rfl, rfl, rfl⟩ rfl rfl rfl rfl rfl (by kernel_rfl) Tryz.func4 (by kernel_rfl)
    (of_decide_eq_true (by kernel_rfl)) (by unfold Func.isWrapper; first | (rw [if_pos (by decide +kernel)]; kernel_rfl) | (rw [if_neg (by decide +kernel)]; exact ⟨rfl, rfl⟩))
    (fun os started H enc _ => cutters_lifted os started H enc)
end Go.Proofs.YtgjgjgihceijnaaGreat

