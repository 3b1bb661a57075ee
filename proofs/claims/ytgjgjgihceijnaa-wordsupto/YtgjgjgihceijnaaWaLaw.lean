/- Words holds: whatever the steps and the input, of bulk at most 1048576: the tokens that are cut by the image of the rules that the steps put together are the longest words of the first rules, each where the last one ended; or the rules are refused as they must be. The condition: the bulk. -/
import Derived.Test.YtgjgjgihceijnaaG35
import Derived.Test.YtgjgjgihceijnaaG45
import Derived.Test.YtgjgjgihceijnaaG40
import Derived.Test.YtgjgjgihceijnaaRows
import Derived.ProofKit
import Derived.OpenShut
import Derived.ShutString
import Derived.ChangeOld
import Derived.Below
import Derived.Carry
import Derived.JoinedCond
namespace Go.Proofs.Ytgjgjgihceijnaa
open Go.ChangeShapes Go.WideShapes Go.ChangeAt Go.RowKit Go.Stn
open Go.ChangeMaps (open_string shut_string)

theorem words_own : ownKnob Try.prog.godebug = none := by kernel_rfl
theorem words_laid : laidOutB Try.prog = true := by kernel_rfl
theorem bulkW_one {H : Type} (d : DataW H) : 1 ≤ Rows.uptoBulk d := by
  cases d with
  | lit l => cases l <;> simp [Rows.uptoBulk]
  | nil => simp [Rows.uptoBulk]
  | ptr d => simp [Rows.uptoBulk]
  | slice elems spare => simp [Rows.uptoBulk]
  | agg parts => simp [Rows.uptoBulk]
  | iface t d => simp [Rows.uptoBulk]
  | map entries => simp [Rows.uptoBulk]
  | held h => simp [Rows.uptoBulk]
theorem bulkW_len {H : Type} (l : List (DataW H)) : l.length ≤ Rows.uptoBulkAll l := by
  induction l with
  | nil => exact Nat.zero_le _
  | cons x r ih => have := bulkW_one x; simp only [Rows.uptoBulkAll, List.length_cons]; omega
theorem words_all {H : Type} {enc : TypeId × Value → H} {W : World} {a : Option Addr} {len cap : Nat} {d : DataW H} {ps : List MemPlace} (inp : ByteArray) (hin : inp.size ≤ maxLen) (h : DataW.Trod enc Try.prog W 0 (fun _ => true) true 46 (.slice a len cap) d ps) (hb : Rows.uptoBulk d ≤ 1048576) :
    Calls Try.prog 8 #[.slice a len cap, .string inp] W fun e w' => e = .returned (.bool true) ∧ Below W.heap.size W w' := by
  rcases ops_open h with h0 | ⟨b, o, D, sp, ops, rfl, hl, hd, hops⟩
  · subst h0
    exact kwords_walk _ [] inp W (by simp) hin (fun W1 _ => kbuilt_nil [] rfl a cap W1)
  · have hn : ops.length ≤ 1100000 := by
      have := bulkW_len ((List.range len).map D)
      rw [hd] at hb
      simp only [Rows.uptoBulk] at hb
      simp only [List.length_map, List.length_range] at this
      omega
    rw [← hl]
    exact kwords_walk _ ops inp W hn hin (fun W1 hB => kbuilt_any ops b o cap W1 ⟨fun k op hk => rangeAt_below (hops.c k op hk) hB hops.lt, hops.ok, Nat.lt_of_lt_of_le hops.lt hB.size⟩ hn)

set_option maxRecDepth 100000 in
theorem words_lifted (os : Os) (started : os.Started) (H : Type) (enc : TypeId × Value → H) (F : Stop.Interp) :
    ReturnsInHanded {} Try.checked os 8 .any ((Rows.OpenSpec.upto Rows.wordsSpec).pre6 enc Try.prog Try.f8 Rows.wordsUptoRow.domain false) (((Rows.OpenSpec.upto Rows.wordsSpec).at F).post enc Try.prog Try.f8 false true false false) := by
  refine returnsInHanded_of_cond (C := Try.checked) (s := Rows.OpenSpec.upto Rows.wordsSpec) (k := Rows.uptoSmall) rfl words_own started (by kernel_rfl) Try.func8
    (OpenSpec.witness (enc := enc) (C := Try.checked) (s := Rows.OpenSpec.upto Rows.wordsSpec) (k := Rows.uptoSmall) rfl false ⟨#[], #[.slice none 0 0, .string ByteArray.empty], []⟩ 8 (by kernel_rfl) (by kernel_rfl) (by kernel_rfl)
      (x := ([.nil, .lit (.string [])], [], [])) (by kernel_rfl) rfl (by kernel_rfl)) ?_
  intro W base args ds gs before hval0 hW _ hk _
  have hval : ∀ (j : Nat) t v, Try.f8.params[j]? = some t → args[j]? = some v → Value.okWide Try.prog W .any base t v := hval0
  have hW' := hW
  obtain ⟨p, q, hA0, hV, rfl, hfz, hnd⟩ := hW
  have hA : DataW.TrodAll enc Try.prog W 0 (fun _ => true) true Try.f8.params.toList args.toList ds p := hA0
  rw [Try.params8] at hA hval
  obtain ⟨v0, vs0, d0, ds0, p0, q0, hargs, rfl, rfl, h0, r0⟩ := trodAll_cons hA
  obtain ⟨v1, vs1, d1, ds1, p1, q1, rfl, rfl, rfl, h1, r1⟩ := trodAll_cons r0
  obtain ⟨rfl, rfl, rfl⟩ := trodAll_nil r1
  obtain rfl : args = #[v0, v1] := by cases args; simp_all
  obtain ⟨rfl, rfl⟩ := trodVars_none hV
  obtain ⟨a, len, cap, rfl⟩ := okWide_slice Try.underlying46 (hval 0 46 v0 rfl rfl)
  obtain ⟨a1, rfl, rfl, rfl, w1⟩ := open_string Try.underlying9 (hval 1 9 v1 rfl rfl) h1
  clear hA0 hval0
  simp only [List.append_nil] at hW'
  have hlt : ∀ x ∈ p0, x.block < W.heap.size := fun x hx => by simpa using hW'.lt x (by simpa using hx)
  have hb : Rows.uptoBulk d0 ≤ 1048576 := by
    have := of_decide_eq_true hk
    simp only [List.append_nil, Rows.uptoBulkAll] at this
    omega
  refine (words_all a1 w1 h0 hb).mono fun e W' ⟨he, bel⟩ => ?_
  subst he
  exact ⟨_, rfl, _, _, _, [], _, [], hW', trodAll_mk1 (shut_bool Try.underlying4 _), trodAll_cons_mk (Below.trod words_laid (by kernel_rfl) (of_decide_eq_true (by kernel_rfl)) h0 bel hlt) (trodAll_cons_mk (shut_string Try.underlying9 w1) trodAll_mk0), rfl, bel.frame _, fun h => by cases h⟩

theorem words_holds : Rows.WordsUptoSaid :=
  OpenClaim.holds_of_cond 8 Try.f8 rfl rfl rfl rfl rfl rfl rfl ⟨rfl, rfl, rfl, rfl, rfl⟩ rfl rfl rfl rfl rfl (by kernel_rfl) Try.func8 (by kernel_rfl)
    (of_decide_eq_true (by kernel_rfl)) (by unfold Func.isWrapper; first | (rw [if_pos (by decide +kernel)]; kernel_rfl) | (rw [if_neg (by decide +kernel)]; exact ⟨rfl, rfl⟩))
    (fun os started H enc _ F => words_lifted os started H enc F)
end Go.Proofs.Ytgjgjgihceijnaa

