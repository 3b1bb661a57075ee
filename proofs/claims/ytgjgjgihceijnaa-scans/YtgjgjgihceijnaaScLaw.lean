/- Scans holds: whatever the two texts, Scan answers as the reference does: the tokens, the steps, the error. No condition. -/
import Derived.Test.YtgjgjgihceijnaaRows
import Derived.Test.YtgjgjgihceijnaaScProg
import Derived.Test.YtgjgjgihceijnaaScSame
import Derived.Test.YtgjgjgihceijnaaCkSmall
import Derived.ProofKit
import Derived.OpenShut
import Derived.ShutString
import Derived.ChangeOld
import Derived.Below
namespace Go.Stn
theorem runP_told {s inp : ByteArray} (hi : imgOk s = true) : ∀ (f p c : Nat) (H : List (Int × Int × Int)) (n : Nat) (T : List (Int × Int × Int)), c < iM s → (runP s inp f p c H n T).1.length ≤ T.length + f := by
  intro f
  induction f with
  | zero => intro p c H n T _; simp [runP]
  | succ e ih =>
    intro p c H n T hc
    by_cases hlt : p < inp.size
    · rcases lng_cases hi hc (Nat.le_of_lt hlt) with hno | ⟨r, q, hyes, hr, hpq, hq⟩
      · rw [runP_none hlt hno]; simp
      · rw [runP_some hlt hyes]
        have := then_le hi hr
        have := ih q (if 1 < thenB s r then thenB s r - 2 else c) (H ++ (lookFrom s inp c H p).1) (n + (lookFrom s inp c H p).2) (if thenB s r = 1 then T else T ++ [((r : Int), (p : Int), (q : Int))]) (by split <;> omega)
        refine Nat.le_trans this ?_
        split <;> simp <;> omega
    · rw [runP_end hlt]; simp

theorem scanR_len (s inp : ByteArray) : (scanR s inp).1.length ≤ 1000 := by
  unfold scanR
  split
  · simp
  · rename_i h
    split
    · rename_i hi
      have hm := (img_head hi).2.2.1
      have := runP_told (inp := inp) hi (inp.size + 1) 0 0 [] 0 [] (by omega)
      unfold cutP
      simp at this ⊢
      omega
    · simp
end Go.Stn
namespace Go.Proofs.Ytgjgjgihceijnaa
open Go.ChangeShapes Go.WideShapes Go.ChangeAt Go.RowKit Go.Stn
open Go.ChangeMaps (open_string shut_string)

theorem sameB_refl (a : List (Int × Int × Int)) : sameB a a = true := by unfold sameB; simp

set_option maxRecDepth 100000 in
theorem scans_walk (s inp : ByteArray) (hs : s.size ≤ maxLen) (hin : inp.size ≤ maxLen) (w : World) :
    Calls Try.prog 6 #[.string s, .string inp] w fun e w' => e = .returned (.bool true) ∧ Below w.heap.size w w' := by
  have hlen := scanR_len s inp
  go_enter Try.func6, Try.ntmps6
  go_wp2_with fail
  refine (pscan_any s inp _ hs hin).mono ?_
  rintro e w1 ⟨v1, rfl, hr1, hb1⟩
  have HR1 := hid_mk hr1
  have HB1 := hid_mk hb1
  clear hr1 hb1
  go_wp2_with fail
  refine (scan_any s inp _ hs hin).mono ?_
  rintro e w2 ⟨v2, rfl, hr2, hb2⟩
  have HR2 := hid_mk (ownsRow_row3 hr2)
  have HR3 := hid_mk (HR1.out.below hb2 (Nat.le_refl _))
  have HB2 := hid_mk (HB1.out.trans (hb2.mono HB1.out.size))
  clear hr2 hb2 HR1 HB1
  generalize (scanR s inp).2.1 = n at *
  generalize (scanR s inp).2.2 = e at *
  generalize (scanR s inp).1 = T at *
  have h1 : ((e : Int) == e) = true := beq_self_eq_true _
  have h2 : ((n : Int) == (n : Int)) = true := beq_self_eq_true _
  go_wp2_with fail
  refine (num_any _ _).mono ?_
  rintro e' w3 ⟨rfl, rfl⟩
  go_wp2_with fail
  refine (same_any T T v1 v2 _ _ _ (by omega) (by omega) HR3.out HR2.out).mono ?_
  rintro e' w4 ⟨rfl, q, rfl⟩
  rw [sameB_refl]
  go_wp2
  go_ret
  exact ⟨rfl, ⟨HB2.out.os, HB2.out.tape, HB2.out.output, HB2.out.size, HB2.out.block⟩⟩

theorem scans_own : ownKnob Try.prog.godebug = none := by kernel_rfl

set_option maxRecDepth 100000 in
theorem scans_lifted (os : Os) (started : os.Started) (H : Type) (enc : TypeId × Value → H) :
    ReturnsInHanded {} Try.checked os 6 .any (Rows.scansSpec.pre6 enc Try.prog Try.f6 Rows.scansRow.domain false) (Rows.scansSpec.post enc Try.prog Try.f6 false true false false) := by
  refine returnsInHanded_of_change (C := Try.checked) scans_own started (by kernel_rfl) Try.func6
    (ChangeSpec.witness6 (enc := enc) (C := Try.checked) false ⟨#[], #[.string ByteArray.empty, .string ByteArray.empty], []⟩ 8 (by kernel_rfl) (by kernel_rfl) (by kernel_rfl) (by kernel_rfl)) ?_
  intro W base args ds gs before hval0 hW hcnd _
  have hval : ∀ (j : Nat) t v, Try.f6.params[j]? = some t → args[j]? = some v → Value.okWide Try.prog W .any base t v := hval0
  have hW' := hW
  obtain ⟨p, q, hA0, hV, rfl, hfz, hnd⟩ := hW
  have hA : DataW.TrodAll enc Try.prog W 0 (fun _ => true) true Try.f6.params.toList args.toList ds p := hA0
  rw [Try.params6] at hA hval
  obtain ⟨v0, vs0, d0, ds0, p0, q0, hargs, rfl, rfl, h0, r0⟩ := trodAll_cons hA
  obtain ⟨v1, vs1, d1, ds1, p1, q1, rfl, rfl, rfl, h1, r1⟩ := trodAll_cons r0
  obtain ⟨rfl, rfl, rfl⟩ := trodAll_nil r1
  obtain rfl : args = #[v0, v1] := by cases args; simp_all
  obtain ⟨rfl, rfl⟩ := trodVars_none hV
  obtain ⟨a0, rfl, rfl, rfl, w0⟩ := open_string Try.underlying9 (hval 0 9 v0 rfl rfl) h0
  obtain ⟨a1, rfl, rfl, rfl, w1⟩ := open_string Try.underlying9 (hval 1 9 v1 rfl rfl) h1
  clear hA0 hval0
  refine (scans_walk a0 a1 w0 w1 W).mono fun e W' ⟨he, bel⟩ => ?_
  subst he
  exact ⟨_, rfl, _, _, _, [], _, [], hW', trodAll_mk1 (shut_bool Try.underlying4 _), trodAll_cons_mk (shut_string Try.underlying9 w0) (trodAll_cons_mk (shut_string Try.underlying9 w1) trodAll_mk0), rfl, bel.frame _, fun h => by cases h⟩

theorem scans_holds : Rows.ScansSaid :=
  OpenClaim.holds_of_wide 6 Try.f6 rfl rfl rfl rfl rfl rfl rfl ⟨rfl, rfl, rfl, rfl, rfl⟩ rfl rfl rfl rfl rfl (by kernel_rfl) Try.func6 (by kernel_rfl)
    (of_decide_eq_true (by kernel_rfl)) (by unfold Func.isWrapper; first | (rw [if_pos (by decide +kernel)]; kernel_rfl) | (rw [if_neg (by decide +kernel)]; exact ⟨rfl, rfl⟩))
    (fun os started H enc _ => scans_lifted os started H enc)
#print axioms scans_holds
end Go.Proofs.Ytgjgjgihceijnaa
