/- (*stencilref.Image).longest: a walk. -/
import Derived.Test.YtgjgjgihceijnaaScLead
import Derived.Test.YtgjgjgihceijnaaScPure2
namespace Go.Proofs.Ytgjgjgihceijnaa
open Go.RowKit Go.Stn

set_option maxRecDepth 100000 in
set_option maxHeartbeats 1000000 in
theorem longest_any (s inp : ByteArray) (B b g cap c p : Nat) (w : World) (hi : imgOk s = true) (hs : s.size ≤ 120000) (hin : inp.size ≤ 300) (hp : p ≤ inp.size) (hc : c < iM s) (hw : ImgRd w B b g cap s) :
    Calls Try.prog 74 #[.pointer (some ⟨b, 0, none⟩), .string inp, .int .i64 p, .int .i64 c] w fun e w' =>
      e = .returned (.tuple #[.int .i64 (lng s inp c p).1, .int .i64 (lng s inp c p).2]) ∧ ∃ q, w' = w.drewN q := by
  have HL : Hid (lng s inp c p = longD s inp c p (inp.size - p)) := rfl
  go_enter Try.func74, Try.ntmps74
  go_wp2_with fail
  go_loopw [10] (fun x w' => ∃ d q : Nat, p + d ≤ inp.size ∧ x = .int .i64 ((p : Int) + (d : Int)) ∧ w' = w.drewN q ∧ lng s inp c p = longD s inp c p d) (fun x _ => (intOf x).toNat)
  case atStart => exact ⟨inp.size - p, 0, by omega, by congr 1; omega, rfl, HL.out⟩
  case round =>
    obtain ⟨d, q, hd, rfl, rfl, hlg⟩ := hrel
    have HG : Hid (lng s inp c p = longD s inp c p d) := hlg
    clear hlg
    by_cases hlt : 0 < d
    · obtain ⟨e, he⟩ : ∃ e, d = e + 1 := ⟨d - 1, by omega⟩
      have HE : Hid (d = e + 1) := he
      have hed : e < d := by omega
      clear he
      have hdec : decide ((p : Int) < (p : Int) + (d : Int)) = true := by simp; omega
      go_wp2_with fail
      go_loopw [11, 12] (fun x y w' => ∃ j q : Nat, j ≤ d ∧ y = .int .i64 ((p : Int) + (j : Int)) ∧ w' = w.drewN q ∧ ((∃ st : Nat, stepTo s inp c p j = some st ∧ x = .int .i64 (st : Int)) ∨ (stepTo s inp c p d = none ∧ x = .int .i64 (-1)))) (fun _ y _ => inp.size - (intOf y).toNat)
      case atStart => exact ⟨0, q, by omega, by simp, rfl, .inl ⟨0, rfl, rfl⟩⟩
      case round =>
        obtain ⟨j, q2, hj, rfl, rfl, hcase⟩ := hrel
        rcases hcase with ⟨st, hst, rfl⟩ | ⟨hno, rfl⟩
        · have HS : Hid (stepTo s inp c p j = some st) := hst
          clear hst
          by_cases hlt2 : j < d
          · have hbe := bt_eq inp (p + j) (by omega)
            have hbl := bt_lt inp (p + j)
            go_wp2_with fail
            refine (lead_any s B b g cap c st (bt inp (p + j)) _ hi hs hc (stepTo_lt hi hc j st HS.out) hbl (hw.drewN _)).mono ?_
            rintro e' w2 ⟨rfl, q3, rfl⟩
            go_wp2_with fail
            go_roundw
            case rel =>
              refine ⟨j + 1, q2 + q3, hlt2, by go_num, by simp, ?_⟩
              have hst1 := stepTo_succ HS.out
              by_cases h255 : leadN s c st (bt inp (p + j)) = 255
              · rw [if_pos h255] at hst1
                exact .inr ⟨stepTo_none hst1 _ hlt2, by unfold leadZ; rw [if_pos h255]⟩
              · rw [if_neg h255] at hst1
                exact .inl ⟨_, hst1, by unfold leadZ; rw [if_neg h255]⟩
            case measure => simp [intOf]; omega
          · have ej : j = d := by omega
            subst ej
            by_cases hm : 0 < markN s c st
            · have hml := mark_le hi hc (stepTo_lt hi hc _ st HS.out)
              have hR := (img_head hi).1
              have hfin := longD_some (d := e) (by rw [← HE.out]; exact tokAt_yes HS.out hm)
              have HF : Hid (longD s inp c p j = (((markN s c st - 1 : Nat) : Int), p + j)) := by rw [← HE.out] at hfin; exact hfin
              clear hfin
              go_wp2_with fail
              refine (mark_any s B b g cap c st _ hi hs hc (stepTo_lt hi hc _ st HS.out) (hw.drewN _)).mono ?_
              rintro e' w2 ⟨rfl, q3, rfl⟩
              go_wp2
              go_ret2
              refine ⟨?_, q2 + q3, by simp⟩
              rw [HG.out, HF.out]
              simp
              omega
            · have hm0 : markN s c st = 0 := by omega
              have hfin := longD_none (d := e) (by rw [← HE.out]; exact tokAt_no HS.out hm0)
              have HF : Hid (longD s inp c p j = longD s inp c p e) := by rw [← HE.out] at hfin; exact hfin
              clear hfin
              go_wp2_with fail
              refine (mark_any s B b g cap c st _ hi hs hc (stepTo_lt hi hc _ st HS.out) (hw.drewN _)).mono ?_
              rintro e' w2 ⟨rfl, q3, rfl⟩
              rw [hm0]
              go_wp2
              go_roundw
              case rel => exact ⟨e, q2 + q3, by omega, by have := HE.out; go_num, by simp, by rw [HG.out, HF.out]⟩
              case measure => simp [intOf]; omega
        · have hfin := longD_none (d := e) (by rw [← HE.out]; exact tokAt_none hno)
          have HF : Hid (longD s inp c p d = longD s inp c p e) := by rw [← HE.out] at hfin; exact hfin
          clear hfin hno
          go_wp2_with fail
          all_goals
            go_roundw
            case rel => exact ⟨e, q2, by omega, by have := HE.out; go_num, rfl, by rw [HG.out, HF.out]⟩
            case measure => simp [intOf]; omega
    · have e0 : d = 0 := by omega
      subst e0
      go_wp2
      go_ret2
      refine ⟨?_, q, rfl⟩
      rw [HG.out]
      rfl
end Go.Proofs.Ytgjgjgihceijnaa
