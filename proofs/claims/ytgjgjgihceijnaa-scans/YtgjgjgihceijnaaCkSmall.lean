/- stencillaw.small, num: walks. -/
import Derived.Test.YtgjgjgihceijnaaCkPure4
import Derived.Test.YtgjgjgihceijnaaChecked
import Derived.WalkKit
import Derived.WalkSpells
import Derived.WalkLawsBesides
namespace Go.Stn
/-- An image by hand. -/
def smallL : List UInt8 := [83, 84, 1, 1, 0, 1, 0] ++ List.replicate 256 0 ++ [1, 0, 0]
def SM : ByteArray := ⟨smallL.toArray⟩
def Zs : ByteArray := ⟨(List.replicate 256 (0 : UInt8)).toArray⟩
theorem small_cat : (⟨#[83, 84, 1, 1, 0, 1, 0]⟩ : ByteArray) ++ Zs ++ (⟨#[1, 0, 0]⟩ : ByteArray) = SM := by decide +kernel
theorem small_size : SM.size = 266 := by decide +kernel
theorem small_img : imgOk SM = true := by decide +kernel
end Go.Stn
namespace Go.Proofs.Ytgjgjgihceijnaa
open Go.RowKit Go.Stn

theorem Try.infoByte : (Try.prog.info? 5).map (fun i => (i.zero, i.size, i.bytes)) = some (some (.int .u8 0), 1, 1) := by kernel_rfl

theorem made_n (n : Nat) : (madeCells (Value.int .u8 0).cells (n * 1)).toList = (List.replicate n (0 : UInt8)).map (fun b => Value.int .u8 (b.toNat : Int)) := by
  have h : ∀ i : Nat, (Value.int .u8 0).cells[i % (Value.int .u8 0).cells.size]! = Value.int .u8 0 := by
    intro i
    have e : i % (Value.int .u8 0).cells.size = 0 := by simp [Value.cells, Nat.mod_one]
    rw [e]; simp [Value.cells]
  unfold madeCells
  rw [Nat.mul_one]
  simp only [h, Array.toList_map, Array.toList_range]
  rw [List.map_replicate, List.eq_replicate_iff]
  exact ⟨by simp, by intro b hb; simp at hb; exact hb.2.symm⟩
theorem made256 : (madeCells (Value.int .u8 0).cells (256 * 1)).toList = (List.replicate 256 (0 : UInt8)).map (fun b => Value.int .u8 (b.toNat : Int)) := made_n 256

theorem zs_conv (w1 : World) (B base : Nat) (hown : w1.ownsRow base 5 1 (.slice (some ⟨B, 0, none⟩) 256 256) 256 (madeCells (Value.int .u8 0).cells (256 * 1)).toList) :
    (convert 78 9 (.slice (some ⟨B, 0, none⟩) 256 256)).run Try.prog w1 = .ok (.string Zs) w1 := by
  have h := run_convert_bytes_back (P := Try.prog) w1 78 9 5 ⟨B, 0, none⟩ 256 (List.replicate 256 (0 : UInt8)) Try.underlying78 Try.underlying5 Try.underlying9 (fun j hj => by
    refine hown.cells (g := B) rfl j _ ?_
    rw [made256, List.getElem?_map, List.getElem?_eq_getElem hj]; rfl)
  rw [List.length_replicate] at h
  exact h

set_option maxRecDepth 100000 in
set_option maxHeartbeats 400000 in
theorem small_any (w : World) : Calls Try.prog 14 #[] w fun e w' => e = .returned (.string SM) ∧ Below w.heap.size w w' := by
  obtain ⟨i0, hi, hz0, hz1, hz2⟩ := info_parts Try.infoByte
  have HI : Hid (Try.prog.info? 5 = some i0 ∧ i0.zero = some (.int .u8 0) ∧ i0.size = 1 ∧ i0.bytes = 1) := ⟨hi, hz0, hz1, hz2⟩
  clear hi hz0 hz1 hz2
  go_enter Try.func14, Try.ntmps14
  go_wp2_with (at_make; refine wpList_make_full w rfl _ _ 78 rfl w.heap.size 5 i0 (.int .u8 0) 1 Try.underlying78 HI.out.1 HI.out.2.1 HI.out.2.2.1 .i64 .i64 256 256 256 rfl rfl rfl rfl (by rw [HI.out.2.2.2]; decide) (by unfold maxLen; omega) (Nat.le_refl _) ?_; intro w1 hown hg; have hcv := zs_conv w1 _ _ hown; clear hown)
  go_ret
  refine ⟨?_, (Below.refl _ _).grown hg (Nat.le_refl _) (fun k hk => by cases hk)⟩
  rw [← small_cat]; rfl

theorem num_any (x : Int) (w : World) : Calls Try.prog 26 #[.int .i64 x] w fun e w' => e = .returned (.int .i64 x) ∧ w' = w := by
  go_enter Try.func26, Try.ntmps26
  go_wp2
  go_ret
  exact ⟨rfl, rfl⟩
end Go.Proofs.Ytgjgjgihceijnaa
