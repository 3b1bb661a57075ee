/- The first three bytes of a text. -/
import Derived.Test.YtgjgjgihceijnaaCkPure3
import Derived.WalkKit
namespace Go.Stn

theorem pre3 (s : ByteArray) (h : 3 ≤ s.size) : ((s.extract 0 3).toList = [83, 84, 1]) ↔ (bt s 0 = 83 ∧ bt s 1 = 84 ∧ bt s 2 = 1) := by
  rw [ByteArray.toList_eq]
  have e : (s.extract 0 3).data.toList = s.data.toList.take 3 := by
    simp [ByteArray.data_extract]
  rw [e]
  unfold bt
  have hl : 3 ≤ s.data.toList.length := by simpa using h
  generalize s.data.toList = l at hl ⊢
  match l, hl with
  | a :: b :: c :: r, _ =>
    simp
    refine ⟨?_, ?_⟩
    · rintro ⟨rfl, rfl, rfl⟩; decide
    · rintro ⟨h1, h2, h3⟩
      exact ⟨UInt8.toNat_inj.1 h1, UInt8.toNat_inj.1 h2, UInt8.toNat_inj.1 h3⟩

end Go.Stn
