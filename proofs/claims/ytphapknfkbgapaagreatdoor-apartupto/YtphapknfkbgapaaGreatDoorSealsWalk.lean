import Derived.Test.YtphapknfkbgapaaGreatDoorOpens
namespace Go.Proofs.YtphapknfkbgapaaGreatDoor
open Go.RowKit

theorem seal_pair (key nonce path plain : ByteArray) (hp : plain.size ≤ maxLen) : ∃ (A : ByteArray) (E : Int), A.size ≤ maxLen ∧
    (∀ w, Fours w → 1 ≤ w.heap.size → Calls Tryz.prog 109 #[.string key, .string nonce, .string path, .string plain] w fun e w' => e = .returned (.tuple #[.string A, .int .i64 E]) ∧ Low w.heap.size w w') ∧
    (∀ w, Calls Tryz.prog 101 #[.string key, .string nonce, .string path, .string plain] w fun e w' => e = .returned (.tuple #[.string A, .int .i64 E]) ∧ Low w.heap.size w w') := by
  by_cases h : goodP key nonce path ∧ plain.size ≤ 64
  · exact ⟨sealOf key nonce path plain, 0, by rw [sealOf_size]; unfold maxLen; omega, fun w hF h1 => Seal_yes _ _ _ _ w h.1 h.2 hF h1, fun w => SealR_yes _ _ _ _ w h.1 h.2⟩
  · exact ⟨⟨#[]⟩, 2, Nat.zero_le _, fun w _ _ => Seal_no _ _ _ _ w h hp, fun w => SealR_no _ _ _ _ w h hp⟩
theorem open_pair (key nonce path s : ByteArray) (hp : s.size ≤ maxLen) : ∃ (A : ByteArray) (E : Int),
    (∀ w, Fours w → 1 ≤ w.heap.size → Calls Tryz.prog 115 #[.string key, .string nonce, .string path, .string s] w fun e w' => e = .returned (.tuple #[.string A, .int .i64 E]) ∧ Low w.heap.size w w') ∧
    (∀ w, Calls Tryz.prog 114 #[.string key, .string nonce, .string path, .string s] w fun e w' => e = .returned (.tuple #[.string A, .int .i64 E]) ∧ Low w.heap.size w w') := by
  by_cases h : goodP key nonce path ∧ 8 ≤ s.size ∧ s.size ≤ 72
  · by_cases ho : opens key nonce path s
    · exact ⟨maskOf key nonce (coverOf s), 0, fun w hF h1 => Open_yes _ _ _ _ w h.1 h.2.1 h.2.2 ho hF h1, fun w => OpenR_yes _ _ _ _ w h.1 h.2.1 h.2.2 ho⟩
    · exact ⟨⟨#[]⟩, 3, fun w _ _ => Open_bad _ _ _ _ w h.1 h.2.1 h.2.2 ho, fun w => OpenR_bad _ _ _ _ w h.1 h.2.1 h.2.2 ho⟩
  · exact ⟨⟨#[]⟩, 2, fun w _ _ => Open_no _ _ _ _ w h hp, fun w => OpenR_no _ _ _ _ w h hp⟩

end Go.Proofs.YtphapknfkbgapaaGreatDoor
