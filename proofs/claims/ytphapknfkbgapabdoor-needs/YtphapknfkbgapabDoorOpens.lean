import Derived.Test.YtphapknfkbgapabDoorRefs
namespace Go.Proofs.YtphapknfkbgapabDoor
open Go.RowKit

theorem toList_inj {a b : ByteArray} (e : a.toList = b.toList) : a = b := bytes_ext (by rw [← ByteArray.toList_eq, ← ByteArray.toList_eq]; exact e)

/-! A sealed text is its cover and its tag, written. -/
theorem wr32_rd32 (s : ByteArray) (p k : Nat) (hk : k < 4) : byteN (wr32 (rd32 s p)) k = byteN s (p + k) := by
  have b0 := byteAt_bd s p; have b1 := byteAt_bd s (p + 1); have b2 := byteAt_bd s (p + 2); have b3 := byteAt_bd s (p + 3)
  have key : ∀ (u : UInt8) (x : Int), x = (u.toNat : Int) → UInt8.ofNat x.toNat = u := by
    intro u x e; rw [e, Int.toNat_natCast, UInt8.ofNat_toNat]
  have hk' : k = 0 ∨ k = 1 ∨ k = 2 ∨ k = 3 := by omega
  rcases hk' with rfl | rfl | rfl | rfl
  · refine key _ _ ?_
    rw [Nat.add_zero, ← byteAt_N]; unfold rd32; omega
  · refine key _ _ ?_
    rw [← byteAt_N]; unfold rd32; omega
  · refine key _ _ ?_
    rw [← byteAt_N]; unfold rd32; omega
  · refine key _ _ ?_
    rw [← byteAt_N]; unfold rd32; omega
theorem w64_rd64 (s : ByteArray) (p k : Nat) (hk : k < 8) : byteN (w64 (rd64 s p)) k = byteN s (p + k) := by
  have e1 : rd64 s p % 4294967296 = rd32 s p := lo_rd64 s p
  have e2 : rd64 s p / 4294967296 = rd32 s (p + 4) := hi_rd64 s p
  unfold w64
  rw [e1, e2]
  by_cases h : k < 4
  · rw [byteN_append_left _ _ _ (by rw [wr32_size]; exact h), wr32_rd32 s p k h]
  · obtain ⟨j, rfl⟩ : ∃ j, k = 4 + j := ⟨k - 4, by omega⟩
    have := byteN_append_right (wr32 (rd32 s p)) (wr32 (rd32 s (p + 4))) j
    rw [wr32_size] at this
    rw [this, wr32_rd32 s (p + 4) j (by omega), Nat.add_assoc]
theorem byteN_cover (s : ByteArray) (k : Nat) (h : k < s.size - 8) : byteN (coverOf s) k = byteN s k := by
  unfold byteN coverOf
  rw [ByteArray.data_extract, Array.getElem?_extract]
  have : k < min (s.size - 8) s.data.size - 0 := by
    have : s.data.size = s.size := rfl
    omega
  rw [if_pos this, Nat.zero_add]
theorem whole (s : ByteArray) (h8 : 8 ≤ s.size) : coverOf s ++ w64 (rd64 s (s.size - 8)) = s := by
  have hsz : (coverOf s ++ w64 (rd64 s (s.size - 8))).size = s.size := by
    rw [ByteArray.size_append', coverOf_size, w64_size]; omega
  apply ext_byteN hsz
  intro k hk
  rw [hsz] at hk
  by_cases h : k < s.size - 8
  · rw [byteN_append_left _ _ _ (by rw [coverOf_size]; exact h), byteN_cover s k h]
  · obtain ⟨j, rfl⟩ : ∃ j, k = s.size - 8 + j := ⟨k - (s.size - 8), by omega⟩
    have := byteN_append_right (coverOf s) (w64 (rd64 s (s.size - 8))) j
    rw [coverOf_size] at this
    rw [this, w64_rd64 s (s.size - 8) j (by omega)]
theorem opens_iff (key nonce path s : ByteArray) (h8 : 8 ≤ s.size) : coverOf s ++ w64 (tagI key nonce path (coverOf s)) = s ↔ opens key nonce path s := by
  constructor
  · intro e
    have q := rd64_w64 (coverOf s) (tagI key nonce path (coverOf s)) (tagI_bd _ _ _ _)
    rw [e, coverOf_size] at q
    exact q
  · intro o
    unfold opens at o
    rw [← o]
    exact whole s h8

end Go.Proofs.YtphapknfkbgapabDoor
