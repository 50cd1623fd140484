import Derived.Test.YtphapknfkbgapabDoorSeal
import Derived.Deep.QuietTactic
import Derived.BigQuiet
namespace Go.Proofs.YtphapknfkbgapabDoor
open Go.RowKit

theorem opens_seal (key nonce path plain : ByteArray) : opens key nonce path (sealOf key nonce path plain) := by
  unfold opens coverOf
  rw [sealOf_size, show plain.size + 8 - 8 = plain.size from by omega, cover_of]
  have h := rd64_w64 (maskOf key nonce plain) (tagI key nonce path (maskOf key nonce plain)) (tagI_bd _ _ _ _)
  rw [maskOf_size] at h
  exact h
theorem open_seal (key nonce path plain : ByteArray) : maskOf key nonce (coverOf (sealOf key nonce path plain)) = plain := by
  unfold coverOf
  rw [sealOf_size, show plain.size + 8 - 8 = plain.size from by omega, cover_of, maskOf_back]
theorem seal_byte (key nonce path plain : ByteArray) (k : Nat) (h : k < plain.size) : byteN (sealOf key nonce path plain) k = byteN plain k ^^^ byteN (streamOf (key.extract 0 32) nonce 1 plain.size) k := by
  unfold sealOf
  rw [byteN_append_left _ _ _ (by rw [maskOf_size]; exact h)]
  exact byteN_mixS _ _ _ h
theorem stream_byte (key nonce : ByteArray) (c : Int) (n m k : Nat) (hn : k < n) (hm : k < m) : byteN (streamOf key nonce c n) k = byteN (streamOf key nonce c m) k := by
  have q : ∀ a b, a ≤ b → k < a → byteN (streamOf key nonce c b) k = byteN (streamOf key nonce c a) k := by
    intro a b hab hk
    have h := streamOf_prefix key nonce c b a hab
    unfold byteN
    rw [← Array.getElem?_toList, ← Array.getElem?_toList, ← h, List.getElem?_take, if_pos hk]
  rcases Nat.le_total n m with h | h
  · exact (q n m h hn).symm
  · exact q m n h hm
theorem xor4 (a b s : UInt8) : (a ^^^ s) ^^^ (b ^^^ s) = a ^^^ b := by
  rw [UInt8.xor_comm b s, ← UInt8.xor_assoc, UInt8.xor_assoc a s s, UInt8.xor_self, UInt8.xor_zero]

end Go.Proofs.YtphapknfkbgapabDoor
