import Derived.Test.YtphapknfkbgapabDoorHash
import Derived.Test.YtphapknfkbgapabDoorPrefixWalk
namespace Go.Proofs.YtphapknfkbgapabDoor
open Go.RowKit

/-! Sealed texts. -/
def byteN (s : ByteArray) (k : Nat) : UInt8 := s.data[k]?.getD 0
/-- A text with another laid over it, bit by bit. -/
def mixS (text over : ByteArray) : ByteArray := ⟨((List.range text.size).map fun k => byteN text k ^^^ byteN over k).toArray⟩
def maskOf (key nonce text : ByteArray) : ByteArray := mixS text (streamOf (key.extract 0 32) nonce 1 text.size)
def tagI (key nonce path cover : ByteArray) : Int := hashOf (key.extract 32 key.size) (((⟨#[UInt8.ofNat path.size]⟩ ++ path) ++ nonce) ++ cover)
def w64 (x : Int) : ByteArray := wr32 (x % 4294967296) ++ wr32 (x / 4294967296)
def sealOf (key nonce path plain : ByteArray) : ByteArray := maskOf key nonce plain ++ w64 (tagI key nonce path (maskOf key nonce plain))

theorem mixS_size (text over : ByteArray) : (mixS text over).size = text.size := by
  show (((List.range text.size).map _).toArray).size = _
  simp
theorem byteN_mixS (text over : ByteArray) (k : Nat) (h : k < text.size) : byteN (mixS text over) k = byteN text k ^^^ byteN over k := by
  simp [byteN, mixS, h]
theorem ext_byteN {a b : ByteArray} (hs : a.size = b.size) (h : ∀ k, k < a.size → byteN a k = byteN b k) : a = b := by
  apply bytes_ext
  apply List.ext_getElem?
  intro k
  by_cases hk : k < a.size
  · have hk2 : k < b.size := by omega
    have ha : k < a.data.size := hk
    have hb : k < b.data.size := hk2
    have := h k hk
    simp only [byteN, Array.getElem?_eq_getElem ha, Array.getElem?_eq_getElem hb, Option.getD_some] at this
    rw [Array.getElem?_toList, Array.getElem?_toList, Array.getElem?_eq_getElem ha, Array.getElem?_eq_getElem hb, this]
  · have ha : ¬ k < a.data.size := hk
    have hb : ¬ k < b.data.size := by
      show ¬ k < b.size
      omega
    rw [Array.getElem?_toList, Array.getElem?_toList, Array.getElem?_eq_none (by omega), Array.getElem?_eq_none (by omega)]
theorem mixS_back (text over : ByteArray) : mixS (mixS text over) over = text := by
  apply ext_byteN
  · rw [mixS_size, mixS_size]
  · intro k hk
    rw [mixS_size, mixS_size] at hk
    rw [byteN_mixS _ _ _ (by rw [mixS_size]; exact hk), byteN_mixS _ _ _ hk, UInt8.xor_assoc, UInt8.xor_self, UInt8.xor_zero]
theorem maskOf_size (key nonce text : ByteArray) : (maskOf key nonce text).size = text.size := mixS_size _ _
theorem maskOf_back (key nonce text : ByteArray) : maskOf key nonce (maskOf key nonce text) = text := by
  unfold maskOf
  rw [mixS_size]
  exact mixS_back _ _
theorem w64_size (x : Int) : (w64 x).size = 8 := by
  unfold w64; rw [ByteArray.size_append', wr32_size, wr32_size]
theorem sealOf_size (key nonce path plain : ByteArray) : (sealOf key nonce path plain).size = plain.size + 8 := by
  unfold sealOf; rw [ByteArray.size_append', maskOf_size, w64_size]
theorem tagI_bd (key nonce path cover : ByteArray) : In64 (tagI key nonce path cover) := xor64_bd _ _
theorem cover_of (key nonce path plain : ByteArray) : (sealOf key nonce path plain).extract 0 plain.size = maskOf key nonce plain := by
  apply bytes_ext
  have hs : (maskOf key nonce plain).data.toList.length = plain.size := maskOf_size key nonce plain
  simp only [sealOf, ByteArray.data_extract, Array.toList_extract, ByteArray.data_append, Array.toList_append, List.extract_eq_take_drop, List.drop_zero, Nat.sub_zero]
  rw [List.take_append_of_le_length (by omega), List.take_of_length_le (by omega)]

/-! Words written and read. -/
theorem byteAt_N (s : ByteArray) (k : Nat) : byteAt s k = ((byteN s k).toNat : Int) := rfl
theorem byteN_append_right (a b : ByteArray) (k : Nat) : byteN (a ++ b) (a.size + k) = byteN b k := by
  unfold byteN
  rw [ByteArray.data_append, Array.getElem?_append, if_neg (by show ¬ a.size + k < a.size; omega)]
  rw [show a.size + k - a.data.size = k from by show a.size + k - a.size = k; omega]
theorem byteN_append_left (a b : ByteArray) (k : Nat) (h : k < a.size) : byteN (a ++ b) k = byteN a k := by
  unfold byteN
  rw [ByteArray.data_append, Array.getElem?_append, if_pos (by exact h)]
theorem rd32_wr32 (x : Int) (h0 : 0 ≤ x) (h1 : x < 4294967296) : rd32 (wr32 x) 0 = x := by
  have e0 : byteAt (wr32 x) 0 = x % 256 := by
    show (((UInt8.ofNat (x % 256).toNat).toNat : Nat) : Int) = _
    rw [UInt8.toNat_ofNat_of_lt' (by show _ < 256; omega)]; omega
  have e1 : byteAt (wr32 x) 1 = x / 256 % 256 := by
    show (((UInt8.ofNat (x / 256 % 256).toNat).toNat : Nat) : Int) = _
    rw [UInt8.toNat_ofNat_of_lt' (by show _ < 256; omega)]; omega
  have e2 : byteAt (wr32 x) 2 = x / 65536 % 256 := by
    show (((UInt8.ofNat (x / 65536 % 256).toNat).toNat : Nat) : Int) = _
    rw [UInt8.toNat_ofNat_of_lt' (by show _ < 256; omega)]; omega
  have e3 : byteAt (wr32 x) 3 = x / 16777216 % 256 := by
    show (((UInt8.ofNat (x / 16777216 % 256).toNat).toNat : Nat) : Int) = _
    rw [UInt8.toNat_ofNat_of_lt' (by show _ < 256; omega)]; omega
  show byteAt (wr32 x) 0 + 256 * byteAt (wr32 x) 1 + 65536 * byteAt (wr32 x) 2 + 16777216 * byteAt (wr32 x) 3 = x
  rw [e0, e1, e2, e3]; omega
theorem rd32_right (a b : ByteArray) (p : Nat) : rd32 (a ++ b) (a.size + p) = rd32 b p := by
  unfold rd32
  simp only [byteAt_N, Nat.add_assoc, byteN_append_right]
theorem rd32_left (a b : ByteArray) (p : Nat) (h : p + 4 ≤ a.size) : rd32 (a ++ b) p = rd32 a p := by
  unfold rd32
  simp only [byteAt_N]
  rw [byteN_append_left _ _ _ (by omega), byteN_append_left _ _ _ (by omega), byteN_append_left _ _ _ (by omega), byteN_append_left _ _ _ (by omega)]
theorem rd64_w64 (c : ByteArray) (x : Int) (hx : In64 x) : rd64 (c ++ w64 x) c.size = x := by
  have h := hx
  unfold In64 at h
  unfold rd64
  rw [rd32_right c (w64 x) 4, show c.size = c.size + 0 from rfl, rd32_right c (w64 x) 0]
  unfold w64
  rw [rd32_left _ _ 0 (by rw [wr32_size]; omega), rd32_wr32 _ (by omega) (by omega)]
  have e : rd32 (wr32 (x % 4294967296) ++ wr32 (x / 4294967296)) 4 = x / 4294967296 := by
    have := rd32_right (wr32 (x % 4294967296)) (wr32 (x / 4294967296)) 0
    rw [wr32_size] at this
    rw [show (4 : Nat) = 4 + 0 from rfl, this, rd32_wr32 _ (by omega) (by omega)]
  rw [e]
  omega
end Go.Proofs.YtphapknfkbgapabDoor
