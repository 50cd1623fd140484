import Derived.Test.YtnjkpghchgjbaaaGreatDoorBlock
import Derived.Deep.Cut
import Derived.Test.YtnjkpghchgjbaaaGreatDoorWordsToStirT
namespace Go.Proofs.YtnjkpghchgjbaaaGreatDoor
open Go.RowKit

/-- How many bytes a string has. -/
def sizeS : Value → Nat | .string s => s.size | _ => 0
theorem block_all (g : Nat → Int) (w : World) (hF : Fours w) (h1 : 1 ≤ w.heap.size) :
    Calls Tryz.prog 118 #[.agg (arr16 g).toArray] w fun e w' => e = .returned (.string (blockOf g)) ∧ Below w.heap.size w w' := by
  unfold arr16
  exact block_any g w hF h1

theorem fw_next (key nonce : ByteArray) (c x y : Int) (e : y = x) : ∀ k, k < 16 → upd (fw key nonce c) 12 y k = fw key nonce x k := by
  intro k hk
  subst e
  rcases lt16 k hk with rfl | rfl | rfl | rfl | rfl | rfl | rfl | rfl | rfl | rfl | rfl | rfl | rfl | rfl | rfl | rfl
  all_goals rfl

set_option maxRecDepth 100000 in
set_option maxHeartbeats 1000000 in
theorem stream_any (key nonce : ByteArray) (c n : Int) (w : World) (hk : key.size = 32) (hn : nonce.size = 12) (c0 : 0 ≤ c) (c1 : c < 4294967296) (n0 : 0 ≤ n) (n1 : n ≤ 256) (hF : Fours w) (h1 : 1 ≤ w.heap.size) :
    Calls Tryz.prog 109 #[.string key, .string nonce, .int .u32 c, .int .i64 n] w fun e w' => e = .returned (.string (streamOf key nonce c n.toNat)) ∧ Below w.heap.size w w' := by
  obtain ⟨n, rfl⟩ := Int.eq_ofNat_of_zero_le n0
  rw [Int.toNat_natCast]
  have HK : Hid (key.size = 32) := hk
  have HN : Hid (nonce.size = 12) := hn
  clear hk hn
  go_enter Tryz.func109, Tryz.ntmps109
  go_upto_region 3 with (go_at_call 117; refine (firstWords_any _ _ _ _ HK.out HN.out).mono ?_; rintro e w1 ⟨rfl, hb1⟩)
  have hz1 := hb1.size
  have hW0 : Hid (Wx w1.heap.size (fw key nonce ((c + (0 : Nat)) % 4294967296)) (w1.alloc (.cells #[.int .u32 (fw key nonce c 0), .int .u32 (fw key nonce c 1), .int .u32 (fw key nonce c 2), .int .u32 (fw key nonce c 3), .int .u32 (fw key nonce c 4), .int .u32 (fw key nonce c 5), .int .u32 (fw key nonce c 6), .int .u32 (fw key nonce c 7), .int .u32 (fw key nonce c 8), .int .u32 (fw key nonce c 9), .int .u32 (fw key nonce c 10), .int .u32 (fw key nonce c 11), .int .u32 (fw key nonce c 12), .int .u32 (fw key nonce c 13), .int .u32 (fw key nonce c 14), .int .u32 (fw key nonce c 15)] 148))) := by
    have e : (c + (0 : Nat)) % 4294967296 = c := by omega
    rw [e]
    exact wx_new (fw key nonce c) w1
  have hB0 : Hid (Below w.heap.size w (w1.alloc (.cells #[.int .u32 (fw key nonce c 0), .int .u32 (fw key nonce c 1), .int .u32 (fw key nonce c 2), .int .u32 (fw key nonce c 3), .int .u32 (fw key nonce c 4), .int .u32 (fw key nonce c 5), .int .u32 (fw key nonce c 6), .int .u32 (fw key nonce c 7), .int .u32 (fw key nonce c 8), .int .u32 (fw key nonce c 9), .int .u32 (fw key nonce c 10), .int .u32 (fw key nonce c 11), .int .u32 (fw key nonce c 12), .int .u32 (fw key nonce c 13), .int .u32 (fw key nonce c 14), .int .u32 (fw key nonce c 15)] 148))) := hb1.alloc hz1 _
  have hs0 : w1.heap.size < (w1.alloc (.cells #[.int .u32 (fw key nonce c 0), .int .u32 (fw key nonce c 1), .int .u32 (fw key nonce c 2), .int .u32 (fw key nonce c 3), .int .u32 (fw key nonce c 4), .int .u32 (fw key nonce c 5), .int .u32 (fw key nonce c 6), .int .u32 (fw key nonce c 7), .int .u32 (fw key nonce c 8), .int .u32 (fw key nonce c 9), .int .u32 (fw key nonce c 10), .int .u32 (fw key nonce c 11), .int .u32 (fw key nonce c 12), .int .u32 (fw key nonce c 13), .int .u32 (fw key nonce c 14), .int .u32 (fw key nonce c 15)] 148)).heap.size := by simp
  clear hb1
  go_loopw [10] (fun t wr => ∃ k : Nat, 64 * k < n + 64 ∧ t = .string (strTo key nonce c k) ∧ Hid (Wx w1.heap.size (fw key nonce ((c + k) % 4294967296)) wr) ∧ Hid (Below w.heap.size w wr) ∧ w1.heap.size < wr.heap.size) (fun t _ => n + 64 - sizeS t)
  case atStart => exact ⟨0, by omega, rfl, hW0, hB0, hs0⟩
  case round =>
    clear hW0 hB0 hs0
    obtain ⟨k, hk, rfl, hW, hB, hs⟩ := hrel
    have hsz := strTo_size key nonce c k
    have HSZ : Hid ((strTo key nonce c k).size = 64 * k) := hsz
    have hsl : (strTo key nonce c k).size ≤ 400 := by omega
    by_cases hlt : (strTo key nonce c k).size < n
    · have hF1 := hF.later ((Low.of hB.out).mono h1)
      obtain ⟨G, hG⟩ : ∃ G, Hid (G = fw key nonce ((c + k) % 4294967296)) := ⟨_, rfl⟩
      rw [← hG.out] at hW
      have hr := hW.out.range
      have hbs := blockOf_size G
      have HBS : Hid ((blockOf G).size = 64) := hbs
      have hbl : (blockOf G).size ≤ 64 := by omega
      clear hsz hbs
      go_wp2_with (first | (refine wpList_load_mid rfl 148 (.tmp 9) rfl w1.heap.size 0 rfl (arr16 G) _ hr Tryz.underlying148 rfl (by kernel_rfl) ?_; clear hr) | (go_at_call 118; refine (block_all G _ hF1 (by omega)).mono ?_; rintro e w2 ⟨rfl, hb2⟩; have hc2 := (hW.out.later hb2 hs).c 12 (by omega); have hf2 := (hW.out.later hb2 hs).f 12 (by omega); clear hF1))
      go_roundw
      case rel =>
        have hW2 := (hW.out.later hb2 hs).set 12 (by omega) ((G 12 + 1) % 4294967296)
        have hg12 : G 12 = (c + k) % 4294967296 := by rw [hG.out]; rfl
        refine ⟨k + 1, ?_, ?_, ?_, ?_, ?_⟩
        · have := HSZ.out; omega
        · show _ = Value.string (strTo key nonce c k ++ blockOf (fw key nonce ((c + k) % 4294967296)))
          rw [← hG.out]
        · refine hW2.cast ?_
          rw [hg12, hG.out]
          exact fw_next _ _ _ _ _ (by omega)
        · exact (hB.out.trans (hb2.mono (by omega))).setCell (by exact hz1) _
        · have := hb2.size
          simp; omega
      case measure =>
        simp only [sizeS, ByteArray.size_append']
        rw [HBS.out]
        omega
    · have hkn : (n + 63) / 64 = k := by omega
      clear hsz
      go_wp2_with fail
      go_ret
      refine ⟨?_, hB.out⟩
      unfold streamOf
      rw [hkn]
      rfl
/-- How Stream answers. -/
def goodS (key nonce : ByteArray) (n : Int) : Prop := key.size = 32 ∧ nonce.size = 12 ∧ 0 ≤ n ∧ n ≤ 256
end Go.Proofs.YtnjkpghchgjbaaaGreatDoor
namespace Go.Proofs.YtnjkpghchgjbaaaGreatDoor
open Go.RowKit

/-! Streams as lists. -/
def strL (key nonce : ByteArray) (c : Int) (k : Nat) : List UInt8 := (strTo key nonce c k).data.toList
theorem strL_len (key nonce : ByteArray) (c : Int) (k : Nat) : (strL key nonce c k).length = 64 * k := strTo_size key nonce c k
theorem strL_succ (key nonce : ByteArray) (c : Int) (k : Nat) : strL key nonce c (k + 1) = strL key nonce c k ++ (blockOf (fw key nonce ((c + k) % 4294967296))).data.toList := by
  simp [strL, strTo, ByteArray.data_append]
theorem strL_take (key nonce : ByteArray) (c : Int) (k m : Nat) (hm : m ≤ 64 * k) : ∀ d, (strL key nonce c (k + d)).take m = (strL key nonce c k).take m
  | 0 => rfl
  | d + 1 => by
    rw [← Nat.add_assoc, strL_succ, List.take_append_of_le_length (by rw [strL_len]; omega)]
    exact strL_take key nonce c k m hm d
theorem strL_next (key nonce : ByteArray) (c : Int) (k : Nat) : strL key nonce c (k + 1) = strL key nonce c 1 ++ strL key nonce ((c + 1) % 4294967296) k := by
  induction k with
  | zero => simp [strL, strTo]
  | succ k ih =>
    rw [strL_succ, ih, strL_succ key nonce ((c + 1) % 4294967296) k, List.append_assoc]
    have e : (c + ((k + 1 : Nat) : Int)) % 4294967296 = ((c + 1) % 4294967296 + k) % 4294967296 := by omega
    rw [e]
theorem streamOf_list (key nonce : ByteArray) (c : Int) (n : Nat) : (streamOf key nonce c n).data.toList = (strL key nonce c ((n + 63) / 64)).take n := by
  simp [streamOf, strL, ByteArray.data_extract, Array.toList_extract]
theorem streamOf_size (key nonce : ByteArray) (c : Int) (n : Nat) : (streamOf key nonce c n).size = n := by
  have h : (streamOf key nonce c n).data.toList.length = n := by
    rw [streamOf_list, List.length_take, strL_len]; omega
  simpa using h
theorem streamOf_prefix (key nonce : ByteArray) (c : Int) (n m : Nat) (h : m ≤ n) : (streamOf key nonce c n).data.toList.take m = (streamOf key nonce c m).data.toList := by
  rw [streamOf_list, streamOf_list, List.take_take, Nat.min_eq_left h]
  obtain ⟨d, hd⟩ := Nat.le.dest (show (m + 63) / 64 ≤ (n + 63) / 64 by omega)
  rw [← hd]
  exact strL_take _ _ _ _ _ (by omega) d
theorem streamOf_next (key nonce : ByteArray) (c : Int) (n : Nat) (h : 64 ≤ n) : (streamOf key nonce c n).data.toList.drop 64 = (streamOf key nonce ((c + 1) % 4294967296) (n - 64)).data.toList := by
  rw [streamOf_list, streamOf_list]
  obtain ⟨k, hk⟩ : ∃ k, (n + 63) / 64 = k + 1 := ⟨(n + 63) / 64 - 1, by omega⟩
  have hk2 : (n - 64 + 63) / 64 = k := by omega
  rw [hk, hk2, strL_next, List.take_append, List.drop_append]
  have hl := strL_len key nonce c 1
  have e1 : ((strL key nonce c 1).take n).drop 64 = [] := by
    apply List.drop_eq_nil_of_le
    rw [List.length_take, hl]; omega
  rw [e1, List.nil_append, List.length_take, hl]
  have e2 : 64 - min n (64 * 1) = 0 := by omega
  rw [e2, List.drop_zero]

theorem bytes_ext {a b : ByteArray} (h : a.data.toList = b.data.toList) : a = b := by
  cases a; cases b; simpa using h
theorem streamOf_head (key nonce : ByteArray) (c : Int) (n m : Nat) (h : m ≤ n) : (streamOf key nonce c n).extract 0 m = streamOf key nonce c m := by
  apply bytes_ext
  rw [← streamOf_prefix key nonce c n m h]
  simp [ByteArray.data_extract, Array.toList_extract]
theorem streamOf_rest (key nonce : ByteArray) (c : Int) (n : Nat) (h : 64 ≤ n) : (streamOf key nonce c n).extract 64 n = streamOf key nonce ((c + 1) % 4294967296) (n - 64) := by
  apply bytes_ext
  rw [← streamOf_next key nonce c n h]
  have hl : (streamOf key nonce c n).data.toList.length = n := by simpa using streamOf_size key nonce c n
  simp [ByteArray.data_extract, Array.toList_extract]
  rw [List.take_of_length_le (by rw [List.length_drop]; omega)]
end Go.Proofs.YtnjkpghchgjbaaaGreatDoor
namespace Go.Proofs.YtnjkpghchgjbaaaGreatDoor
open Go.RowKit

/-! Sealed texts. -/
def byteN (s : ByteArray) (k : Nat) : UInt8 := s.data[k]?.getD 0
/-- A text with another laid over it, bit by bit. -/
def mixS (text over : ByteArray) : ByteArray := ⟨((List.range text.size).map fun k => byteN text k ^^^ byteN over k).toArray⟩
def maskOf (key nonce text : ByteArray) : ByteArray := mixS text (streamOf (key.extract 0 32) nonce 1 text.size)
def tagI (key nonce path cover : ByteArray) : Int := hashOf (key.extract 32 key.size) (((⟨#[UInt8.ofNat path.size]⟩ ++ path) ++ nonce) ++ cover)
def w64 (x : Int) : ByteArray := wr32 (x % 4294967296) ++ wr32 (x / 4294967296)
def sealOf (key nonce path plain : ByteArray) : ByteArray := maskOf key nonce plain ++ w64 (tagI key nonce path (maskOf key nonce plain))

theorem mixS_size (text over : ByteArray) : (mixS text over).size = text.size := by
  show (((List.range text.size).map _).toArray).size = _
  simp
theorem byteN_mixS (text over : ByteArray) (k : Nat) (h : k < text.size) : byteN (mixS text over) k = byteN text k ^^^ byteN over k := by
  simp [byteN, mixS, h]
theorem ext_byteN {a b : ByteArray} (hs : a.size = b.size) (h : ∀ k, k < a.size → byteN a k = byteN b k) : a = b := by
  apply bytes_ext
  apply List.ext_getElem?
  intro k
  by_cases hk : k < a.size
  · have hk2 : k < b.size := by omega
    have ha : k < a.data.size := hk
    have hb : k < b.data.size := hk2
    have := h k hk
    simp only [byteN, Array.getElem?_eq_getElem ha, Array.getElem?_eq_getElem hb, Option.getD_some] at this
    rw [Array.getElem?_toList, Array.getElem?_toList, Array.getElem?_eq_getElem ha, Array.getElem?_eq_getElem hb, this]
  · have ha : ¬ k < a.data.size := hk
    have hb : ¬ k < b.data.size := by
      show ¬ k < b.size
      omega
    rw [Array.getElem?_toList, Array.getElem?_toList, Array.getElem?_eq_none (by omega), Array.getElem?_eq_none (by omega)]
theorem mixS_back (text over : ByteArray) : mixS (mixS text over) over = text := by
  apply ext_byteN
  · rw [mixS_size, mixS_size]
  · intro k hk
    rw [mixS_size, mixS_size] at hk
    rw [byteN_mixS _ _ _ (by rw [mixS_size]; exact hk), byteN_mixS _ _ _ hk, UInt8.xor_assoc, UInt8.xor_self, UInt8.xor_zero]
theorem maskOf_size (key nonce text : ByteArray) : (maskOf key nonce text).size = text.size := mixS_size _ _
theorem maskOf_back (key nonce text : ByteArray) : maskOf key nonce (maskOf key nonce text) = text := by
  unfold maskOf
  rw [mixS_size]
  exact mixS_back _ _
theorem w64_size (x : Int) : (w64 x).size = 8 := by
  unfold w64; rw [ByteArray.size_append', wr32_size, wr32_size]
theorem sealOf_size (key nonce path plain : ByteArray) : (sealOf key nonce path plain).size = plain.size + 8 := by
  unfold sealOf; rw [ByteArray.size_append', maskOf_size, w64_size]
theorem tagI_bd (key nonce path cover : ByteArray) : In64 (tagI key nonce path cover) := xor64_bd _ _
theorem cover_of (key nonce path plain : ByteArray) : (sealOf key nonce path plain).extract 0 plain.size = maskOf key nonce plain := by
  apply bytes_ext
  have hs : (maskOf key nonce plain).data.toList.length = plain.size := maskOf_size key nonce plain
  simp only [sealOf, ByteArray.data_extract, Array.toList_extract, ByteArray.data_append, Array.toList_append, List.extract_eq_take_drop, List.drop_zero, Nat.sub_zero]
  rw [List.take_append_of_le_length (by omega), List.take_of_length_le (by omega)]

/-! Words written and read. -/
theorem byteAt_N (s : ByteArray) (k : Nat) : byteAt s k = ((byteN s k).toNat : Int) := rfl
theorem byteN_append_right (a b : ByteArray) (k : Nat) : byteN (a ++ b) (a.size + k) = byteN b k := by
  unfold byteN
  rw [ByteArray.data_append, Array.getElem?_append, if_neg (by show ¬ a.size + k < a.size; omega)]
  rw [show a.size + k - a.data.size = k from by show a.size + k - a.size = k; omega]
theorem byteN_append_left (a b : ByteArray) (k : Nat) (h : k < a.size) : byteN (a ++ b) k = byteN a k := by
  unfold byteN
  rw [ByteArray.data_append, Array.getElem?_append, if_pos (by exact h)]
theorem rd32_wr32 (x : Int) (h0 : 0 ≤ x) (h1 : x < 4294967296) : rd32 (wr32 x) 0 = x := by
  have e0 : byteAt (wr32 x) 0 = x % 256 := by
    show (((UInt8.ofNat (x % 256).toNat).toNat : Nat) : Int) = _
    rw [UInt8.toNat_ofNat_of_lt' (by show _ < 256; omega)]; omega
  have e1 : byteAt (wr32 x) 1 = x / 256 % 256 := by
    show (((UInt8.ofNat (x / 256 % 256).toNat).toNat : Nat) : Int) = _
    rw [UInt8.toNat_ofNat_of_lt' (by show _ < 256; omega)]; omega
  have e2 : byteAt (wr32 x) 2 = x / 65536 % 256 := by
    show (((UInt8.ofNat (x / 65536 % 256).toNat).toNat : Nat) : Int) = _
    rw [UInt8.toNat_ofNat_of_lt' (by show _ < 256; omega)]; omega
  have e3 : byteAt (wr32 x) 3 = x / 16777216 % 256 := by
    show (((UInt8.ofNat (x / 16777216 % 256).toNat).toNat : Nat) : Int) = _
    rw [UInt8.toNat_ofNat_of_lt' (by show _ < 256; omega)]; omega
  show byteAt (wr32 x) 0 + 256 * byteAt (wr32 x) 1 + 65536 * byteAt (wr32 x) 2 + 16777216 * byteAt (wr32 x) 3 = x
  rw [e0, e1, e2, e3]; omega
theorem rd32_right (a b : ByteArray) (p : Nat) : rd32 (a ++ b) (a.size + p) = rd32 b p := by
  unfold rd32
  simp only [byteAt_N, Nat.add_assoc, byteN_append_right]
theorem rd32_left (a b : ByteArray) (p : Nat) (h : p + 4 ≤ a.size) : rd32 (a ++ b) p = rd32 a p := by
  unfold rd32
  simp only [byteAt_N]
  rw [byteN_append_left _ _ _ (by omega), byteN_append_left _ _ _ (by omega), byteN_append_left _ _ _ (by omega), byteN_append_left _ _ _ (by omega)]
theorem rd64_w64 (c : ByteArray) (x : Int) (hx : In64 x) : rd64 (c ++ w64 x) c.size = x := by
  have h := hx
  unfold In64 at h
  unfold rd64
  rw [rd32_right c (w64 x) 4, show c.size = c.size + 0 from rfl, rd32_right c (w64 x) 0]
  unfold w64
  rw [rd32_left _ _ 0 (by rw [wr32_size]; omega), rd32_wr32 _ (by omega) (by omega)]
  have e : rd32 (wr32 (x % 4294967296) ++ wr32 (x / 4294967296)) 4 = x / 4294967296 := by
    have := rd32_right (wr32 (x % 4294967296)) (wr32 (x / 4294967296)) 0
    rw [wr32_size] at this
    rw [show (4 : Nat) = 4 + 0 from rfl, this, rd32_wr32 _ (by omega) (by omega)]
  rw [e]
  omega
end Go.Proofs.YtnjkpghchgjbaaaGreatDoor
