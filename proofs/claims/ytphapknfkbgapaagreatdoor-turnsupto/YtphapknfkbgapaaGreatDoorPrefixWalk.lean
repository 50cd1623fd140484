import Derived.Test.YtphapknfkbgapaaGreatDoorStream
import Derived.Deep.Cut
namespace Go.Proofs.YtphapknfkbgapaaGreatDoor
open Go.RowKit

/-! Streams as lists. -/
def strL (key nonce : ByteArray) (c : Int) (k : Nat) : List UInt8 := (strTo key nonce c k).data.toList
theorem strL_len (key nonce : ByteArray) (c : Int) (k : Nat) : (strL key nonce c k).length = 64 * k := strTo_size key nonce c k
theorem strL_succ (key nonce : ByteArray) (c : Int) (k : Nat) : strL key nonce c (k + 1) = strL key nonce c k ++ (blockOf (fw key nonce ((c + k) % 4294967296))).data.toList := by
  simp [strL, strTo, ByteArray.data_append]
theorem strL_take (key nonce : ByteArray) (c : Int) (k m : Nat) (hm : m ≤ 64 * k) : ∀ d, (strL key nonce c (k + d)).take m = (strL key nonce c k).take m
  | 0 => rfl
  | d + 1 => by
    rw [← Nat.add_assoc, strL_succ, List.take_append_of_le_length (by rw [strL_len]; omega)]
    exact strL_take key nonce c k m hm d
theorem strL_next (key nonce : ByteArray) (c : Int) (k : Nat) : strL key nonce c (k + 1) = strL key nonce c 1 ++ strL key nonce ((c + 1) % 4294967296) k := by
  induction k with
  | zero => simp [strL, strTo]
  | succ k ih =>
    rw [strL_succ, ih, strL_succ key nonce ((c + 1) % 4294967296) k, List.append_assoc]
    have e : (c + ((k + 1 : Nat) : Int)) % 4294967296 = ((c + 1) % 4294967296 + k) % 4294967296 := by omega
    rw [e]
theorem streamOf_list (key nonce : ByteArray) (c : Int) (n : Nat) : (streamOf key nonce c n).data.toList = (strL key nonce c ((n + 63) / 64)).take n := by
  simp [streamOf, strL, ByteArray.data_extract, Array.toList_extract]
theorem streamOf_size (key nonce : ByteArray) (c : Int) (n : Nat) : (streamOf key nonce c n).size = n := by
  have h : (streamOf key nonce c n).data.toList.length = n := by
    rw [streamOf_list, List.length_take, strL_len]; omega
  simpa using h
theorem streamOf_prefix (key nonce : ByteArray) (c : Int) (n m : Nat) (h : m ≤ n) : (streamOf key nonce c n).data.toList.take m = (streamOf key nonce c m).data.toList := by
  rw [streamOf_list, streamOf_list, List.take_take, Nat.min_eq_left h]
  obtain ⟨d, hd⟩ := Nat.le.dest (show (m + 63) / 64 ≤ (n + 63) / 64 by omega)
  rw [← hd]
  exact strL_take _ _ _ _ _ (by omega) d
theorem streamOf_next (key nonce : ByteArray) (c : Int) (n : Nat) (h : 64 ≤ n) : (streamOf key nonce c n).data.toList.drop 64 = (streamOf key nonce ((c + 1) % 4294967296) (n - 64)).data.toList := by
  rw [streamOf_list, streamOf_list]
  obtain ⟨k, hk⟩ : ∃ k, (n + 63) / 64 = k + 1 := ⟨(n + 63) / 64 - 1, by omega⟩
  have hk2 : (n - 64 + 63) / 64 = k := by omega
  rw [hk, hk2, strL_next, List.take_append, List.drop_append]
  have hl := strL_len key nonce c 1
  have e1 : ((strL key nonce c 1).take n).drop 64 = [] := by
    apply List.drop_eq_nil_of_le
    rw [List.length_take, hl]; omega
  rw [e1, List.nil_append, List.length_take, hl]
  have e2 : 64 - min n (64 * 1) = 0 := by omega
  rw [e2, List.drop_zero]

theorem bytes_ext {a b : ByteArray} (h : a.data.toList = b.data.toList) : a = b := by
  cases a; cases b; simpa using h
theorem streamOf_head (key nonce : ByteArray) (c : Int) (n m : Nat) (h : m ≤ n) : (streamOf key nonce c n).extract 0 m = streamOf key nonce c m := by
  apply bytes_ext
  rw [← streamOf_prefix key nonce c n m h]
  simp [ByteArray.data_extract, Array.toList_extract]
theorem streamOf_rest (key nonce : ByteArray) (c : Int) (n : Nat) (h : 64 ≤ n) : (streamOf key nonce c n).extract 64 n = streamOf key nonce ((c + 1) % 4294967296) (n - 64) := by
  apply bytes_ext
  rw [← streamOf_next key nonce c n h]
  have hl : (streamOf key nonce c n).data.toList.length = n := by simpa using streamOf_size key nonce c n
  simp [ByteArray.data_extract, Array.toList_extract]
  rw [List.take_of_length_le (by rw [List.length_drop]; omega)]
end Go.Proofs.YtphapknfkbgapaaGreatDoor
