import Derived.Test.YtphapknfkbgapabDoorStream
import Derived.Deep.Cut
namespace Go.Proofs.YtphapknfkbgapabDoor
open Go.RowKit

/-! Streams as lists. -/
def strL (key nonce : ByteArray) (c : Int) (k : Nat) : List UInt8 := (strTo key nonce c k).data.toList
theorem strL_len (key nonce : ByteArray) (c : Int) (k : Nat) : (strL key nonce c k).length = 64 * k := strTo_size key nonce c k
theorem strL_succ (key nonce : ByteArray) (c : Int) (k : Nat) : strL key nonce c (k + 1) = strL key nonce c k ++ (blockOf (fw key nonce ((c + k) % 4294967296))).data.toList := by
  simp [strL, strTo, ByteArray.data_append]
theorem strL_take (key nonce : ByteArray) (c : Int) (k m : Nat) (hm : m ≤ 64 * k) : ∀ d, (strL key nonce c (k + d)).take m = (strL key nonce c k).take m
  | 0 => rfl
  | d + 1 => by
    rw [← Nat.add_assoc, strL_succ, List.take_append_of_le_length (by rw [strL_len]; omega)]
    exact strL_take key nonce c k m hm d
theorem strL_next (key nonce : ByteArray) (c : Int) (k : Nat) : strL key nonce c (k + 1) = strL key nonce c 1 ++ strL key nonce ((c + 1) % 4294967296) k := by
  induction k with
  | zero => simp [strL, strTo]
  | succ k ih =>
    rw [strL_succ, ih, strL_succ key nonce ((c + 1) % 4294967296) k, List.append_assoc]
    have e : (c + ((k + 1 : Nat) : Int)) % 4294967296 = ((c + 1) % 4294967296 + k) % 4294967296 := by omega
    rw [e]
theorem streamOf_list (key nonce : ByteArray) (c : Int) (n : Nat) : (streamOf key nonce c n).data.toList = (strL key nonce c ((n + 63) / 64)).take n := by
  simp [streamOf, strL, ByteArray.data_extract, Array.toList_extract]
theorem streamOf_size (key nonce : ByteArray) (c : Int) (n : Nat) : (streamOf key nonce c n).size = n := by
  have h : (streamOf key nonce c n).data.toList.length = n := by
    rw [streamOf_list, List.length_take, strL_len]; omega
  simpa using h
theorem streamOf_prefix (key nonce : ByteArray) (c : Int) (n m : Nat) (h : m ≤ n) : (streamOf key nonce c n).data.toList.take m = (streamOf key nonce c m).data.toList := by
  rw [streamOf_list, streamOf_list, List.take_take, Nat.min_eq_left h]
  obtain ⟨d, hd⟩ := Nat.le.dest (show (m + 63) / 64 ≤ (n + 63) / 64 by omega)
  rw [← hd]
  exact strL_take _ _ _ _ _ (by omega) d
theorem streamOf_next (key nonce : ByteArray) (c : Int) (n : Nat) (h : 64 ≤ n) : (streamOf key nonce c n).data.toList.drop 64 = (streamOf key nonce ((c + 1) % 4294967296) (n - 64)).data.toList := by
  rw [streamOf_list, streamOf_list]
  obtain ⟨k, hk⟩ : ∃ k, (n + 63) / 64 = k + 1 := ⟨(n + 63) / 64 - 1, by omega⟩
  have hk2 : (n - 64 + 63) / 64 = k := by omega
  rw [hk, hk2, strL_next, List.take_append, List.drop_append]
  have hl := strL_len key nonce c 1
  have e1 : ((strL key nonce c 1).take n).drop 64 = [] := by
    apply List.drop_eq_nil_of_le
    rw [List.length_take, hl]; omega
  rw [e1, List.nil_append, List.length_take, hl]
  have e2 : 64 - min n (64 * 1) = 0 := by omega
  rw [e2, List.drop_zero]

theorem bytes_ext {a b : ByteArray} (h : a.data.toList = b.data.toList) : a = b := by
  cases a; cases b; simpa using h
theorem streamOf_head (key nonce : ByteArray) (c : Int) (n m : Nat) (h : m ≤ n) : (streamOf key nonce c n).extract 0 m = streamOf key nonce c m := by
  apply bytes_ext
  rw [← streamOf_prefix key nonce c n m h]
  simp [ByteArray.data_extract, Array.toList_extract]
theorem streamOf_rest (key nonce : ByteArray) (c : Int) (n : Nat) (h : 64 ≤ n) : (streamOf key nonce c n).extract 64 n = streamOf key nonce ((c + 1) % 4294967296) (n - 64) := by
  apply bytes_ext
  rw [← streamOf_next key nonce c n h]
  have hl : (streamOf key nonce c n).data.toList.length = n := by simpa using streamOf_size key nonce c n
  simp [ByteArray.data_extract, Array.toList_extract]
  rw [List.take_of_length_le (by rw [List.length_drop]; omega)]
theorem cut_any (s : ByteArray) (n : Int) (w : World) (n0 : 0 ≤ n) :
    Calls Tryd.prog 34 #[.string s, .int .i64 n] w fun e w' => ∃ s' : ByteArray, e = .returned (.string s') ∧ s'.size = min s.size n.toNat ∧ w' = w := by
  obtain ⟨n, rfl⟩ := Int.eq_ofNat_of_zero_le n0
  rw [Int.toNat_natCast]
  by_cases h : n < s.size
  · go_enter Tryd.func34, Tryd.ntmps34
    go_wp2
    go_ret
    refine ⟨_, rfl, ?_, rfl⟩
    rw [ByteArray.size_extract]
    omega
  · go_enter Tryd.func34, Tryd.ntmps34
    go_wp2
    go_ret
    exact ⟨_, rfl, by omega, rfl⟩
theorem keyOf_any (s : ByteArray) (w : World) :
    Calls Tryd.prog 30 #[.string s] w fun e w' => ∃ s' : ByteArray, e = .returned (.string s') ∧ s'.size = 48 ∧ w' = w := by
  go_enter Tryd.func30, Tryd.ntmps30
  go_wp2_with (go_at_call 34; refine (cut_any _ _ _ (by omega)).mono ?_; rintro e w1 ⟨s1, rfl, hs1, rfl⟩)
  have hs2 : s1.size ≤ 48 := by omega
  clear hs1
  go_loop [0] (fun t => ∃ x : ByteArray, t = .string x ∧ x.size ≤ 48) (fun t => 48 - sizeS t)
  case atStart => exact ⟨s1, rfl, hs2⟩
  case round =>
    obtain ⟨x, rfl, hx⟩ := hrel
    by_cases hlt : x.size < 48
    · go_wp2_with fail
      go_round
      case rel => exact ⟨_, rfl, by simp only [ByteArray.size_append']; show x.size + 1 ≤ 48; omega⟩
      case measure =>
        simp only [sizeS, ByteArray.size_append']
        show 48 - (x.size + 1) < 48 - x.size
        omega
    · go_wp2_with fail
      go_ret
      exact ⟨x, rfl, by omega, rfl⟩
theorem pick_any (c n : Int) (w : World) (n0 : 0 < n) (n1 : n < 1000) (c0 : -9223372036854775808 ≤ c) (c1 : c ≤ 9223372036854775807) :
    Calls Tryd.prog 17 #[.int .i64 c, .int .i64 n] w fun e w' => ∃ r : Int, e = .returned (.int .i64 r) ∧ 0 ≤ r ∧ r < n ∧ w' = w := by
  by_cases h : c < 0
  · go_enter Tryd.func17, Tryd.ntmps17
    go_wp2
    go_ret
    refine ⟨_, rfl, ?_, ?_, rfl⟩
    · rw [← Int.neg_tmod, Int.tmod_eq_emod_of_nonneg (by omega)]; exact Int.emod_nonneg _ (by omega)
    · rw [← Int.neg_tmod, Int.tmod_eq_emod_of_nonneg (by omega)]; exact Int.emod_lt_of_pos _ n0
  · go_enter Tryd.func17, Tryd.ntmps17
    go_wp2
    go_ret
    exact ⟨_, rfl, Int.emod_nonneg _ (by omega), Int.emod_lt_of_pos _ n0, rfl⟩

end Go.Proofs.YtphapknfkbgapabDoor
