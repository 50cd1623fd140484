import Derived.Test.YtphapknfkbgapaaDoorBlockR
namespace Go.Proofs.YtphapknfkbgapaaDoor
open Go.RowKit

set_option maxRecDepth 100000 in
set_option maxHeartbeats 1000000 in
theorem StreamR_yes (key nonce : ByteArray) (c n : Int) (w : World) (c0 : 0 ≤ c) (c1 : c < 4294967296) (hg : goodS key nonce n) :
    Calls Tryd.prog 11 #[.string key, .string nonce, .int .u32 c, .int .i64 n] w fun e w' => e = .returned (.tuple #[.string (streamOf key nonce c n.toNat), .int .i64 0]) ∧ Below w.heap.size w w' := by
  obtain ⟨hk, hn, n0, n1⟩ := hg
  obtain ⟨n, rfl⟩ := Int.eq_ofNat_of_zero_le n0
  rw [Int.toNat_natCast]
  have q1 : ((key.size : Int) != 32) = false := by rw [bne_eq_false_iff_eq]; omega
  have q2 : ((nonce.size : Int) != 12) = false := by rw [bne_eq_false_iff_eq]; omega
  have q3 : decide ((n : Int) < 0) = false := by simp
  have q4 : decide ((256 : Int) < (n : Int)) = false := by simp; omega
  have HK : Hid (key.size = 32) := hk
  have HN : Hid (nonce.size = 12) := hn
  clear hk hn
  go_enter Tryd.func11, Tryd.ntmps11
  go_upto_region 5 with fail
  go_loopw [10, 11, 12] (fun s t _ wr => ∃ (k : Nat) (d : Int), 64 * k < n + 64 ∧ s = .string (strTo key nonce c k) ∧ t = .int .i64 d ∧ Hid (d = (c + k) % 4294967296) ∧ 0 ≤ d ∧ d < 4294967296 ∧ Hid (Below w.heap.size w wr)) (fun s _ _ _ => n + 64 - sizeS s)
  case atStart => exact ⟨0, c, by omega, rfl, rfl, (by show _ = _; omega), c0, c1, Below.refl _ _⟩
  case round =>
    obtain ⟨k, d, hk, rfl, rfl, hd, d0, d1, hB⟩ := hrel
    have hsz := strTo_size key nonce c k
    have HSZ : Hid ((strTo key nonce c k).size = 64 * k) := hsz
    have hsl : (strTo key nonce c k).size ≤ 400 := by omega
    by_cases hlt : (strTo key nonce c k).size < n
    · have hbs := blockOf_size (fw key nonce d)
      have HBS : Hid ((blockOf (fw key nonce d)).size = 64) := hbs
      have hbl : (blockOf (fw key nonce d)).size ≤ 64 := by omega
      clear hsz hbs
      go_wp2_with (go_at_call 31; refine (blockR_any _ _ _ _ HK.out HN.out d0 d1).mono ?_; rintro e w2 ⟨rfl, hb2⟩)
      go_roundw
      case rel =>
        refine ⟨k + 1, (d + 1) % 4294967296, ?_, ?_, rfl, ?_, by omega, by omega, ?_⟩
        · have := HSZ.out; omega
        · show _ = Value.string (strTo key nonce c k ++ blockOf (fw key nonce ((c + k) % 4294967296)))
          rw [← hd.out]
        · show _ = _
          rw [hd.out]; omega
        · exact hB.out.trans (hb2.mono hB.out.size)
      case measure =>
        simp only [sizeS, ByteArray.size_append']
        rw [HBS.out]
        omega
    · have hkn : (n + 63) / 64 = k := by omega
      clear hsz
      go_wp2_with fail
      go_ret2
      refine ⟨?_, hB.out⟩
      unfold streamOf
      rw [hkn]
      rfl
set_option maxHeartbeats 400000 in
theorem StreamR_no (key nonce : ByteArray) (c n : Int) (w : World) (hg : ¬ goodS key nonce n) :
    Calls Tryd.prog 11 #[.string key, .string nonce, .int .u32 c, .int .i64 n] w fun e w' => e = .returned (.tuple #[.string ⟨#[]⟩, .int .i64 2]) ∧ Below w.heap.size w w' := by
  unfold goodS at hg
  by_cases hk : key.size = 32
  · have q1 : ((key.size : Int) != 32) = false := by rw [bne_eq_false_iff_eq]; omega
    by_cases hn : nonce.size = 12
    · have q2 : ((nonce.size : Int) != 12) = false := by rw [bne_eq_false_iff_eq]; omega
      by_cases n0 : 0 ≤ n
      · have q3 : decide (n < 0) = false := by simp; omega
        have q4 : decide (256 < n) = true := by simp; omega
        clear hk hn hg
        go_enter Tryd.func11, Tryd.ntmps11
        go_wp2_with fail
        go_ret2
        exact ⟨rfl, Below.refl _ _⟩
      · have q3 : decide (n < 0) = true := by simp; omega
        clear hk hn hg
        go_enter Tryd.func11, Tryd.ntmps11
        go_wp2_with fail
        go_ret2
        exact ⟨rfl, Below.refl _ _⟩
    · have q2 : ((nonce.size : Int) != 12) = true := by rw [bne_iff_ne]; omega
      clear hk hn hg
      go_enter Tryd.func11, Tryd.ntmps11
      go_wp2_with fail
      go_ret2
      exact ⟨rfl, Below.refl _ _⟩
  · have q1 : ((key.size : Int) != 32) = true := by rw [bne_iff_ne]; omega
    clear hk hg
    go_enter Tryd.func11, Tryd.ntmps11
    go_wp2_with fail
    go_ret2
    exact ⟨rfl, Below.refl _ _⟩

set_option maxHeartbeats 400000 in
theorem streams_walk (key nonce : ByteArray) (c n : Int) (w : World) (c0 : 0 ≤ c) (c1 : c < 4294967296) (hF : Fours w) (h1 : 1 ≤ w.heap.size) :
    Calls Tryd.prog 3 #[.string key, .string nonce, .int .u32 c, .int .i64 n] w fun e w' => e = .returned (.bool true) ∧ Below w.heap.size w w' := by
  have HF : Hid (Fours w) := hF
  clear hF
  by_cases hg : goodS key nonce n
  · obtain ⟨A, hA⟩ : ∃ A, Hid (A = streamOf key nonce c n.toNat) := ⟨_, rfl⟩
    go_enter Tryd.func3, Tryd.ntmps3
    go_wp2_with (first | (go_at_call 10; refine (Stream_yes _ _ _ _ _ c0 c1 hg HF.out h1).mono ?_; rw [← hA.out]; rintro e y1 ⟨rfl, hb1⟩) | (go_at_call 11; refine (StreamR_yes _ _ _ _ _ c0 c1 hg).mono ?_; rw [← hA.out]; rintro e y2 ⟨rfl, hb2⟩))
    go_ret
    exact ⟨by simp, hb1.trans (hb2.mono hb1.size)⟩
  · go_enter Tryd.func3, Tryd.ntmps3
    go_wp2_with (first | (go_at_call 10; refine (Stream_no _ _ _ _ _ hg).mono ?_; rintro e y1 ⟨rfl, hb1⟩) | (go_at_call 11; refine (StreamR_no _ _ _ _ _ hg).mono ?_; rintro e y2 ⟨rfl, hb2⟩))
    go_ret
    exact ⟨by simp, hb1.trans (hb2.mono hb1.size)⟩
end Go.Proofs.YtphapknfkbgapaaDoor
