import Derived.Test.YtphapknfkbgapabDoorBlock
namespace Go.Proofs.YtphapknfkbgapabDoor
open Go.RowKit

/-- How many bytes a string has. -/
def sizeS : Value → Nat | .string s => s.size | _ => 0
theorem block_all (g : Nat → Int) (w : World) (hF : Fours w) (h1 : 1 ≤ w.heap.size) :
    Calls Tryd.prog 91 #[.agg (arr16 g).toArray] w fun e w' => e = .returned (.string (blockOf g)) ∧ Below w.heap.size w w' := by
  unfold arr16
  exact block_any g w hF h1

theorem fw_next (key nonce : ByteArray) (c x y : Int) (e : y = x) : ∀ k, k < 16 → upd (fw key nonce c) 12 y k = fw key nonce x k := by
  intro k hk
  subst e
  rcases lt16 k hk with rfl | rfl | rfl | rfl | rfl | rfl | rfl | rfl | rfl | rfl | rfl | rfl | rfl | rfl | rfl | rfl
  all_goals rfl

set_option maxRecDepth 100000 in
set_option maxHeartbeats 1000000 in
theorem stream_any (key nonce : ByteArray) (c n : Int) (w : World) (hk : key.size = 32) (hn : nonce.size = 12) (c0 : 0 ≤ c) (c1 : c < 4294967296) (n0 : 0 ≤ n) (n1 : n ≤ 256) (hF : Fours w) (h1 : 1 ≤ w.heap.size) :
    Calls Tryd.prog 85 #[.string key, .string nonce, .int .u32 c, .int .i64 n] w fun e w' => e = .returned (.string (streamOf key nonce c n.toNat)) ∧ Below w.heap.size w w' := by
  obtain ⟨n, rfl⟩ := Int.eq_ofNat_of_zero_le n0
  rw [Int.toNat_natCast]
  have HK : Hid (key.size = 32) := hk
  have HN : Hid (nonce.size = 12) := hn
  clear hk hn
  go_enter Tryd.func85, Tryd.ntmps85
  go_upto_region 3 with (go_at_call 90; refine (firstWords_any _ _ _ _ HK.out HN.out).mono ?_; rintro e w1 ⟨rfl, hb1⟩)
  have hz1 := hb1.size
  have hW0 : Hid (Wx w1.heap.size (fw key nonce ((c + (0 : Nat)) % 4294967296)) (w1.alloc (.cells #[.int .u32 (fw key nonce c 0), .int .u32 (fw key nonce c 1), .int .u32 (fw key nonce c 2), .int .u32 (fw key nonce c 3), .int .u32 (fw key nonce c 4), .int .u32 (fw key nonce c 5), .int .u32 (fw key nonce c 6), .int .u32 (fw key nonce c 7), .int .u32 (fw key nonce c 8), .int .u32 (fw key nonce c 9), .int .u32 (fw key nonce c 10), .int .u32 (fw key nonce c 11), .int .u32 (fw key nonce c 12), .int .u32 (fw key nonce c 13), .int .u32 (fw key nonce c 14), .int .u32 (fw key nonce c 15)] 133))) := by
    have e : (c + (0 : Nat)) % 4294967296 = c := by omega
    rw [e]
    exact wx_new (fw key nonce c) w1
  have hB0 : Hid (Below w.heap.size w (w1.alloc (.cells #[.int .u32 (fw key nonce c 0), .int .u32 (fw key nonce c 1), .int .u32 (fw key nonce c 2), .int .u32 (fw key nonce c 3), .int .u32 (fw key nonce c 4), .int .u32 (fw key nonce c 5), .int .u32 (fw key nonce c 6), .int .u32 (fw key nonce c 7), .int .u32 (fw key nonce c 8), .int .u32 (fw key nonce c 9), .int .u32 (fw key nonce c 10), .int .u32 (fw key nonce c 11), .int .u32 (fw key nonce c 12), .int .u32 (fw key nonce c 13), .int .u32 (fw key nonce c 14), .int .u32 (fw key nonce c 15)] 133))) := hb1.alloc hz1 _
  have hs0 : w1.heap.size < (w1.alloc (.cells #[.int .u32 (fw key nonce c 0), .int .u32 (fw key nonce c 1), .int .u32 (fw key nonce c 2), .int .u32 (fw key nonce c 3), .int .u32 (fw key nonce c 4), .int .u32 (fw key nonce c 5), .int .u32 (fw key nonce c 6), .int .u32 (fw key nonce c 7), .int .u32 (fw key nonce c 8), .int .u32 (fw key nonce c 9), .int .u32 (fw key nonce c 10), .int .u32 (fw key nonce c 11), .int .u32 (fw key nonce c 12), .int .u32 (fw key nonce c 13), .int .u32 (fw key nonce c 14), .int .u32 (fw key nonce c 15)] 133)).heap.size := by simp
  clear hb1
  go_loopw [10] (fun t wr => ∃ k : Nat, 64 * k < n + 64 ∧ t = .string (strTo key nonce c k) ∧ Hid (Wx w1.heap.size (fw key nonce ((c + k) % 4294967296)) wr) ∧ Hid (Below w.heap.size w wr) ∧ w1.heap.size < wr.heap.size) (fun t _ => n + 64 - sizeS t)
  case atStart => exact ⟨0, by omega, rfl, hW0, hB0, hs0⟩
  case round =>
    clear hW0 hB0 hs0
    obtain ⟨k, hk, rfl, hW, hB, hs⟩ := hrel
    have hsz := strTo_size key nonce c k
    have HSZ : Hid ((strTo key nonce c k).size = 64 * k) := hsz
    have hsl : (strTo key nonce c k).size ≤ 400 := by omega
    by_cases hlt : (strTo key nonce c k).size < n
    · have hF1 := hF.later ((Low.of hB.out).mono h1)
      obtain ⟨G, hG⟩ : ∃ G, Hid (G = fw key nonce ((c + k) % 4294967296)) := ⟨_, rfl⟩
      rw [← hG.out] at hW
      have hr := hW.out.range
      have hbs := blockOf_size G
      have HBS : Hid ((blockOf G).size = 64) := hbs
      have hbl : (blockOf G).size ≤ 64 := by omega
      clear hsz hbs
      go_wp2_with (first | (refine wpList_load_mid rfl 133 (.tmp 9) rfl w1.heap.size 0 rfl (arr16 G) _ hr Tryd.underlying133 rfl (by kernel_rfl) ?_; clear hr) | (go_at_call 91; refine (block_all G _ hF1 (by omega)).mono ?_; rintro e w2 ⟨rfl, hb2⟩; have hc2 := (hW.out.later hb2 hs).c 12 (by omega); have hf2 := (hW.out.later hb2 hs).f 12 (by omega); clear hF1))
      go_roundw
      case rel =>
        have hW2 := (hW.out.later hb2 hs).set 12 (by omega) ((G 12 + 1) % 4294967296)
        have hg12 : G 12 = (c + k) % 4294967296 := by rw [hG.out]; rfl
        refine ⟨k + 1, ?_, ?_, ?_, ?_, ?_⟩
        · have := HSZ.out; omega
        · show _ = Value.string (strTo key nonce c k ++ blockOf (fw key nonce ((c + k) % 4294967296)))
          rw [← hG.out]
        · refine hW2.cast ?_
          rw [hg12, hG.out]
          exact fw_next _ _ _ _ _ (by omega)
        · exact (hB.out.trans (hb2.mono (by omega))).setCell (by exact hz1) _
        · have := hb2.size
          simp; omega
      case measure =>
        simp only [sizeS, ByteArray.size_append']
        rw [HBS.out]
        omega
    · have hkn : (n + 63) / 64 = k := by omega
      clear hsz
      go_wp2_with fail
      go_ret
      refine ⟨?_, hB.out⟩
      unfold streamOf
      rw [hkn]
      rfl
/-- How Stream answers. -/
def goodS (key nonce : ByteArray) (n : Int) : Prop := key.size = 32 ∧ nonce.size = 12 ∧ 0 ≤ n ∧ n ≤ 256
end Go.Proofs.YtphapknfkbgapabDoor
