import Derived.Test.YtphapknfkbgapabDoorStirT
import Derived.Test.YtphapknfkbgapabDoorWords
import Derived.Test.YtphapknfkbgapabDoorPad
import Derived.Deep.Cut
namespace Go.Proofs.YtphapknfkbgapabDoor
open Go.RowKit

/-- A block's words lie in block b. -/
structure Wx (b : Nat) (g : Nat → Int) (w : World) : Prop where
  c : ∀ k, k < 16 → w.cell? ⟨b, k, none⟩ = some (.int .u32 (g k))
  f : ∀ k, k < 16 → w.frozen? ⟨b, k, none⟩ = false
theorem Wx.drew {b : Nat} {g : Nat → Int} {w : World} (h : Wx b g w) : Wx b g w.drew := ⟨h.c, h.f⟩
theorem Wx.later {b : Nat} {g : Nat → Int} {w w1 : World} (h : Wx b g w) (k : Below w.heap.size w w1) (hb : b < w.heap.size) : Wx b g w1 :=
  ⟨fun i hi => (k.cell (p := ⟨b, i, none⟩) hb).trans (h.c i hi), fun i hi => (k.frozen (p := ⟨b, i, none⟩) hb).trans (h.f i hi)⟩
theorem Wx.set {b : Nat} {g : Nat → Int} {w : World} (h : Wx b g w) (m : Nat) (hm : m < 16) (x : Int) : Wx b (upd g m x) (w.setCell ⟨b, m, none⟩ (.int .u32 x)) := by
  constructor
  · intro k hk
    by_cases e : k = m
    · subst e
      have hc := h.c k hk
      have he : upd g k x k = x := by simp [upd]
      rw [he]
      go_simp
    · rw [World.cell?_setCell_other w ⟨b, m, none⟩ ⟨b, k, none⟩ _ (by first | (simp; done) | (simp; omega)), h.c k hk]
      simp [upd, e]
  · intro k hk
    have := h.f k hk
    simpa using this
theorem Wx.far {b b' : Nat} {g : Nat → Int} {w : World} (h : Wx b g w) (m : Nat) (v : Value) (hn : b' ≠ b) : Wx b g (w.setCell ⟨b', m, none⟩ v) := by
  constructor
  · intro k hk
    rw [World.cell?_setCell_other w ⟨b', m, none⟩ ⟨b, k, none⟩ _ (by first | (simp; done) | (simp; omega)), h.c k hk]
  · intro k hk
    have := h.f k hk
    simpa using this
theorem Wx.cast {b : Nat} {g g' : Nat → Int} {w : World} (h : Wx b g w) (e : ∀ k, k < 16 → g k = g' k) : Wx b g' w :=
  ⟨fun k hk => by rw [h.c k hk, e k hk], h.f⟩

theorem conv4 (w : World) (a b c d : Nat) (ha : a < 256) (hb : b < 256) (hc : c < 256) (hd : d < 256) :
    (convert 114 9 (.slice (some ⟨w.heap.size, 0, none⟩) 4 4)).run Tryd.prog (w.alloc (.cells #[.int .u8 (a : Int), .int .u8 (b : Int), .int .u8 (c : Int), .int .u8 (d : Int)] 5)) =
      .ok (.string ⟨#[UInt8.ofNat a, UInt8.ofNat b, UInt8.ofNat c, UInt8.ofNat d]⟩) (w.alloc (.cells #[.int .u8 (a : Int), .int .u8 (b : Int), .int .u8 (c : Int), .int .u8 (d : Int)] 5)) := by
  have e := run_convert_bytes_back (P := Tryd.prog) (w.alloc (.cells #[.int .u8 (a : Int), .int .u8 (b : Int), .int .u8 (c : Int), .int .u8 (d : Int)] 5)) 114 9 5 ⟨w.heap.size, 0, none⟩ 4 [UInt8.ofNat a, UInt8.ofNat b, UInt8.ofNat c, UInt8.ofNat d] Tryd.underlying114 Tryd.underlying5 Tryd.underlying9 (fun j hj => by
    have hm1 : a % 256 = a := Nat.mod_eq_of_lt ha
    have hm2 : b % 256 = b := Nat.mod_eq_of_lt hb
    have hm3 : c % 256 = c := Nat.mod_eq_of_lt hc
    have hm4 : d % 256 = d := Nat.mod_eq_of_lt hd
    have hj' : j < 4 := by simpa using hj
    match j, hj' with
    | 0, _ => simp [Addr.add, hm1]
    | 1, _ => simp [Addr.add, hm2]
    | 2, _ => simp [Addr.add, hm3]
    | 3, _ => simp [Addr.add, hm4])
  exact e
theorem conv4i (w : World) (a b c d : Int) (ha : 0 ≤ a ∧ a < 256) (hb : 0 ≤ b ∧ b < 256) (hc : 0 ≤ c ∧ c < 256) (hd : 0 ≤ d ∧ d < 256) :
    (convert 114 9 (.slice (some ⟨w.heap.size, 0, none⟩) 4 4)).run Tryd.prog (w.alloc (.cells #[.int .u8 a, .int .u8 b, .int .u8 c, .int .u8 d] 5)) =
      .ok (.string ⟨#[UInt8.ofNat a.toNat, UInt8.ofNat b.toNat, UInt8.ofNat c.toNat, UInt8.ofNat d.toNat]⟩) (w.alloc (.cells #[.int .u8 a, .int .u8 b, .int .u8 c, .int .u8 d] 5)) := by
  obtain ⟨a, rfl⟩ := Int.eq_ofNat_of_zero_le ha.1
  obtain ⟨b, rfl⟩ := Int.eq_ofNat_of_zero_le hb.1
  obtain ⟨c, rfl⟩ := Int.eq_ofNat_of_zero_le hc.1
  obtain ⟨d, rfl⟩ := Int.eq_ofNat_of_zero_le hd.1
  exact conv4 w a b c d (by omega) (by omega) (by omega) (by omega)

set_option maxHeartbeats 400000 in
theorem write32_any (x : Int) (w : World) (h0 : 0 ≤ x) (h1 : x < 4294967296) :
    Calls Tryd.prog 95 #[.int .u32 x] w fun e w' => e = .returned (.string (wr32 x)) ∧ Below w.heap.size w w' := by
  have hcv := conv4i w (x % 256) (x / 256 % 256) (x / 65536 % 256) (x / 16777216) (by omega) (by omega) (by omega) (by omega)
  have ex : Hid (x / 16777216 % 256 = x / 16777216) := by show _ = _; omega
  go_enter Tryd.func95, Tryd.ntmps95
  go_wp2
  go_ret
  refine ⟨?_, (Below.refl _ _).alloc (Nat.le_refl _) _⟩
  unfold wr32
  rw [ex.out]
  rfl
theorem lt16 (k : Nat) (h : k < 16) : k = 0 ∨ k = 1 ∨ k = 2 ∨ k = 3 ∨ k = 4 ∨ k = 5 ∨ k = 6 ∨ k = 7 ∨ k = 8 ∨ k = 9 ∨ k = 10 ∨ k = 11 ∨ k = 12 ∨ k = 13 ∨ k = 14 ∨ k = 15 := by omega
/-- The words after i words of the key. -/
def base4 : Nat → Int := fun k =>
  match k with
  | 0 => 1634760805
  | 1 => 857760878
  | 2 => 2036477234
  | 3 => 1797285236
  | _ => 0
def keyTo (s : ByteArray) (o : Nat) : Nat → (Nat → Int) → (Nat → Int)
  | 0, g => g
  | i + 1, g => upd (keyTo s o i g) (o + i) (rd32 s (4 * i))
theorem fw_of (key nonce : ByteArray) (c : Int) : ∀ k, k < 16 → keyTo nonce 13 3 (upd (keyTo key 4 8 base4) 12 c) k = fw key nonce c k := by
  intro k hk
  rcases lt16 k hk with rfl | rfl | rfl | rfl | rfl | rfl | rfl | rfl | rfl | rfl | rfl | rfl | rfl | rfl | rfl | rfl
  all_goals rfl

set_option maxRecDepth 100000 in
set_option maxHeartbeats 1000000 in
theorem firstWords_any (key nonce : ByteArray) (c : Int) (w : World) (hk : key.size = 32) (hn : nonce.size = 12) :
    Calls Tryd.prog 90 #[.string key, .string nonce, .int .u32 c] w fun e w' => e = .returned (.agg #[.int .u32 (fw key nonce c 0), .int .u32 (fw key nonce c 1), .int .u32 (fw key nonce c 2), .int .u32 (fw key nonce c 3), .int .u32 (fw key nonce c 4), .int .u32 (fw key nonce c 5), .int .u32 (fw key nonce c 6), .int .u32 (fw key nonce c 7), .int .u32 (fw key nonce c 8), .int .u32 (fw key nonce c 9), .int .u32 (fw key nonce c 10), .int .u32 (fw key nonce c 11), .int .u32 (fw key nonce c 12), .int .u32 (fw key nonce c 13), .int .u32 (fw key nonce c 14), .int .u32 (fw key nonce c 15)]) ∧ Below w.heap.size w w' := by
  have HK : Hid (key.size = 32) := hk
  have HN : Hid (nonce.size = 12) := hn
  clear hk hn
  go_enter Tryd.func90, Tryd.ntmps90
  go_wp2
  go_loopw [8] (fun i wr => ∃ j : Nat, j ≤ 8 ∧ i = .int .i64 j ∧ Hid (Wx (w.heap.size + 1) (keyTo key 4 j base4) wr) ∧ Hid (Below w.heap.size w wr) ∧ Hid (Wx w.heap.size (fun _ => 0) wr) ∧ w.heap.size + 1 < wr.heap.size) (fun i _ => 8 - (intOf i).toNat)
  case atStart =>
    refine ⟨0, by omega, rfl, ?_, ?_, ?_, ?_⟩
    · refine ⟨fun k hk => ?_, fun k hk => ?_⟩
      · rcases lt16 k hk with rfl | rfl | rfl | rfl | rfl | rfl | rfl | rfl | rfl | rfl | rfl | rfl | rfl | rfl | rfl | rfl
        all_goals (go_simp; rfl)
      · go_simp
    · exact ((Below.refl _ _).alloc (Nat.le_refl _) _).alloc (by simp) _
    · refine ⟨fun k hk => ?_, fun k hk => ?_⟩
      · rcases lt16 k hk with rfl | rfl | rfl | rfl | rfl | rfl | rfl | rfl | rfl | rfl | rfl | rfl | rfl | rfl | rfl | rfl
        all_goals go_simp
      · go_simp
    · simp
  case round =>
    obtain ⟨j, hj, rfl, hW, hB, hZ, hs⟩ := hrel
    by_cases hlt : j < 8
    · have hc1 := hW.out.c (4 + j) (by omega)
      have hf1 := hW.out.f (4 + j) (by omega)
      go_wp2_with (go_at_call 83; refine (read32_any _ _ _ (by rw [HK.out]; omega) (by omega) (by rw [HK.out]; omega)).mono ?_; rintro e w1 ⟨rfl, rfl⟩)
      go_roundw
      case rel => exact ⟨j + 1, by omega, by go_num, hW.out.set (4 + j) (by omega) _, hB.out.setCell (by exact Nat.le_succ _) _, hZ.out.far _ _ (by omega), by simpa using hs⟩
      case measure => simp [intOf]; omega
    · have h8 : Hid (j = 8) := by (show _ = _; omega)
      obtain ⟨G, hG⟩ : ∃ G, Hid (G = keyTo key 4 j base4) := ⟨_, rfl⟩
      rw [← hG.out] at hW
      rw [h8.out] at hG
      have hc1 := hW.out.c 12 (by omega)
      have hf1 := hW.out.f 12 (by omega)
      go_upto_region 8 with fail
      have hW2 : Hid (Wx (w.heap.size + 1) (upd G 12 c) (wr.setCell ⟨w.heap.size + 1, 12, none⟩ (.int .u32 c))) := hW.out.set 12 (by omega) _
      have hB2 : Hid (Below w.heap.size w (wr.setCell ⟨w.heap.size + 1, 12, none⟩ (.int .u32 c))) := hB.out.setCell (by exact Nat.le_succ _) _
      have hZ2 : Hid (Wx w.heap.size (fun _ => 0) (wr.setCell ⟨w.heap.size + 1, 12, none⟩ (.int .u32 c))) := hZ.out.far _ _ (by omega)
      have hs2 : w.heap.size + 1 < (wr.setCell ⟨w.heap.size + 1, 12, none⟩ (.int .u32 c)).heap.size := by simpa using hs
      clear hW hB hZ hc1 hf1 hj
      go_loopw [9] (fun i wx => ∃ j : Nat, j ≤ 3 ∧ i = .int .i64 j ∧ Hid (Wx (w.heap.size + 1) (keyTo nonce 13 j (upd G 12 c)) wx) ∧ Hid (Below w.heap.size w wx) ∧ Hid (Wx w.heap.size (fun _ => 0) wx) ∧ w.heap.size + 1 < wx.heap.size) (fun i _ => 3 - (intOf i).toNat)
      case atStart => exact ⟨0, by omega, rfl, hW2, hB2, hZ2, hs2⟩
      case round =>
        clear hW2 hB2 hZ2 hs2
        obtain ⟨i, hi, rfl, hW, hB, hZ, hs⟩ := hrel
        by_cases hlt2 : i < 3
        · have hc1 := hW.out.c (13 + i) (by omega)
          have hf1 := hW.out.f (13 + i) (by omega)
          go_wp2_with (go_at_call 83; refine (read32_any _ _ _ (by rw [HN.out]; omega) (by omega) (by rw [HN.out]; omega)).mono ?_; rintro e w1 ⟨rfl, rfl⟩)
          go_roundw
          case rel => exact ⟨i + 1, by omega, by go_num, hW.out.set (13 + i) (by omega) _, hB.out.setCell (by exact Nat.le_succ _) _, hZ.out.far _ _ (by omega), by simpa using hs⟩
          case measure => simp [intOf]; omega
        · have h3 : i = 3 := by omega
          rw [h3] at hW
          have hW3 : Wx (w.heap.size + 1) (fw key nonce c) wr := by
            rw [hG.out] at hW
            exact hW.out.cast (fw_of key nonce c)
          obtain ⟨F, hF⟩ : ∃ F, Hid (F = fw key nonce c) := ⟨_, rfl⟩
          rw [← hF.out] at hW3
          clear h3
          have hc1 := hW3.c
          have hc2 := hZ.out.c
          have hf2 := hZ.out.f
          clear hW hW3
          go_wp2_with fail
          refine bodyPost_ret (v := .agg #[.int .u32 (F 0), .int .u32 (F 1), .int .u32 (F 2), .int .u32 (F 3), .int .u32 (F 4), .int .u32 (F 5), .int .u32 (F 6), .int .u32 (F 7), .int .u32 (F 8), .int .u32 (F 9), .int .u32 (F 10), .int .u32 (F 11), .int .u32 (F 12), .int .u32 (F 13), .int .u32 (F 14), .int .u32 (F 15)]) (by simp [results, Tryd.results90, go_sem, hc2]) rfl ⟨by rw [hF.out], ?_⟩
          repeat (refine Below.setCell ?_ (by exact Nat.le_refl _) _)
          exact hB.out
end Go.Proofs.YtphapknfkbgapabDoor
