import Derived.Test.YtphapknfkbgapabDoorPlainT
import Derived.Test.YtphapknfkbgapabDoorHashed
import Derived.BigRegion
namespace Go.Proofs.YtphapknfkbgapabDoor
open Go.RowKit

/-- n bytes lie in block g. -/
structure Yx (g n : Nat) (f : Nat → Int) (w : World) : Prop where
  c : ∀ k, k < n → w.cell? ⟨g, k, none⟩ = some (.int .u8 (f k))
  f : ∀ k, k < n → w.frozen? ⟨g, k, none⟩ = false
theorem Yx.set {g n : Nat} {f : Nat → Int} {w : World} (h : Yx g n f w) (m : Nat) (x : Int) : Yx g n (upd f m x) (w.setCell ⟨g, m, none⟩ (.int .u8 x)).drew := by
  constructor
  · intro k hk
    show (w.setCell ⟨g, m, none⟩ (.int .u8 x)).cell? ⟨g, k, none⟩ = _
    by_cases e : k = m
    · subst e
      have hc := h.c k hk
      have he : upd f k x k = x := by simp [upd]
      rw [he]
      go_simp
    · rw [World.cell?_setCell_other w ⟨g, m, none⟩ ⟨g, k, none⟩ _ (by first | (simp; done) | (simp; omega)), h.c k hk]
      simp [upd, e]
  · intro k hk
    have := h.f k hk
    simpa using this
def mixTo (text over : ByteArray) : Nat → (Nat → Int)
  | 0 => fun _ => 0
  | i + 1 => upd (mixTo text over i) i (((byteN text i ^^^ byteN over i).toNat : Nat) : Int)
theorem mixTo_at (text over : ByteArray) : ∀ (n k : Nat), k < n → mixTo text over n k = (((byteN text k ^^^ byteN over k).toNat : Nat) : Int)
  | 0, _, h => absurd h (Nat.not_lt_zero _)
  | n + 1, k, h => by
    show upd (mixTo text over n) n _ k = _
    by_cases e : k = n
    · subst e; simp [upd]
    · simp only [upd, if_neg e]; exact mixTo_at text over n k (by omega)
theorem xor8 (a b : UInt8) : bits .xor .u8 (a.toNat : Int) (b.toNat : Int) = (((a ^^^ b).toNat : Nat) : Int) := by
  rw [u8_xor_nat _ _ (UInt8.toNat_lt a) (UInt8.toNat_lt b), UInt8.toNat_xor]
theorem get_byteN (s : ByteArray) (k : Nat) (h : k < s.size) : s[k] = byteN s k := by
  have hk : k < s.data.size := h
  unfold byteN
  rw [Array.getElem?_eq_getElem hk]
  rfl
theorem yx_made (w : World) (n : Nat) : Yx w.heap.size n (fun _ => 0) (w.alloc (.cells (madeCells #[.int .u8 0] n) 5)) := by
  constructor
  · intro k hk
    rw [World.cell?_alloc_mark]
    have : (madeCells #[Value.int .u8 0] n).toList = List.replicate n (.int .u8 0) := toList_madeCells_one _ _
    rw [← Array.getElem?_toList, this]
    simp [hk]
  · intro k hk
    go_simp
theorem yx_conv {g n : Nat} {w : World} {text over : ByteArray} (hn : text.size = n) (h : Yx g n (mixTo text over n) w) :
    (convert 114 9 (.slice (some ⟨g, 0, none⟩) n n)).run Tryd.prog w = .ok (.string (mixS text over)) w := by
  have hl : (mixS text over).data.toList.length = n := by rw [← hn]; exact mixS_size text over
  have e := run_convert_bytes_back (P := Tryd.prog) w 114 9 5 ⟨g, 0, none⟩ n (mixS text over).data.toList Tryd.underlying114 Tryd.underlying5 Tryd.underlying9 (fun j hj => by
    rw [Addr.add_mid, Nat.zero_add, h.c j (by omega), mixTo_at text over n j (by omega), ← byteN_mixS text over j (by omega)]
    have hj' : j < (mixS text over).data.size := by simpa using hj
    simp [byteN, Array.getElem?_eq_getElem hj'])
  rw [hl] at e
  exact e

set_option maxRecDepth 100000 in
set_option maxHeartbeats 1000000 in
theorem mask_any (key nonce text : ByteArray) (w : World) (hk : key.size = 48) (hn : nonce.size = 12) (ht : text.size ≤ 64) (hF : Fours w) (h1 : 1 ≤ w.heap.size) :
    Calls Tryd.prog 74 #[.string key, .string nonce, .string text] w fun e w' => e = .returned (.string (maskOf key nonce text)) ∧ Below w.heap.size w w' := by
  obtain ⟨i0, hi, hz0, hz1, hz2⟩ := info_parts info5
  have HF : Hid (Fours w) := hF
  have HK : Hid (key.size = 48) := hk
  have hk48 : (32 : Int) ≤ (key.size : Int) := by omega
  have HKs : Hid ((key.extract 0 32).size = 32) := by (show _ = _; rw [ByteArray.size_extract]; omega)
  have HN : Hid (nonce.size = 12) := hn
  clear hk hn hF
  obtain ⟨O, hO⟩ : ∃ O, Hid (O = streamOf (key.extract 0 32) nonce 1 text.size) := ⟨_, rfl⟩
  have hOs : Hid (O.size = text.size) := by rw [hO.out]; exact streamOf_size _ _ _ _
  have HTN : Hid ((text.size : Int).toNat = text.size) := Int.toNat_natCast _
  go_enter Tryd.func74, Tryd.ntmps74
  go_upto_region 2 with (go_at_call 85; refine (stream_any _ _ _ _ _ HKs.out HN.out (by omega) (by omega) (by omega) (by omega) HF.out h1).mono ?_; rw [HTN.out, ← hO.out]; rintro e w1 ⟨rfl, hb1⟩)
  have hs1 := hb1.size
  have hmk : (Instr.makeSlice 114 (.int .i64 (text.size : Int)) (.int .i64 (text.size : Int))).run Tryd.prog w1 = .ok (.slice (some ⟨w1.heap.size, 0, none⟩) text.size text.size) (w1.alloc (.cells (madeCells #[.int .u8 0] text.size) 5)) := by
    have q := run_makeSlice (P := Tryd.prog) w1 114 5 i0 (.int .u8 0) Tryd.underlying114 hi hz0 .i64 .i64 (text.size : Int) (text.size : Int) (by omega) (by omega) (by rw [hz1]; simp; omega) (by rw [hz2]; omega) (by omega)
    rw [hz1, Int.toNat_natCast, Nat.mul_one] at q
    exact q
  have hY0 : Hid (Yx w1.heap.size text.size (mixTo text O 0) (w1.alloc (.cells (madeCells #[.int .u8 0] text.size) 5))) := yx_made w1 text.size
  have hB0 : Hid (Below w.heap.size w (w1.alloc (.cells (madeCells #[.int .u8 0] text.size) 5))) := hb1.alloc hs1 _
  clear hb1
  go_upto_region 4 with fail
  clear hmk
  go_loopw [9] (fun s wr => ∃ k : Nat, k ≤ text.size ∧ s = .int .i64 k ∧ Hid (Yx w1.heap.size text.size (mixTo text O k) wr) ∧ Hid (Below w.heap.size w wr)) (fun s _ => text.size - (intOf s).toNat)
  case atStart => exact ⟨0, Nat.zero_le _, rfl, hY0, hB0⟩
  case round =>
    clear hY0 hB0
    obtain ⟨k, hk, rfl, hY, hB⟩ := hrel
    by_cases hlt : k < text.size
    · have hc := hY.out.c k hlt
      have hf := hY.out.f k hlt
      have hOk : k < O.size := by rw [hOs.out]; exact hlt
      have I1 : (k : Int) < (text.size : Int) := by omega
      have I2 : (k : Int) < (O.size : Int) := by omega
      have HX : Hid (bits .xor .u8 ((text[k]).toNat : Int) ((O[k]).toNat : Int) = (((byteN text k ^^^ byteN O k).toNat : Nat) : Int)) := by
        rw [get_byteN, get_byteN]; exact xor8 _ _
      go_upto_region 6 with fail
      go_region
      all_goals
        go_wp2_with fail
        go_roundw
        case rel =>
          refine ⟨k + 1, by omega, by go_num, ?_, ?_⟩
          · rw [HX.out]
            exact hY.out.set k _
          · exact (hB.out.setCell (by exact hs1) _).drew
        case measure => simp [intOf]; omega
    · have hke : k = text.size := by omega
      subst hke
      have hcv := yx_conv rfl hY.out
      go_wp2_with fail
      go_ret
      refine ⟨?_, hB.out⟩
      unfold maskOf
      rw [← hO.out]
      rfl
end Go.Proofs.YtphapknfkbgapabDoor
