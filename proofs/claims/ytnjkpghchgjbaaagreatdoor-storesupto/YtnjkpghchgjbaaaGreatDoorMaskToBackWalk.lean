import Derived.Test.YtnjkpghchgjbaaaGreatDoorStreamToPlainT
import Derived.Test.YtnjkpghchgjbaaaGreatDoorHashed
import Derived.BigRegion
import Derived.Deep.Cut
import Derived.Deep.QuietTactic
import Derived.BigQuiet
namespace Go.Proofs.YtnjkpghchgjbaaaGreatDoor
open Go.RowKit

/-- n bytes lie in block g. -/
structure Yx (g n : Nat) (f : Nat → Int) (w : World) : Prop where
  c : ∀ k, k < n → w.cell? ⟨g, k, none⟩ = some (.int .u8 (f k))
  f : ∀ k, k < n → w.frozen? ⟨g, k, none⟩ = false
theorem Yx.set {g n : Nat} {f : Nat → Int} {w : World} (h : Yx g n f w) (m : Nat) (x : Int) : Yx g n (upd f m x) (w.setCell ⟨g, m, none⟩ (.int .u8 x)).drew := by
  constructor
  · intro k hk
    show (w.setCell ⟨g, m, none⟩ (.int .u8 x)).cell? ⟨g, k, none⟩ = _
    by_cases e : k = m
    · subst e
      have hc := h.c k hk
      have he : upd f k x k = x := by simp [upd]
      rw [he]
      go_simp
    · rw [World.cell?_setCell_other w ⟨g, m, none⟩ ⟨g, k, none⟩ _ (by first | (simp; done) | (simp; omega)), h.c k hk]
      simp [upd, e]
  · intro k hk
    have := h.f k hk
    simpa using this
def mixTo (text over : ByteArray) : Nat → (Nat → Int)
  | 0 => fun _ => 0
  | i + 1 => upd (mixTo text over i) i (((byteN text i ^^^ byteN over i).toNat : Nat) : Int)
theorem mixTo_at (text over : ByteArray) : ∀ (n k : Nat), k < n → mixTo text over n k = (((byteN text k ^^^ byteN over k).toNat : Nat) : Int)
  | 0, _, h => absurd h (Nat.not_lt_zero _)
  | n + 1, k, h => by
    show upd (mixTo text over n) n _ k = _
    by_cases e : k = n
    · subst e; simp [upd]
    · simp only [upd, if_neg e]; exact mixTo_at text over n k (by omega)
theorem xor8 (a b : UInt8) : bits .xor .u8 (a.toNat : Int) (b.toNat : Int) = (((a ^^^ b).toNat : Nat) : Int) := by
  rw [u8_xor_nat _ _ (UInt8.toNat_lt a) (UInt8.toNat_lt b), UInt8.toNat_xor]
theorem get_byteN (s : ByteArray) (k : Nat) (h : k < s.size) : s[k] = byteN s k := by
  have hk : k < s.data.size := h
  unfold byteN
  rw [Array.getElem?_eq_getElem hk]
  rfl
theorem yx_made (w : World) (n : Nat) : Yx w.heap.size n (fun _ => 0) (w.alloc (.cells (madeCells #[.int .u8 0] n) 5)) := by
  constructor
  · intro k hk
    rw [World.cell?_alloc_mark]
    have : (madeCells #[Value.int .u8 0] n).toList = List.replicate n (.int .u8 0) := toList_madeCells_one _ _
    rw [← Array.getElem?_toList, this]
    simp [hk]
  · intro k hk
    go_simp
theorem yx_conv {g n : Nat} {w : World} {text over : ByteArray} (hn : text.size = n) (h : Yx g n (mixTo text over n) w) :
    (convert 125 9 (.slice (some ⟨g, 0, none⟩) n n)).run Tryz.prog w = .ok (.string (mixS text over)) w := by
  have hl : (mixS text over).data.toList.length = n := by rw [← hn]; exact mixS_size text over
  have e := run_convert_bytes_back (P := Tryz.prog) w 125 9 5 ⟨g, 0, none⟩ n (mixS text over).data.toList Tryz.underlying125 Tryz.underlying5 Tryz.underlying9 (fun j hj => by
    rw [Addr.add_mid, Nat.zero_add, h.c j (by omega), mixTo_at text over n j (by omega), ← byteN_mixS text over j (by omega)]
    have hj' : j < (mixS text over).data.size := by simpa using hj
    simp [byteN, Array.getElem?_eq_getElem hj'])
  rw [hl] at e
  exact e

set_option maxRecDepth 100000 in
set_option maxHeartbeats 1000000 in
theorem mask_any (key nonce text : ByteArray) (w : World) (hk : key.size = 48) (hn : nonce.size = 12) (ht : text.size ≤ 64) (hF : Fours w) (h1 : 1 ≤ w.heap.size) :
    Calls Tryz.prog 102 #[.string key, .string nonce, .string text] w fun e w' => e = .returned (.string (maskOf key nonce text)) ∧ Below w.heap.size w w' := by
  obtain ⟨i0, hi, hz0, hz1, hz2⟩ := info_parts info5
  have HF : Hid (Fours w) := hF
  have HK : Hid (key.size = 48) := hk
  have hk48 : (32 : Int) ≤ (key.size : Int) := by omega
  have HKs : Hid ((key.extract 0 32).size = 32) := by (show _ = _; rw [ByteArray.size_extract]; omega)
  have HN : Hid (nonce.size = 12) := hn
  clear hk hn hF
  obtain ⟨O, hO⟩ : ∃ O, Hid (O = streamOf (key.extract 0 32) nonce 1 text.size) := ⟨_, rfl⟩
  have hOs : Hid (O.size = text.size) := by rw [hO.out]; exact streamOf_size _ _ _ _
  have HTN : Hid ((text.size : Int).toNat = text.size) := Int.toNat_natCast _
  go_enter Tryz.func102, Tryz.ntmps102
  go_upto_region 2 with (go_at_call 109; refine (stream_any _ _ _ _ _ HKs.out HN.out (by omega) (by omega) (by omega) (by omega) HF.out h1).mono ?_; rw [HTN.out, ← hO.out]; rintro e w1 ⟨rfl, hb1⟩)
  have hs1 := hb1.size
  have hmk : (Instr.makeSlice 125 (.int .i64 (text.size : Int)) (.int .i64 (text.size : Int))).run Tryz.prog w1 = .ok (.slice (some ⟨w1.heap.size, 0, none⟩) text.size text.size) (w1.alloc (.cells (madeCells #[.int .u8 0] text.size) 5)) := by
    have q := run_makeSlice (P := Tryz.prog) w1 125 5 i0 (.int .u8 0) Tryz.underlying125 hi hz0 .i64 .i64 (text.size : Int) (text.size : Int) (by omega) (by omega) (by rw [hz1]; simp; omega) (by rw [hz2]; omega) (by omega)
    rw [hz1, Int.toNat_natCast, Nat.mul_one] at q
    exact q
  have hY0 : Hid (Yx w1.heap.size text.size (mixTo text O 0) (w1.alloc (.cells (madeCells #[.int .u8 0] text.size) 5))) := yx_made w1 text.size
  have hB0 : Hid (Below w.heap.size w (w1.alloc (.cells (madeCells #[.int .u8 0] text.size) 5))) := hb1.alloc hs1 _
  clear hb1
  go_upto_region 4 with fail
  clear hmk
  go_loopw [9] (fun s wr => ∃ k : Nat, k ≤ text.size ∧ s = .int .i64 k ∧ Hid (Yx w1.heap.size text.size (mixTo text O k) wr) ∧ Hid (Below w.heap.size w wr)) (fun s _ => text.size - (intOf s).toNat)
  case atStart => exact ⟨0, Nat.zero_le _, rfl, hY0, hB0⟩
  case round =>
    clear hY0 hB0
    obtain ⟨k, hk, rfl, hY, hB⟩ := hrel
    by_cases hlt : k < text.size
    · have hc := hY.out.c k hlt
      have hf := hY.out.f k hlt
      have hOk : k < O.size := by rw [hOs.out]; exact hlt
      have I1 : (k : Int) < (text.size : Int) := by omega
      have I2 : (k : Int) < (O.size : Int) := by omega
      have HX : Hid (bits .xor .u8 ((text[k]).toNat : Int) ((O[k]).toNat : Int) = (((byteN text k ^^^ byteN O k).toNat : Nat) : Int)) := by
        rw [get_byteN, get_byteN]; exact xor8 _ _
      go_upto_region 6 with fail
      go_region
      all_goals
        go_wp2_with fail
        go_roundw
        case rel =>
          refine ⟨k + 1, by omega, by go_num, ?_, ?_⟩
          · rw [HX.out]
            exact hY.out.set k _
          · exact (hB.out.setCell (by exact hs1) _).drew
        case measure => simp [intOf]; omega
    · have hke : k = text.size := by omega
      subst hke
      have hcv := yx_conv rfl hY.out
      go_wp2_with fail
      go_ret
      refine ⟨?_, hB.out⟩
      unfold maskOf
      rw [← hO.out]
      rfl
end Go.Proofs.YtnjkpghchgjbaaaGreatDoor
namespace Go.Proofs.YtnjkpghchgjbaaaGreatDoor
open Go.RowKit

set_option maxHeartbeats 400000 in
theorem tagOf_any (key nonce path cover : ByteArray) (w : World) (hk : key.size = 48) (hn : nonce.size = 12) (hp : path.size ≤ 16) (hc : cover.size ≤ 64) :
    Calls Tryz.prog 103 #[.string key, .string nonce, .string path, .string cover] w fun e w' => e = .returned (.int .u64 (tagI key nonce path cover)) ∧ Low w.heap.size w w' := by
  have hcv : (convert 125 9 (.slice (some ⟨w.heap.size, 0, none⟩) 1 1)).run Tryz.prog (w.alloc (.cells #[.int .u8 (path.size : Int)] 5)) = .ok (.string ⟨#[UInt8.ofNat path.size]⟩) (w.alloc (.cells #[.int .u8 (path.size : Int)] 5)) := conv1 w path.size (by omega)
  have hk2 : (32 : Int) ≤ (key.size : Int) := by omega
  have HKs : Hid ((key.extract 32 key.size).size = 16) := by (show _ = _; rw [ByteArray.size_extract]; omega)
  have hn2 : nonce.size ≤ 12 := by omega
  have h1s : (⟨#[UInt8.ofNat path.size]⟩ : ByteArray).size = 1 := rfl
  have HS : Hid ((((⟨#[UInt8.ofNat path.size]⟩ ++ path) ++ nonce) ++ cover).size ≤ 400) := by
    show _ ≤ _
    simp only [ByteArray.size_append', h1s]; omega
  clear hk hn
  go_enter Tryz.func103, Tryz.ntmps103
  go_wp2_with (go_at_call 110; refine (hash_any _ _ _ HKs.out HS.out).mono ?_; rintro e w1 ⟨rfl, hl⟩)
  go_ret
  exact ⟨rfl, (Low.of ((Below.refl _ _).alloc (Nat.le_refl _) _)).trans (hl.mono (by simp))⟩
set_option maxHeartbeats 400000 in
theorem write64_any (x : Int) (w : World) (h0 : 0 ≤ x) (h1 : x < 18446744073709551616) :
    Calls Tryz.prog 104 #[.int .u64 x] w fun e w' => e = .returned (.string (w64 x)) ∧ Below w.heap.size w w' := by
  have hw4 := wr32_size
  have b1 : 0 ≤ x % 4294967296 ∧ x % 4294967296 < 4294967296 := by omega
  have b2 : 0 ≤ x / 4294967296 ∧ x / 4294967296 < 4294967296 := by omega
  go_enter Tryz.func104, Tryz.ntmps104
  go_upto_region 2 with (go_at_call 111; refine (write32_any _ _ ?_ ?_).mono ?_; (exact b1.1); (exact b1.2); rintro e w1 ⟨rfl, hb1⟩)
  go_upto_region 3 with (go_at_call 111; refine (write32_any _ _ ?_ ?_).mono ?_; (exact b2.1); (exact b2.2); rintro e w2 ⟨rfl, hb2⟩)
  go_wp2_with fail
  go_ret
  exact ⟨rfl, hb1.trans (hb2.mono hb1.size)⟩
def goodP (key nonce path : ByteArray) : Prop := key.size = 48 ∧ nonce.size = 12 ∧ 1 ≤ path.size ∧ path.size ≤ 16
theorem well_yes (key nonce path : ByteArray) (w : World) (h : goodP key nonce path) :
    Calls Tryz.prog 101 #[.string key, .string nonce, .string path] w fun e w' => e = .returned (.bool true) ∧ w' = w := by
  obtain ⟨hk, hn, p1, p2⟩ := h
  have q1 : ((key.size : Int) != 48) = false := by rw [bne_eq_false_iff_eq]; omega
  have q2 : ((nonce.size : Int) != 12) = false := by rw [bne_eq_false_iff_eq]; omega
  have q3 : decide ((1 : Int) ≤ (path.size : Int)) = true := by simp; omega
  have q4 : decide ((path.size : Int) ≤ 16) = true := by simp; omega
  clear hk hn
  go_enter Tryz.func101, Tryz.ntmps101
  go_wp2
  go_ret
  exact ⟨by simp, rfl⟩
theorem well_no (key nonce path : ByteArray) (w : World) (h : ¬ goodP key nonce path) :
    Calls Tryz.prog 101 #[.string key, .string nonce, .string path] w fun e w' => e = .returned (.bool false) ∧ w' = w := by
  unfold goodP at h
  by_cases hk : key.size = 48
  · have q1 : ((key.size : Int) != 48) = false := by rw [bne_eq_false_iff_eq]; omega
    by_cases hn : nonce.size = 12
    · have q2 : ((nonce.size : Int) != 12) = false := by rw [bne_eq_false_iff_eq]; omega
      by_cases p1 : 1 ≤ path.size
      · have q3 : decide ((1 : Int) ≤ (path.size : Int)) = true := by simp; omega
        have q4 : decide ((path.size : Int) ≤ 16) = false := by simp; omega
        clear hk hn h
        go_enter Tryz.func101, Tryz.ntmps101
        go_wp2
        go_ret
        exact ⟨by simp, rfl⟩
      · have q3 : decide ((1 : Int) ≤ (path.size : Int)) = false := by simp; omega
        clear hk hn h
        go_enter Tryz.func101, Tryz.ntmps101
        go_wp2
        go_ret
        exact ⟨by simp, rfl⟩
    · have q2 : ((nonce.size : Int) != 12) = true := by rw [bne_iff_ne]; omega
      clear hk hn h
      go_enter Tryz.func101, Tryz.ntmps101
      go_wp2
      go_ret
      exact ⟨by simp, rfl⟩
  · have q1 : ((key.size : Int) != 48) = true := by rw [bne_iff_ne]; omega
    clear hk h
    go_enter Tryz.func101, Tryz.ntmps101
    go_wp2
    go_ret
    exact ⟨by simp, rfl⟩

set_option maxHeartbeats 400000 in
theorem Seal_yes (key nonce path plain : ByteArray) (w : World) (h : goodP key nonce path) (ht : plain.size ≤ 64) (hF : Fours w) (h1 : 1 ≤ w.heap.size) :
    Calls Tryz.prog 95 #[.string key, .string nonce, .string path, .string plain] w fun e w' => e = .returned (.tuple #[.string (sealOf key nonce path plain), .int .i64 0]) ∧ Low w.heap.size w w' := by
  have HF : Hid (Fours w) := hF
  have HG : Hid (goodP key nonce path) := h
  clear hF h
  obtain ⟨C, hC⟩ : ∃ C, Hid (C = maskOf key nonce plain) := ⟨_, rfl⟩
  have hCs : C.size ≤ 64 := by rw [hC.out, maskOf_size]; exact ht
  obtain ⟨t, htg⟩ : ∃ t, Hid (t = tagI key nonce path C) := ⟨_, rfl⟩
  have ti : In64 t := by rw [htg.out]; exact tagI_bd _ _ _ _
  have HTI : Hid (In64 t) := ti
  clear ti
  have hws := w64_size
  have hE : Hid (sealOf key nonce path plain = C ++ w64 t) := by rw [hC.out, htg.out, hC.out]; rfl
  go_enter Tryz.func95, Tryz.ntmps95
  go_wp2_with (first | (go_at_call 101; refine (well_yes _ _ _ _ HG.out).mono ?_; rintro e y0 ⟨rfl, rfl⟩) | (go_at_call 102; refine (mask_any _ _ _ _ HG.out.1 HG.out.2.1 ht HF.out h1).mono ?_; rw [← hC.out]; rintro e y1 ⟨rfl, hb1⟩) | (go_at_call 103; refine (tagOf_any _ _ _ _ _ HG.out.1 HG.out.2.1 HG.out.2.2.2 hCs).mono ?_; rw [← htg.out]; rintro e y2 ⟨rfl, hl2⟩) | (go_at_call 104; refine (write64_any _ _ HTI.out.1 HTI.out.2).mono ?_; rintro e y3 ⟨rfl, hb3⟩))
  go_ret2
  refine ⟨?_, (Low.of hb1).trans ((hl2.mono hb1.size).trans ((Low.of hb3).mono (Nat.le_trans hb1.size hl2.size)))⟩
  rw [hE.out]
  rfl
set_option maxHeartbeats 400000 in
theorem Seal_no (key nonce path plain : ByteArray) (w : World) (h : ¬ (goodP key nonce path ∧ plain.size ≤ 64)) (hp : plain.size ≤ maxLen) :
    Calls Tryz.prog 95 #[.string key, .string nonce, .string path, .string plain] w fun e w' => e = .returned (.tuple #[.string ⟨#[]⟩, .int .i64 2]) ∧ Low w.heap.size w w' := by
  unfold maxLen at hp
  by_cases hg : goodP key nonce path
  · have q : decide ((64 : Int) < (plain.size : Int)) = true := by
      have : ¬ plain.size ≤ 64 := fun e => h ⟨hg, e⟩
      simp; omega
    have HG : Hid (goodP key nonce path) := hg
    clear hg h
    go_enter Tryz.func95, Tryz.ntmps95
    go_wp2_with (go_at_call 101; refine (well_yes _ _ _ _ HG.out).mono ?_; rintro e y0 ⟨rfl, rfl⟩)
    go_ret2
    exact ⟨rfl, Low.refl _ _⟩
  · have HG : Hid (¬ goodP key nonce path) := hg
    clear hg h
    go_enter Tryz.func95, Tryz.ntmps95
    go_wp2_with (go_at_call 101; refine (well_no _ _ _ _ HG.out).mono ?_; rintro e y0 ⟨rfl, rfl⟩)
    go_ret2
    exact ⟨rfl, Low.refl _ _⟩
/-- What Open finds. -/
def coverOf (s : ByteArray) : ByteArray := s.extract 0 (s.size - 8)
def opens (key nonce path s : ByteArray) : Prop := rd64 s (s.size - 8) = tagI key nonce path (coverOf s)
theorem coverOf_size (s : ByteArray) : (coverOf s).size = s.size - 8 := by
  unfold coverOf; rw [ByteArray.size_extract]; omega
set_option maxHeartbeats 400000 in
theorem Open_yes (key nonce path s : ByteArray) (w : World) (h : goodP key nonce path) (s0 : 8 ≤ s.size) (s1 : s.size ≤ 72) (ho : opens key nonce path s) (hF : Fours w) (h1 : 1 ≤ w.heap.size) :
    Calls Tryz.prog 99 #[.string key, .string nonce, .string path, .string s] w fun e w' => e = .returned (.tuple #[.string (maskOf key nonce (coverOf s)), .int .i64 0]) ∧ Low w.heap.size w w' := by
  have HF : Hid (Fours w) := hF
  have HG : Hid (goodP key nonce path) := h
  obtain ⟨t, htg⟩ : ∃ t, Hid (t = tagI key nonce path (coverOf s)) := ⟨_, rfl⟩
  have HR : Hid (rd64 s (s.size - 8) = t) := by rw [htg.out]; exact ho
  have HCs : Hid ((s.extract 0 (s.size - 8)).size ≤ 64) := by (show _ ≤ _; rw [ByteArray.size_extract]; omega)
  have HCe : Hid (s.extract 0 (s.size - 8) = coverOf s) := rfl
  have HTN : Hid (((s.size : Int) - 8).toNat = s.size - 8) := by (show _ = _; omega)
  clear hF h ho
  go_enter Tryz.func99, Tryz.ntmps99
  go_upto_region 6 with (first | (go_at_call 101; refine (well_yes _ _ _ _ HG.out).mono ?_; rintro e y0 ⟨rfl, rfl⟩) | (go_at_call 108; refine (read64_any _ _ _ (by omega) (by omega) (by omega)).mono ?_; rw [HTN.out, HR.out]; rintro e y0 ⟨rfl, rfl⟩))
  have hbt : (t != t) = false := by simp
  go_wp2_with (first | (go_at_call 103; refine (tagOf_any _ _ _ _ _ HG.out.1 HG.out.2.1 HG.out.2.2.2 HCs.out).mono ?_; rw [HCe.out, ← htg.out]; rintro e y2 ⟨rfl, hl2⟩) | (go_at_call 102; refine (mask_any _ _ _ _ HG.out.1 HG.out.2.1 HCs.out (HF.out.later (hl2.mono h1)) (Nat.le_trans h1 hl2.size)).mono ?_; rintro e y3 ⟨rfl, hb3⟩))
  go_ret2
  exact ⟨rfl, hl2.trans ((Low.of hb3).mono hl2.size)⟩
set_option maxHeartbeats 400000 in
theorem Open_bad (key nonce path s : ByteArray) (w : World) (h : goodP key nonce path) (s0 : 8 ≤ s.size) (s1 : s.size ≤ 72) (ho : ¬ opens key nonce path s) :
    Calls Tryz.prog 99 #[.string key, .string nonce, .string path, .string s] w fun e w' => e = .returned (.tuple #[.string ⟨#[]⟩, .int .i64 3]) ∧ Low w.heap.size w w' := by
  have HG : Hid (goodP key nonce path) := h
  obtain ⟨t, htg⟩ : ∃ t, Hid (t = tagI key nonce path (coverOf s)) := ⟨_, rfl⟩
  obtain ⟨r, hr⟩ : ∃ r, Hid (r = rd64 s (s.size - 8)) := ⟨_, rfl⟩
  have hne : (r != t) = true := by
    rw [bne_iff_ne, hr.out, htg.out]; exact ho
  have HCs : Hid ((s.extract 0 (s.size - 8)).size ≤ 64) := by (show _ ≤ _; rw [ByteArray.size_extract]; omega)
  have HCe : Hid (s.extract 0 (s.size - 8) = coverOf s) := rfl
  have HTN : Hid (((s.size : Int) - 8).toNat = s.size - 8) := by (show _ = _; omega)
  clear h ho
  go_enter Tryz.func99, Tryz.ntmps99
  go_wp2_with (first | (go_at_call 101; refine (well_yes _ _ _ _ HG.out).mono ?_; rintro e y0 ⟨rfl, rfl⟩) | (go_at_call 108; refine (read64_any _ _ _ (by omega) (by omega) (by omega)).mono ?_; rw [HTN.out, ← hr.out]; rintro e y0 ⟨rfl, rfl⟩) | (go_at_call 103; refine (tagOf_any _ _ _ _ _ HG.out.1 HG.out.2.1 HG.out.2.2.2 HCs.out).mono ?_; rw [HCe.out, ← htg.out]; rintro e y2 ⟨rfl, hl2⟩))
  go_ret2
  exact ⟨rfl, hl2⟩
set_option maxHeartbeats 400000 in
theorem Open_no (key nonce path s : ByteArray) (w : World) (h : ¬ (goodP key nonce path ∧ 8 ≤ s.size ∧ s.size ≤ 72)) (hp : s.size ≤ maxLen) :
    Calls Tryz.prog 99 #[.string key, .string nonce, .string path, .string s] w fun e w' => e = .returned (.tuple #[.string ⟨#[]⟩, .int .i64 2]) ∧ Low w.heap.size w w' := by
  unfold maxLen at hp
  by_cases hg : goodP key nonce path
  · have HG : Hid (goodP key nonce path) := hg
    by_cases s0 : 8 ≤ s.size
    · have q1 : decide ((s.size : Int) < 8) = false := by simp; omega
      have q2 : decide ((72 : Int) < (s.size : Int)) = true := by
        have : ¬ s.size ≤ 72 := fun e => h ⟨hg, s0, e⟩
        simp; omega
      clear hg h
      go_enter Tryz.func99, Tryz.ntmps99
      go_wp2_with (go_at_call 101; refine (well_yes _ _ _ _ HG.out).mono ?_; rintro e y0 ⟨rfl, rfl⟩)
      go_ret2
      exact ⟨rfl, Low.refl _ _⟩
    · have q1 : decide ((s.size : Int) < 8) = true := by simp; omega
      clear hg h
      go_enter Tryz.func99, Tryz.ntmps99
      go_wp2_with (go_at_call 101; refine (well_yes _ _ _ _ HG.out).mono ?_; rintro e y0 ⟨rfl, rfl⟩)
      go_ret2
      exact ⟨rfl, Low.refl _ _⟩
  · have HG : Hid (¬ goodP key nonce path) := hg
    clear hg h
    go_enter Tryz.func99, Tryz.ntmps99
    go_wp2_with (go_at_call 101; refine (well_no _ _ _ _ HG.out).mono ?_; rintro e y0 ⟨rfl, rfl⟩)
    go_ret2
    exact ⟨rfl, Low.refl _ _⟩
end Go.Proofs.YtnjkpghchgjbaaaGreatDoor
namespace Go.Proofs.YtnjkpghchgjbaaaGreatDoor
open Go.RowKit

theorem opens_seal (key nonce path plain : ByteArray) : opens key nonce path (sealOf key nonce path plain) := by
  unfold opens coverOf
  rw [sealOf_size, show plain.size + 8 - 8 = plain.size from by omega, cover_of]
  have h := rd64_w64 (maskOf key nonce plain) (tagI key nonce path (maskOf key nonce plain)) (tagI_bd _ _ _ _)
  rw [maskOf_size] at h
  exact h
theorem open_seal (key nonce path plain : ByteArray) : maskOf key nonce (coverOf (sealOf key nonce path plain)) = plain := by
  unfold coverOf
  rw [sealOf_size, show plain.size + 8 - 8 = plain.size from by omega, cover_of, maskOf_back]
theorem seal_byte (key nonce path plain : ByteArray) (k : Nat) (h : k < plain.size) : byteN (sealOf key nonce path plain) k = byteN plain k ^^^ byteN (streamOf (key.extract 0 32) nonce 1 plain.size) k := by
  unfold sealOf
  rw [byteN_append_left _ _ _ (by rw [maskOf_size]; exact h)]
  exact byteN_mixS _ _ _ h
theorem stream_byte (key nonce : ByteArray) (c : Int) (n m k : Nat) (hn : k < n) (hm : k < m) : byteN (streamOf key nonce c n) k = byteN (streamOf key nonce c m) k := by
  have q : ∀ a b, a ≤ b → k < a → byteN (streamOf key nonce c b) k = byteN (streamOf key nonce c a) k := by
    intro a b hab hk
    have h := streamOf_prefix key nonce c b a hab
    unfold byteN
    rw [← Array.getElem?_toList, ← Array.getElem?_toList, ← h, List.getElem?_take, if_pos hk]
  rcases Nat.le_total n m with h | h
  · exact (q n m h hn).symm
  · exact q m n h hm
theorem xor4 (a b s : UInt8) : (a ^^^ s) ^^^ (b ^^^ s) = a ^^^ b := by
  rw [UInt8.xor_comm b s, ← UInt8.xor_assoc, UInt8.xor_assoc a s s, UInt8.xor_self, UInt8.xor_zero]

end Go.Proofs.YtnjkpghchgjbaaaGreatDoor
