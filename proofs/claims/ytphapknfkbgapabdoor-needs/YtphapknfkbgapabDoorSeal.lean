import Derived.Test.YtphapknfkbgapabDoorMask
import Derived.Deep.Cut
namespace Go.Proofs.YtphapknfkbgapabDoor
open Go.RowKit

set_option maxHeartbeats 400000 in
theorem tagOf_any (key nonce path cover : ByteArray) (w : World) (hk : key.size = 48) (hn : nonce.size = 12) (hp : path.size ≤ 16) (hc : cover.size ≤ 64) :
    Calls Tryd.prog 73 #[.string key, .string nonce, .string path, .string cover] w fun e w' => e = .returned (.int .u64 (tagI key nonce path cover)) ∧ Low w.heap.size w w' := by
  have hcv : (convert 114 9 (.slice (some ⟨w.heap.size, 0, none⟩) 1 1)).run Tryd.prog (w.alloc (.cells #[.int .u8 (path.size : Int)] 5)) = .ok (.string ⟨#[UInt8.ofNat path.size]⟩) (w.alloc (.cells #[.int .u8 (path.size : Int)] 5)) := conv1 w path.size (by omega)
  have hk2 : (32 : Int) ≤ (key.size : Int) := by omega
  have HKs : Hid ((key.extract 32 key.size).size = 16) := by (show _ = _; rw [ByteArray.size_extract]; omega)
  have hn2 : nonce.size ≤ 12 := by omega
  have h1s : (⟨#[UInt8.ofNat path.size]⟩ : ByteArray).size = 1 := rfl
  have HS : Hid ((((⟨#[UInt8.ofNat path.size]⟩ ++ path) ++ nonce) ++ cover).size ≤ 400) := by
    show _ ≤ _
    simp only [ByteArray.size_append', h1s]; omega
  clear hk hn
  go_enter Tryd.func73, Tryd.ntmps73
  go_wp2_with (go_at_call 84; refine (hash_any _ _ _ HKs.out HS.out).mono ?_; rintro e w1 ⟨rfl, hl⟩)
  go_ret
  exact ⟨rfl, (Low.of ((Below.refl _ _).alloc (Nat.le_refl _) _)).trans (hl.mono (by simp))⟩
set_option maxHeartbeats 400000 in
theorem write64_any (x : Int) (w : World) (h0 : 0 ≤ x) (h1 : x < 18446744073709551616) :
    Calls Tryd.prog 92 #[.int .u64 x] w fun e w' => e = .returned (.string (w64 x)) ∧ Below w.heap.size w w' := by
  have hw4 := wr32_size
  have b1 : 0 ≤ x % 4294967296 ∧ x % 4294967296 < 4294967296 := by omega
  have b2 : 0 ≤ x / 4294967296 ∧ x / 4294967296 < 4294967296 := by omega
  go_enter Tryd.func92, Tryd.ntmps92
  go_upto_region 2 with (go_at_call 95; refine (write32_any _ _ ?_ ?_).mono ?_; (exact b1.1); (exact b1.2); rintro e w1 ⟨rfl, hb1⟩)
  go_upto_region 3 with (go_at_call 95; refine (write32_any _ _ ?_ ?_).mono ?_; (exact b2.1); (exact b2.2); rintro e w2 ⟨rfl, hb2⟩)
  go_wp2_with fail
  go_ret
  exact ⟨rfl, hb1.trans (hb2.mono hb1.size)⟩
def goodP (key nonce path : ByteArray) : Prop := key.size = 48 ∧ nonce.size = 12 ∧ 1 ≤ path.size ∧ path.size ≤ 16
theorem well_yes (key nonce path : ByteArray) (w : World) (h : goodP key nonce path) :
    Calls Tryd.prog 71 #[.string key, .string nonce, .string path] w fun e w' => e = .returned (.bool true) ∧ w' = w := by
  obtain ⟨hk, hn, p1, p2⟩ := h
  have q1 : ((key.size : Int) != 48) = false := by rw [bne_eq_false_iff_eq]; omega
  have q2 : ((nonce.size : Int) != 12) = false := by rw [bne_eq_false_iff_eq]; omega
  have q3 : decide ((1 : Int) ≤ (path.size : Int)) = true := by simp; omega
  have q4 : decide ((path.size : Int) ≤ 16) = true := by simp; omega
  clear hk hn
  go_enter Tryd.func71, Tryd.ntmps71
  go_wp2
  go_ret
  exact ⟨by simp, rfl⟩
theorem well_no (key nonce path : ByteArray) (w : World) (h : ¬ goodP key nonce path) :
    Calls Tryd.prog 71 #[.string key, .string nonce, .string path] w fun e w' => e = .returned (.bool false) ∧ w' = w := by
  unfold goodP at h
  by_cases hk : key.size = 48
  · have q1 : ((key.size : Int) != 48) = false := by rw [bne_eq_false_iff_eq]; omega
    by_cases hn : nonce.size = 12
    · have q2 : ((nonce.size : Int) != 12) = false := by rw [bne_eq_false_iff_eq]; omega
      by_cases p1 : 1 ≤ path.size
      · have q3 : decide ((1 : Int) ≤ (path.size : Int)) = true := by simp; omega
        have q4 : decide ((path.size : Int) ≤ 16) = false := by simp; omega
        clear hk hn h
        go_enter Tryd.func71, Tryd.ntmps71
        go_wp2
        go_ret
        exact ⟨by simp, rfl⟩
      · have q3 : decide ((1 : Int) ≤ (path.size : Int)) = false := by simp; omega
        clear hk hn h
        go_enter Tryd.func71, Tryd.ntmps71
        go_wp2
        go_ret
        exact ⟨by simp, rfl⟩
    · have q2 : ((nonce.size : Int) != 12) = true := by rw [bne_iff_ne]; omega
      clear hk hn h
      go_enter Tryd.func71, Tryd.ntmps71
      go_wp2
      go_ret
      exact ⟨by simp, rfl⟩
  · have q1 : ((key.size : Int) != 48) = true := by rw [bne_iff_ne]; omega
    clear hk h
    go_enter Tryd.func71, Tryd.ntmps71
    go_wp2
    go_ret
    exact ⟨by simp, rfl⟩

set_option maxHeartbeats 400000 in
theorem Seal_yes (key nonce path plain : ByteArray) (w : World) (h : goodP key nonce path) (ht : plain.size ≤ 64) (hF : Fours w) (h1 : 1 ≤ w.heap.size) :
    Calls Tryd.prog 86 #[.string key, .string nonce, .string path, .string plain] w fun e w' => e = .returned (.tuple #[.string (sealOf key nonce path plain), .int .i64 0]) ∧ Low w.heap.size w w' := by
  have HF : Hid (Fours w) := hF
  have HG : Hid (goodP key nonce path) := h
  clear hF h
  obtain ⟨C, hC⟩ : ∃ C, Hid (C = maskOf key nonce plain) := ⟨_, rfl⟩
  have hCs : C.size ≤ 64 := by rw [hC.out, maskOf_size]; exact ht
  obtain ⟨t, htg⟩ : ∃ t, Hid (t = tagI key nonce path C) := ⟨_, rfl⟩
  have ti : In64 t := by rw [htg.out]; exact tagI_bd _ _ _ _
  have HTI : Hid (In64 t) := ti
  clear ti
  have hws := w64_size
  have hE : Hid (sealOf key nonce path plain = C ++ w64 t) := by rw [hC.out, htg.out, hC.out]; rfl
  go_enter Tryd.func86, Tryd.ntmps86
  go_wp2_with (first | (go_at_call 71; refine (well_yes _ _ _ _ HG.out).mono ?_; rintro e y0 ⟨rfl, rfl⟩) | (go_at_call 74; refine (mask_any _ _ _ _ HG.out.1 HG.out.2.1 ht HF.out h1).mono ?_; rw [← hC.out]; rintro e y1 ⟨rfl, hb1⟩) | (go_at_call 73; refine (tagOf_any _ _ _ _ _ HG.out.1 HG.out.2.1 HG.out.2.2.2 hCs).mono ?_; rw [← htg.out]; rintro e y2 ⟨rfl, hl2⟩) | (go_at_call 92; refine (write64_any _ _ HTI.out.1 HTI.out.2).mono ?_; rintro e y3 ⟨rfl, hb3⟩))
  go_ret2
  refine ⟨?_, (Low.of hb1).trans ((hl2.mono hb1.size).trans ((Low.of hb3).mono (Nat.le_trans hb1.size hl2.size)))⟩
  rw [hE.out]
  rfl
set_option maxHeartbeats 400000 in
theorem Seal_no (key nonce path plain : ByteArray) (w : World) (h : ¬ (goodP key nonce path ∧ plain.size ≤ 64)) (hp : plain.size ≤ maxLen) :
    Calls Tryd.prog 86 #[.string key, .string nonce, .string path, .string plain] w fun e w' => e = .returned (.tuple #[.string ⟨#[]⟩, .int .i64 2]) ∧ Low w.heap.size w w' := by
  unfold maxLen at hp
  by_cases hg : goodP key nonce path
  · have q : decide ((64 : Int) < (plain.size : Int)) = true := by
      have : ¬ plain.size ≤ 64 := fun e => h ⟨hg, e⟩
      simp; omega
    have HG : Hid (goodP key nonce path) := hg
    clear hg h
    go_enter Tryd.func86, Tryd.ntmps86
    go_wp2_with (go_at_call 71; refine (well_yes _ _ _ _ HG.out).mono ?_; rintro e y0 ⟨rfl, rfl⟩)
    go_ret2
    exact ⟨rfl, Low.refl _ _⟩
  · have HG : Hid (¬ goodP key nonce path) := hg
    clear hg h
    go_enter Tryd.func86, Tryd.ntmps86
    go_wp2_with (go_at_call 71; refine (well_no _ _ _ _ HG.out).mono ?_; rintro e y0 ⟨rfl, rfl⟩)
    go_ret2
    exact ⟨rfl, Low.refl _ _⟩
/-- What Open finds. -/
def coverOf (s : ByteArray) : ByteArray := s.extract 0 (s.size - 8)
def opens (key nonce path s : ByteArray) : Prop := rd64 s (s.size - 8) = tagI key nonce path (coverOf s)
theorem coverOf_size (s : ByteArray) : (coverOf s).size = s.size - 8 := by
  unfold coverOf; rw [ByteArray.size_extract]; omega
set_option maxHeartbeats 400000 in
theorem Open_yes (key nonce path s : ByteArray) (w : World) (h : goodP key nonce path) (s0 : 8 ≤ s.size) (s1 : s.size ≤ 72) (ho : opens key nonce path s) (hF : Fours w) (h1 : 1 ≤ w.heap.size) :
    Calls Tryd.prog 50 #[.string key, .string nonce, .string path, .string s] w fun e w' => e = .returned (.tuple #[.string (maskOf key nonce (coverOf s)), .int .i64 0]) ∧ Low w.heap.size w w' := by
  have HF : Hid (Fours w) := hF
  have HG : Hid (goodP key nonce path) := h
  obtain ⟨t, htg⟩ : ∃ t, Hid (t = tagI key nonce path (coverOf s)) := ⟨_, rfl⟩
  have HR : Hid (rd64 s (s.size - 8) = t) := by rw [htg.out]; exact ho
  have HCs : Hid ((s.extract 0 (s.size - 8)).size ≤ 64) := by (show _ ≤ _; rw [ByteArray.size_extract]; omega)
  have HCe : Hid (s.extract 0 (s.size - 8) = coverOf s) := rfl
  have HTN : Hid (((s.size : Int) - 8).toNat = s.size - 8) := by (show _ = _; omega)
  clear hF h ho
  go_enter Tryd.func50, Tryd.ntmps50
  go_upto_region 6 with (first | (go_at_call 71; refine (well_yes _ _ _ _ HG.out).mono ?_; rintro e y0 ⟨rfl, rfl⟩) | (go_at_call 72; refine (read64_any _ _ _ (by omega) (by omega) (by omega)).mono ?_; rw [HTN.out, HR.out]; rintro e y0 ⟨rfl, rfl⟩))
  have hbt : (t != t) = false := by simp
  go_wp2_with (first | (go_at_call 73; refine (tagOf_any _ _ _ _ _ HG.out.1 HG.out.2.1 HG.out.2.2.2 HCs.out).mono ?_; rw [HCe.out, ← htg.out]; rintro e y2 ⟨rfl, hl2⟩) | (go_at_call 74; refine (mask_any _ _ _ _ HG.out.1 HG.out.2.1 HCs.out (HF.out.later (hl2.mono h1)) (Nat.le_trans h1 hl2.size)).mono ?_; rintro e y3 ⟨rfl, hb3⟩))
  go_ret2
  exact ⟨rfl, hl2.trans ((Low.of hb3).mono hl2.size)⟩
set_option maxHeartbeats 400000 in
theorem Open_bad (key nonce path s : ByteArray) (w : World) (h : goodP key nonce path) (s0 : 8 ≤ s.size) (s1 : s.size ≤ 72) (ho : ¬ opens key nonce path s) :
    Calls Tryd.prog 50 #[.string key, .string nonce, .string path, .string s] w fun e w' => e = .returned (.tuple #[.string ⟨#[]⟩, .int .i64 3]) ∧ Low w.heap.size w w' := by
  have HG : Hid (goodP key nonce path) := h
  obtain ⟨t, htg⟩ : ∃ t, Hid (t = tagI key nonce path (coverOf s)) := ⟨_, rfl⟩
  obtain ⟨r, hr⟩ : ∃ r, Hid (r = rd64 s (s.size - 8)) := ⟨_, rfl⟩
  have hne : (r != t) = true := by
    rw [bne_iff_ne, hr.out, htg.out]; exact ho
  have HCs : Hid ((s.extract 0 (s.size - 8)).size ≤ 64) := by (show _ ≤ _; rw [ByteArray.size_extract]; omega)
  have HCe : Hid (s.extract 0 (s.size - 8) = coverOf s) := rfl
  have HTN : Hid (((s.size : Int) - 8).toNat = s.size - 8) := by (show _ = _; omega)
  clear h ho
  go_enter Tryd.func50, Tryd.ntmps50
  go_wp2_with (first | (go_at_call 71; refine (well_yes _ _ _ _ HG.out).mono ?_; rintro e y0 ⟨rfl, rfl⟩) | (go_at_call 72; refine (read64_any _ _ _ (by omega) (by omega) (by omega)).mono ?_; rw [HTN.out, ← hr.out]; rintro e y0 ⟨rfl, rfl⟩) | (go_at_call 73; refine (tagOf_any _ _ _ _ _ HG.out.1 HG.out.2.1 HG.out.2.2.2 HCs.out).mono ?_; rw [HCe.out, ← htg.out]; rintro e y2 ⟨rfl, hl2⟩))
  go_ret2
  exact ⟨rfl, hl2⟩
set_option maxHeartbeats 400000 in
theorem Open_no (key nonce path s : ByteArray) (w : World) (h : ¬ (goodP key nonce path ∧ 8 ≤ s.size ∧ s.size ≤ 72)) (hp : s.size ≤ maxLen) :
    Calls Tryd.prog 50 #[.string key, .string nonce, .string path, .string s] w fun e w' => e = .returned (.tuple #[.string ⟨#[]⟩, .int .i64 2]) ∧ Low w.heap.size w w' := by
  unfold maxLen at hp
  by_cases hg : goodP key nonce path
  · have HG : Hid (goodP key nonce path) := hg
    by_cases s0 : 8 ≤ s.size
    · have q1 : decide ((s.size : Int) < 8) = false := by simp; omega
      have q2 : decide ((72 : Int) < (s.size : Int)) = true := by
        have : ¬ s.size ≤ 72 := fun e => h ⟨hg, s0, e⟩
        simp; omega
      clear hg h
      go_enter Tryd.func50, Tryd.ntmps50
      go_wp2_with (go_at_call 71; refine (well_yes _ _ _ _ HG.out).mono ?_; rintro e y0 ⟨rfl, rfl⟩)
      go_ret2
      exact ⟨rfl, Low.refl _ _⟩
    · have q1 : decide ((s.size : Int) < 8) = true := by simp; omega
      clear hg h
      go_enter Tryd.func50, Tryd.ntmps50
      go_wp2_with (go_at_call 71; refine (well_yes _ _ _ _ HG.out).mono ?_; rintro e y0 ⟨rfl, rfl⟩)
      go_ret2
      exact ⟨rfl, Low.refl _ _⟩
  · have HG : Hid (¬ goodP key nonce path) := hg
    clear hg h
    go_enter Tryd.func50, Tryd.ntmps50
    go_wp2_with (go_at_call 71; refine (well_no _ _ _ _ HG.out).mono ?_; rintro e y0 ⟨rfl, rfl⟩)
    go_ret2
    exact ⟨rfl, Low.refl _ _⟩
end Go.Proofs.YtphapknfkbgapabDoor
