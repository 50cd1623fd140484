import Derived.Test.YtphapknfkbgapaaDoorRefs
namespace Go.Proofs.YtphapknfkbgapaaDoor
open Go.RowKit

set_option maxHeartbeats 400000 in
theorem SealR_yes (key nonce path plain : ByteArray) (w : World) (h : goodP key nonce path) (ht : plain.size ≤ 64) :
    Calls Tryd.prog 13 #[.string key, .string nonce, .string path, .string plain] w fun e w' => e = .returned (.tuple #[.string (sealOf key nonce path plain), .int .i64 0]) ∧ Low w.heap.size w w' := by
  have HG : Hid (goodP key nonce path) := h
  clear h
  obtain ⟨C, hC⟩ : ∃ C, Hid (C = maskOf key nonce plain) := ⟨_, rfl⟩
  have hCs : C.size ≤ 64 := by rw [hC.out, maskOf_size]; exact ht
  obtain ⟨t, htg⟩ : ∃ t, Hid (t = tagI key nonce path C) := ⟨_, rfl⟩
  have hws := w64_size
  have hE : Hid (sealOf key nonce path plain = C ++ w64 t) := by rw [hC.out, htg.out, hC.out]; rfl
  go_enter Tryd.func13, Tryd.ntmps13
  go_wp2_with (first | (go_at_call 36; refine (names_yes _ _ _ _ HG.out).mono ?_; rintro e y0 ⟨rfl, rfl⟩) | (go_at_call 37; refine (mixed_any _ _ _ _ HG.out.1 HG.out.2.1 ht).mono ?_; rw [← hC.out]; rintro e y1 ⟨rfl, hb1⟩) | (go_at_call 38; refine (mark_any _ _ _ _ _ HG.out.1 HG.out.2.1 HG.out.2.2.2 hCs).mono ?_; rw [← htg.out]; rintro e y2 ⟨rfl, hl2⟩))
  go_ret2
  refine ⟨?_, (Low.of hb1).trans (hl2.mono hb1.size)⟩
  rw [hE.out]
  rfl
set_option maxHeartbeats 400000 in
theorem SealR_no (key nonce path plain : ByteArray) (w : World) (h : ¬ (goodP key nonce path ∧ plain.size ≤ 64)) (hp : plain.size ≤ maxLen) :
    Calls Tryd.prog 13 #[.string key, .string nonce, .string path, .string plain] w fun e w' => e = .returned (.tuple #[.string ⟨#[]⟩, .int .i64 2]) ∧ Low w.heap.size w w' := by
  unfold maxLen at hp
  by_cases hg : goodP key nonce path
  · have q : decide ((64 : Int) < (plain.size : Int)) = true := by
      have : ¬ plain.size ≤ 64 := fun e => h ⟨hg, e⟩
      simp; omega
    have HG : Hid (goodP key nonce path) := hg
    clear hg h
    go_enter Tryd.func13, Tryd.ntmps13
    go_wp2_with (go_at_call 36; refine (names_yes _ _ _ _ HG.out).mono ?_; rintro e y0 ⟨rfl, rfl⟩)
    go_ret2
    exact ⟨rfl, Low.refl _ _⟩
  · have HG : Hid (¬ goodP key nonce path) := hg
    clear hg h
    go_enter Tryd.func13, Tryd.ntmps13
    go_wp2_with (go_at_call 36; refine (names_no _ _ _ _ HG.out).mono ?_; rintro e y0 ⟨rfl, rfl⟩)
    go_ret2
    exact ⟨rfl, Low.refl _ _⟩

theorem toList_inj {a b : ByteArray} (e : a.toList = b.toList) : a = b := bytes_ext (by rw [← ByteArray.toList_eq, ← ByteArray.toList_eq]; exact e)

/-! A sealed text is its cover and its tag, written. -/
theorem wr32_rd32 (s : ByteArray) (p k : Nat) (hk : k < 4) : byteN (wr32 (rd32 s p)) k = byteN s (p + k) := by
  have b0 := byteAt_bd s p; have b1 := byteAt_bd s (p + 1); have b2 := byteAt_bd s (p + 2); have b3 := byteAt_bd s (p + 3)
  have key : ∀ (u : UInt8) (x : Int), x = (u.toNat : Int) → UInt8.ofNat x.toNat = u := by
    intro u x e; rw [e, Int.toNat_natCast, UInt8.ofNat_toNat]
  have hk' : k = 0 ∨ k = 1 ∨ k = 2 ∨ k = 3 := by omega
  rcases hk' with rfl | rfl | rfl | rfl
  · refine key _ _ ?_
    rw [Nat.add_zero, ← byteAt_N]; unfold rd32; omega
  · refine key _ _ ?_
    rw [← byteAt_N]; unfold rd32; omega
  · refine key _ _ ?_
    rw [← byteAt_N]; unfold rd32; omega
  · refine key _ _ ?_
    rw [← byteAt_N]; unfold rd32; omega
theorem w64_rd64 (s : ByteArray) (p k : Nat) (hk : k < 8) : byteN (w64 (rd64 s p)) k = byteN s (p + k) := by
  have e1 : rd64 s p % 4294967296 = rd32 s p := lo_rd64 s p
  have e2 : rd64 s p / 4294967296 = rd32 s (p + 4) := hi_rd64 s p
  unfold w64
  rw [e1, e2]
  by_cases h : k < 4
  · rw [byteN_append_left _ _ _ (by rw [wr32_size]; exact h), wr32_rd32 s p k h]
  · obtain ⟨j, rfl⟩ : ∃ j, k = 4 + j := ⟨k - 4, by omega⟩
    have := byteN_append_right (wr32 (rd32 s p)) (wr32 (rd32 s (p + 4))) j
    rw [wr32_size] at this
    rw [this, wr32_rd32 s (p + 4) j (by omega), Nat.add_assoc]
theorem byteN_cover (s : ByteArray) (k : Nat) (h : k < s.size - 8) : byteN (coverOf s) k = byteN s k := by
  unfold byteN coverOf
  rw [ByteArray.data_extract, Array.getElem?_extract]
  have : k < min (s.size - 8) s.data.size - 0 := by
    have : s.data.size = s.size := rfl
    omega
  rw [if_pos this, Nat.zero_add]
theorem whole (s : ByteArray) (h8 : 8 ≤ s.size) : coverOf s ++ w64 (rd64 s (s.size - 8)) = s := by
  have hsz : (coverOf s ++ w64 (rd64 s (s.size - 8))).size = s.size := by
    rw [ByteArray.size_append', coverOf_size, w64_size]; omega
  apply ext_byteN hsz
  intro k hk
  rw [hsz] at hk
  by_cases h : k < s.size - 8
  · rw [byteN_append_left _ _ _ (by rw [coverOf_size]; exact h), byteN_cover s k h]
  · obtain ⟨j, rfl⟩ : ∃ j, k = s.size - 8 + j := ⟨k - (s.size - 8), by omega⟩
    have := byteN_append_right (coverOf s) (w64 (rd64 s (s.size - 8))) j
    rw [coverOf_size] at this
    rw [this, w64_rd64 s (s.size - 8) j (by omega)]
theorem opens_iff (key nonce path s : ByteArray) (h8 : 8 ≤ s.size) : coverOf s ++ w64 (tagI key nonce path (coverOf s)) = s ↔ opens key nonce path s := by
  constructor
  · intro e
    have q := rd64_w64 (coverOf s) (tagI key nonce path (coverOf s)) (tagI_bd _ _ _ _)
    rw [e, coverOf_size] at q
    exact q
  · intro o
    unfold opens at o
    rw [← o]
    exact whole s h8

set_option maxHeartbeats 400000 in
theorem OpenR_yes (key nonce path s : ByteArray) (w : World) (h : goodP key nonce path) (s0 : 8 ≤ s.size) (s1 : s.size ≤ 72) (ho : opens key nonce path s) :
    Calls Tryd.prog 15 #[.string key, .string nonce, .string path, .string s] w fun e w' => e = .returned (.tuple #[.string (maskOf key nonce (coverOf s)), .int .i64 0]) ∧ Low w.heap.size w w' := by
  have HG : Hid (goodP key nonce path) := h
  obtain ⟨t, htg⟩ : ∃ t, Hid (t = tagI key nonce path (coverOf s)) := ⟨_, rfl⟩
  have HCs : Hid ((s.extract 0 (s.size - 8)).size ≤ 64) := by (show _ ≤ _; rw [ByteArray.size_extract]; omega)
  have hcs : (coverOf s).size ≤ 64 := HCs.out
  have HCe : Hid (s.extract 0 (s.size - 8) = coverOf s) := rfl
  have hws := w64_size
  have hq : ((coverOf s ++ w64 t).toList == s.toList) = true := by
    have e : coverOf s ++ w64 t = s := by rw [htg.out]; exact (opens_iff key nonce path s s0).2 ho
    rw [e]; exact beq_self_eq_true _
  clear h ho
  go_enter Tryd.func15, Tryd.ntmps15
  go_wp2_with (first | (go_at_call 36; refine (names_yes _ _ _ _ HG.out).mono ?_; rintro e y0 ⟨rfl, rfl⟩) | (go_at_call 38; refine (mark_any _ _ _ _ _ HG.out.1 HG.out.2.1 HG.out.2.2.2 HCs.out).mono ?_; rw [HCe.out, ← htg.out]; rintro e y2 ⟨rfl, hl2⟩) | (go_at_call 37; refine (mixed_any _ _ _ _ HG.out.1 HG.out.2.1 HCs.out).mono ?_; rintro e y3 ⟨rfl, hb3⟩))
  go_ret2
  exact ⟨rfl, hl2.trans ((Low.of hb3).mono hl2.size)⟩
set_option maxHeartbeats 400000 in
theorem OpenR_bad (key nonce path s : ByteArray) (w : World) (h : goodP key nonce path) (s0 : 8 ≤ s.size) (s1 : s.size ≤ 72) (ho : ¬ opens key nonce path s) :
    Calls Tryd.prog 15 #[.string key, .string nonce, .string path, .string s] w fun e w' => e = .returned (.tuple #[.string ⟨#[]⟩, .int .i64 3]) ∧ Low w.heap.size w w' := by
  have HG : Hid (goodP key nonce path) := h
  obtain ⟨t, htg⟩ : ∃ t, Hid (t = tagI key nonce path (coverOf s)) := ⟨_, rfl⟩
  have HCs : Hid ((s.extract 0 (s.size - 8)).size ≤ 64) := by (show _ ≤ _; rw [ByteArray.size_extract]; omega)
  have hcs : (coverOf s).size ≤ 64 := HCs.out
  have HCe : Hid (s.extract 0 (s.size - 8) = coverOf s) := rfl
  have hws := w64_size
  have hq : ((coverOf s ++ w64 t).toList == s.toList) = false := by
    rw [beq_eq_false_iff_ne]
    intro e
    have e2 : coverOf s ++ w64 t = s := toList_inj e
    rw [htg.out] at e2
    exact ho ((opens_iff key nonce path s s0).1 e2)
  clear h ho
  go_enter Tryd.func15, Tryd.ntmps15
  go_wp2_with (first | (go_at_call 36; refine (names_yes _ _ _ _ HG.out).mono ?_; rintro e y0 ⟨rfl, rfl⟩) | (go_at_call 38; refine (mark_any _ _ _ _ _ HG.out.1 HG.out.2.1 HG.out.2.2.2 HCs.out).mono ?_; rw [HCe.out, ← htg.out]; rintro e y2 ⟨rfl, hl2⟩))
  go_ret2
  exact ⟨rfl, hl2⟩
set_option maxHeartbeats 400000 in
theorem OpenR_no (key nonce path s : ByteArray) (w : World) (h : ¬ (goodP key nonce path ∧ 8 ≤ s.size ∧ s.size ≤ 72)) (hp : s.size ≤ maxLen) :
    Calls Tryd.prog 15 #[.string key, .string nonce, .string path, .string s] w fun e w' => e = .returned (.tuple #[.string ⟨#[]⟩, .int .i64 2]) ∧ Low w.heap.size w w' := by
  unfold maxLen at hp
  by_cases hg : goodP key nonce path
  · have HG : Hid (goodP key nonce path) := hg
    by_cases s0 : 8 ≤ s.size
    · have q1 : decide ((s.size : Int) < 8) = false := by simp; omega
      have q2 : decide ((72 : Int) < (s.size : Int)) = true := by
        have : ¬ s.size ≤ 72 := fun e => h ⟨hg, s0, e⟩
        simp; omega
      clear hg h
      go_enter Tryd.func15, Tryd.ntmps15
      go_wp2_with (go_at_call 36; refine (names_yes _ _ _ _ HG.out).mono ?_; rintro e y0 ⟨rfl, rfl⟩)
      go_ret2
      exact ⟨rfl, Low.refl _ _⟩
    · have q1 : decide ((s.size : Int) < 8) = true := by simp; omega
      clear hg h
      go_enter Tryd.func15, Tryd.ntmps15
      go_wp2_with (go_at_call 36; refine (names_yes _ _ _ _ HG.out).mono ?_; rintro e y0 ⟨rfl, rfl⟩)
      go_ret2
      exact ⟨rfl, Low.refl _ _⟩
  · have HG : Hid (¬ goodP key nonce path) := hg
    clear hg h
    go_enter Tryd.func15, Tryd.ntmps15
    go_wp2_with (go_at_call 36; refine (names_no _ _ _ _ HG.out).mono ?_; rintro e y0 ⟨rfl, rfl⟩)
    go_ret2
    exact ⟨rfl, Low.refl _ _⟩
end Go.Proofs.YtphapknfkbgapaaDoor
