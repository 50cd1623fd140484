import Derived.Test.YtnjkpghchgjbaaaGreatDoorRefs
import Derived.Test.YtnjkpghchgjbaaaGreatDoorRefBToRefC
namespace Go.Proofs.YtnjkpghchgjbaaaGreatDoor
open Go.RowKit

set_option maxHeartbeats 400000 in
theorem SealR_yes (key nonce path plain : ByteArray) (w : World) (h : goodP key nonce path) (ht : plain.size ≤ 64) :
    Calls Tryz.prog 84 #[.string key, .string nonce, .string path, .string plain] w fun e w' => e = .returned (.tuple #[.string (sealOf key nonce path plain), .int .i64 0]) ∧ Low w.heap.size w w' := by
  have HG : Hid (goodP key nonce path) := h
  clear h
  obtain ⟨C, hC⟩ : ∃ C, Hid (C = maskOf key nonce plain) := ⟨_, rfl⟩
  have hCs : C.size ≤ 64 := by rw [hC.out, maskOf_size]; exact ht
  obtain ⟨t, htg⟩ : ∃ t, Hid (t = tagI key nonce path C) := ⟨_, rfl⟩
  have hws := w64_size
  have hE : Hid (sealOf key nonce path plain = C ++ w64 t) := by rw [hC.out, htg.out, hC.out]; rfl
  go_enter Tryz.func84, Tryz.ntmps84
  go_wp2_with (first | (go_at_call 96; refine (names_yes _ _ _ _ HG.out).mono ?_; rintro e y0 ⟨rfl, rfl⟩) | (go_at_call 97; refine (mixed_any _ _ _ _ HG.out.1 HG.out.2.1 ht).mono ?_; rw [← hC.out]; rintro e y1 ⟨rfl, hb1⟩) | (go_at_call 98; refine (mark_any _ _ _ _ _ HG.out.1 HG.out.2.1 HG.out.2.2.2 hCs).mono ?_; rw [← htg.out]; rintro e y2 ⟨rfl, hl2⟩))
  go_ret2
  refine ⟨?_, (Low.of hb1).trans (hl2.mono hb1.size)⟩
  rw [hE.out]
  rfl
set_option maxHeartbeats 400000 in
theorem SealR_no (key nonce path plain : ByteArray) (w : World) (h : ¬ (goodP key nonce path ∧ plain.size ≤ 64)) (hp : plain.size ≤ maxLen) :
    Calls Tryz.prog 84 #[.string key, .string nonce, .string path, .string plain] w fun e w' => e = .returned (.tuple #[.string ⟨#[]⟩, .int .i64 2]) ∧ Low w.heap.size w w' := by
  unfold maxLen at hp
  by_cases hg : goodP key nonce path
  · have q : decide ((64 : Int) < (plain.size : Int)) = true := by
      have : ¬ plain.size ≤ 64 := fun e => h ⟨hg, e⟩
      simp; omega
    have HG : Hid (goodP key nonce path) := hg
    clear hg h
    go_enter Tryz.func84, Tryz.ntmps84
    go_wp2_with (go_at_call 96; refine (names_yes _ _ _ _ HG.out).mono ?_; rintro e y0 ⟨rfl, rfl⟩)
    go_ret2
    exact ⟨rfl, Low.refl _ _⟩
  · have HG : Hid (¬ goodP key nonce path) := hg
    clear hg h
    go_enter Tryz.func84, Tryz.ntmps84
    go_wp2_with (go_at_call 96; refine (names_no _ _ _ _ HG.out).mono ?_; rintro e y0 ⟨rfl, rfl⟩)
    go_ret2
    exact ⟨rfl, Low.refl _ _⟩

theorem toList_inj {a b : ByteArray} (e : a.toList = b.toList) : a = b := bytes_ext (by rw [← ByteArray.toList_eq, ← ByteArray.toList_eq]; exact e)

/-! A sealed text is its cover and its tag, written. -/
theorem wr32_rd32 (s : ByteArray) (p k : Nat) (hk : k < 4) : byteN (wr32 (rd32 s p)) k = byteN s (p + k) := by
  have b0 := byteAt_bd s p; have b1 := byteAt_bd s (p + 1); have b2 := byteAt_bd s (p + 2); have b3 := byteAt_bd s (p + 3)
  have key : ∀ (u : UInt8) (x : Int), x = (u.toNat : Int) → UInt8.ofNat x.toNat = u := by
    intro u x e; rw [e, Int.toNat_natCast, UInt8.ofNat_toNat]
  have hk' : k = 0 ∨ k = 1 ∨ k = 2 ∨ k = 3 := by omega
  rcases hk' with rfl | rfl | rfl | rfl
  · refine key _ _ ?_
    rw [Nat.add_zero, ← byteAt_N]; unfold rd32; omega
  · refine key _ _ ?_
    rw [← byteAt_N]; unfold rd32; omega
  · refine key _ _ ?_
    rw [← byteAt_N]; unfold rd32; omega
  · refine key _ _ ?_
    rw [← byteAt_N]; unfold rd32; omega
theorem w64_rd64 (s : ByteArray) (p k : Nat) (hk : k < 8) : byteN (w64 (rd64 s p)) k = byteN s (p + k) := by
  have e1 : rd64 s p % 4294967296 = rd32 s p := lo_rd64 s p
  have e2 : rd64 s p / 4294967296 = rd32 s (p + 4) := hi_rd64 s p
  unfold w64
  rw [e1, e2]
  by_cases h : k < 4
  · rw [byteN_append_left _ _ _ (by rw [wr32_size]; exact h), wr32_rd32 s p k h]
  · obtain ⟨j, rfl⟩ : ∃ j, k = 4 + j := ⟨k - 4, by omega⟩
    have := byteN_append_right (wr32 (rd32 s p)) (wr32 (rd32 s (p + 4))) j
    rw [wr32_size] at this
    rw [this, wr32_rd32 s (p + 4) j (by omega), Nat.add_assoc]
theorem byteN_cover (s : ByteArray) (k : Nat) (h : k < s.size - 8) : byteN (coverOf s) k = byteN s k := by
  unfold byteN coverOf
  rw [ByteArray.data_extract, Array.getElem?_extract]
  have : k < min (s.size - 8) s.data.size - 0 := by
    have : s.data.size = s.size := rfl
    omega
  rw [if_pos this, Nat.zero_add]
theorem whole (s : ByteArray) (h8 : 8 ≤ s.size) : coverOf s ++ w64 (rd64 s (s.size - 8)) = s := by
  have hsz : (coverOf s ++ w64 (rd64 s (s.size - 8))).size = s.size := by
    rw [ByteArray.size_append', coverOf_size, w64_size]; omega
  apply ext_byteN hsz
  intro k hk
  rw [hsz] at hk
  by_cases h : k < s.size - 8
  · rw [byteN_append_left _ _ _ (by rw [coverOf_size]; exact h), byteN_cover s k h]
  · obtain ⟨j, rfl⟩ : ∃ j, k = s.size - 8 + j := ⟨k - (s.size - 8), by omega⟩
    have := byteN_append_right (coverOf s) (w64 (rd64 s (s.size - 8))) j
    rw [coverOf_size] at this
    rw [this, w64_rd64 s (s.size - 8) j (by omega)]
theorem opens_iff (key nonce path s : ByteArray) (h8 : 8 ≤ s.size) : coverOf s ++ w64 (tagI key nonce path (coverOf s)) = s ↔ opens key nonce path s := by
  constructor
  · intro e
    have q := rd64_w64 (coverOf s) (tagI key nonce path (coverOf s)) (tagI_bd _ _ _ _)
    rw [e, coverOf_size] at q
    exact q
  · intro o
    unfold opens at o
    rw [← o]
    exact whole s h8

set_option maxHeartbeats 400000 in
theorem OpenR_yes (key nonce path s : ByteArray) (w : World) (h : goodP key nonce path) (s0 : 8 ≤ s.size) (s1 : s.size ≤ 72) (ho : opens key nonce path s) :
    Calls Tryz.prog 100 #[.string key, .string nonce, .string path, .string s] w fun e w' => e = .returned (.tuple #[.string (maskOf key nonce (coverOf s)), .int .i64 0]) ∧ Low w.heap.size w w' := by
  have HG : Hid (goodP key nonce path) := h
  obtain ⟨t, htg⟩ : ∃ t, Hid (t = tagI key nonce path (coverOf s)) := ⟨_, rfl⟩
  have HCs : Hid ((s.extract 0 (s.size - 8)).size ≤ 64) := by (show _ ≤ _; rw [ByteArray.size_extract]; omega)
  have hcs : (coverOf s).size ≤ 64 := HCs.out
  have HCe : Hid (s.extract 0 (s.size - 8) = coverOf s) := rfl
  have hws := w64_size
  have hq : ((coverOf s ++ w64 t).toList == s.toList) = true := by
    have e : coverOf s ++ w64 t = s := by rw [htg.out]; exact (opens_iff key nonce path s s0).2 ho
    rw [e]; exact beq_self_eq_true _
  clear h ho
  go_enter Tryz.func100, Tryz.ntmps100
  go_wp2_with (first | (go_at_call 96; refine (names_yes _ _ _ _ HG.out).mono ?_; rintro e y0 ⟨rfl, rfl⟩) | (go_at_call 98; refine (mark_any _ _ _ _ _ HG.out.1 HG.out.2.1 HG.out.2.2.2 HCs.out).mono ?_; rw [HCe.out, ← htg.out]; rintro e y2 ⟨rfl, hl2⟩) | (go_at_call 97; refine (mixed_any _ _ _ _ HG.out.1 HG.out.2.1 HCs.out).mono ?_; rintro e y3 ⟨rfl, hb3⟩))
  go_ret2
  exact ⟨rfl, hl2.trans ((Low.of hb3).mono hl2.size)⟩
set_option maxHeartbeats 400000 in
theorem OpenR_bad (key nonce path s : ByteArray) (w : World) (h : goodP key nonce path) (s0 : 8 ≤ s.size) (s1 : s.size ≤ 72) (ho : ¬ opens key nonce path s) :
    Calls Tryz.prog 100 #[.string key, .string nonce, .string path, .string s] w fun e w' => e = .returned (.tuple #[.string ⟨#[]⟩, .int .i64 3]) ∧ Low w.heap.size w w' := by
  have HG : Hid (goodP key nonce path) := h
  obtain ⟨t, htg⟩ : ∃ t, Hid (t = tagI key nonce path (coverOf s)) := ⟨_, rfl⟩
  have HCs : Hid ((s.extract 0 (s.size - 8)).size ≤ 64) := by (show _ ≤ _; rw [ByteArray.size_extract]; omega)
  have hcs : (coverOf s).size ≤ 64 := HCs.out
  have HCe : Hid (s.extract 0 (s.size - 8) = coverOf s) := rfl
  have hws := w64_size
  have hq : ((coverOf s ++ w64 t).toList == s.toList) = false := by
    rw [beq_eq_false_iff_ne]
    intro e
    have e2 : coverOf s ++ w64 t = s := toList_inj e
    rw [htg.out] at e2
    exact ho ((opens_iff key nonce path s s0).1 e2)
  clear h ho
  go_enter Tryz.func100, Tryz.ntmps100
  go_wp2_with (first | (go_at_call 96; refine (names_yes _ _ _ _ HG.out).mono ?_; rintro e y0 ⟨rfl, rfl⟩) | (go_at_call 98; refine (mark_any _ _ _ _ _ HG.out.1 HG.out.2.1 HG.out.2.2.2 HCs.out).mono ?_; rw [HCe.out, ← htg.out]; rintro e y2 ⟨rfl, hl2⟩))
  go_ret2
  exact ⟨rfl, hl2⟩
set_option maxHeartbeats 400000 in
theorem OpenR_no (key nonce path s : ByteArray) (w : World) (h : ¬ (goodP key nonce path ∧ 8 ≤ s.size ∧ s.size ≤ 72)) (hp : s.size ≤ maxLen) :
    Calls Tryz.prog 100 #[.string key, .string nonce, .string path, .string s] w fun e w' => e = .returned (.tuple #[.string ⟨#[]⟩, .int .i64 2]) ∧ Low w.heap.size w w' := by
  unfold maxLen at hp
  by_cases hg : goodP key nonce path
  · have HG : Hid (goodP key nonce path) := hg
    by_cases s0 : 8 ≤ s.size
    · have q1 : decide ((s.size : Int) < 8) = false := by simp; omega
      have q2 : decide ((72 : Int) < (s.size : Int)) = true := by
        have : ¬ s.size ≤ 72 := fun e => h ⟨hg, s0, e⟩
        simp; omega
      clear hg h
      go_enter Tryz.func100, Tryz.ntmps100
      go_wp2_with (go_at_call 96; refine (names_yes _ _ _ _ HG.out).mono ?_; rintro e y0 ⟨rfl, rfl⟩)
      go_ret2
      exact ⟨rfl, Low.refl _ _⟩
    · have q1 : decide ((s.size : Int) < 8) = true := by simp; omega
      clear hg h
      go_enter Tryz.func100, Tryz.ntmps100
      go_wp2_with (go_at_call 96; refine (names_yes _ _ _ _ HG.out).mono ?_; rintro e y0 ⟨rfl, rfl⟩)
      go_ret2
      exact ⟨rfl, Low.refl _ _⟩
  · have HG : Hid (¬ goodP key nonce path) := hg
    clear hg h
    go_enter Tryz.func100, Tryz.ntmps100
    go_wp2_with (go_at_call 96; refine (names_no _ _ _ _ HG.out).mono ?_; rintro e y0 ⟨rfl, rfl⟩)
    go_ret2
    exact ⟨rfl, Low.refl _ _⟩
end Go.Proofs.YtnjkpghchgjbaaaGreatDoor
namespace Go.Proofs.YtnjkpghchgjbaaaGreatDoor
open Go.RowKit

theorem seal_pair (key nonce path plain : ByteArray) (hp : plain.size ≤ maxLen) : ∃ (A : ByteArray) (E : Int), A.size ≤ maxLen ∧
    (∀ w, Fours w → 1 ≤ w.heap.size → Calls Tryz.prog 95 #[.string key, .string nonce, .string path, .string plain] w fun e w' => e = .returned (.tuple #[.string A, .int .i64 E]) ∧ Low w.heap.size w w') ∧
    (∀ w, Calls Tryz.prog 84 #[.string key, .string nonce, .string path, .string plain] w fun e w' => e = .returned (.tuple #[.string A, .int .i64 E]) ∧ Low w.heap.size w w') := by
  by_cases h : goodP key nonce path ∧ plain.size ≤ 64
  · exact ⟨sealOf key nonce path plain, 0, by rw [sealOf_size]; unfold maxLen; omega, fun w hF h1 => Seal_yes _ _ _ _ w h.1 h.2 hF h1, fun w => SealR_yes _ _ _ _ w h.1 h.2⟩
  · exact ⟨⟨#[]⟩, 2, Nat.zero_le _, fun w _ _ => Seal_no _ _ _ _ w h hp, fun w => SealR_no _ _ _ _ w h hp⟩
theorem open_pair (key nonce path s : ByteArray) (hp : s.size ≤ maxLen) : ∃ (A : ByteArray) (E : Int),
    (∀ w, Fours w → 1 ≤ w.heap.size → Calls Tryz.prog 99 #[.string key, .string nonce, .string path, .string s] w fun e w' => e = .returned (.tuple #[.string A, .int .i64 E]) ∧ Low w.heap.size w w') ∧
    (∀ w, Calls Tryz.prog 100 #[.string key, .string nonce, .string path, .string s] w fun e w' => e = .returned (.tuple #[.string A, .int .i64 E]) ∧ Low w.heap.size w w') := by
  by_cases h : goodP key nonce path ∧ 8 ≤ s.size ∧ s.size ≤ 72
  · by_cases ho : opens key nonce path s
    · exact ⟨maskOf key nonce (coverOf s), 0, fun w hF h1 => Open_yes _ _ _ _ w h.1 h.2.1 h.2.2 ho hF h1, fun w => OpenR_yes _ _ _ _ w h.1 h.2.1 h.2.2 ho⟩
    · exact ⟨⟨#[]⟩, 3, fun w _ _ => Open_bad _ _ _ _ w h.1 h.2.1 h.2.2 ho, fun w => OpenR_bad _ _ _ _ w h.1 h.2.1 h.2.2 ho⟩
  · exact ⟨⟨#[]⟩, 2, fun w _ _ => Open_no _ _ _ _ w h hp, fun w => OpenR_no _ _ _ _ w h hp⟩

end Go.Proofs.YtnjkpghchgjbaaaGreatDoor
namespace Go.Proofs.YtnjkpghchgjbaaaGreatDoor
open Go.RowKit

variable {F : Nat → Prop} {b : Nat} {Y : RS}

def isPath (p : ByteArray) : Bool := decide (0 < p.size) && decide (p.size ≤ 16)
theorem path_any (w : World) (p : ByteArray) (hp : p.size ≤ maxLen) :
    Calls Tryz.prog 78 #[.string p] w fun e w' => e = .returned (.bool (isPath p)) ∧ w' = w := by
  unfold maxLen at hp
  by_cases h1 : 0 < p.size
  · have q1 : decide ((0 : Int) < (p.size : Int)) = true := by simp; omega
    by_cases h2 : p.size ≤ 16
    · have q2 : decide ((p.size : Int) ≤ 16) = true := by simp; omega
      have HE : Hid (isPath p = true) := by show _ = _; simp [isPath, h1, h2]
      go_enter Tryz.func78, Tryz.ntmps78
      go_wp2
      go_ret
      exact ⟨by rw [HE.out]; simp, rfl⟩
    · have q2 : decide ((p.size : Int) ≤ 16) = false := by simp; omega
      have HE : Hid (isPath p = false) := by show _ = _; simp [isPath, h2]
      go_enter Tryz.func78, Tryz.ntmps78
      go_wp2
      go_ret
      exact ⟨by rw [HE.out]; simp, rfl⟩
  · have q1 : decide ((0 : Int) < (p.size : Int)) = false := by rw [decide_eq_false_iff_not]; omega
    have HE : Hid (isPath p = false) := by show _ = _; simp [isPath, h1]
    go_enter Tryz.func78, Tryz.ntmps78
    go_wp2
    go_ret
    exact ⟨by rw [HE.out]; simp, rfl⟩
def fullOf (Y : RS) : Bool := decide (Y.room ≤ ((keptOf Y.all).length : Int))
set_option maxHeartbeats 400000 in
theorem full_any (w : World) (h : RIn w F b Y) (hn : Y.all.length ≤ 100000000) :
    Calls Tryz.prog 70 #[.pointer (some ⟨b, 0, none⟩)] w fun e w' => e = .returned (.bool (fullOf Y)) ∧ Low w.heap.size w w' := by
  have HR := hid h
  clear h
  go_enter Tryz.func70, Tryz.ntmps70
  go_wp2_with (go_at_call 57; refine (Entries_any _ HR.out hn).mono ?_; rintro e y1 ⟨v, rfl, l1, o1, b1⟩; obtain ⟨a, cap, rfl, _, _⟩ := ownsRow_view o1; have c1 := (HR.out.low l1).room; have L1 := hid l1; clear l1 o1 b1)
  go_ret
  exact ⟨by simp [fullOf], L1.out⟩
/-- The state as it is told. -/
def stCells (rev floor epoch write turn : Int) : List Value := [.int .i64 rev, .int .i64 floor, .int .i64 epoch, .int .i64 write, .int .i64 turn]
theorem sz54 (a b c d e : Int) : (Tryz.prog.info? 54).map (·.size) = some (stCells a b c d e).length := show _ = some 5 by kernel_rfl
set_option maxRecDepth 100000 in
set_option maxHeartbeats 400000 in
theorem State_any (w : World) (h : RIn w F b Y) (hk : Y.keys.length ≤ 6) :
    Calls Tryz.prog 55 #[.pointer (some ⟨b, 0, none⟩)] w fun e w' => e = .returned (.agg (stCells Y.all.length Y.floor Y.epoch (writesOf Y.keys Y.epoch) Y.turn).toArray) ∧ Low w.heap.size w w' := by
  obtain ⟨a, cap, hc, _⟩ := h.all
  rw [List.length_map] at hc
  have c7 := h.epoch
  have c8 := h.floor
  have c10 := h.turn
  have hb := h.lt
  have HR := hid h
  clear h
  go_enter Tryz.func55, Tryz.ntmps55
  go_upto_region 2 with (go_at_call 64; refine (writes_any _ _ (by exact HR.out.alloc _) hk).mono ?_; rintro e y1 ⟨rfl, rfl⟩)
  go_region
  all_goals go_wp2_with fail
  refine bodyPost_ret (results_cell rfl w.heap.size (stCells Y.all.length Y.floor Y.epoch (writesOf Y.keys Y.epoch) Y.turn) _ rfl (by exact (Blk.new w 54 (stCells Y.all.length Y.floor Y.epoch (writesOf Y.keys Y.epoch) Y.turn)).whole) Tryz.underlying54 rfl (sz54 _ _ _ _ _)) rfl ?_
  exact ⟨rfl, ((Low.refl _ w).alloc (Nat.le_refl _) _).drew⟩
/-- The bytes of a draw's nonce. -/
def nonceB (n : Int) (j : Nat) : UInt8 := UInt8.ofNat (n / 256 ^ j % 256).toNat
def nonceTo (n : Int) (k : Nat) : ByteArray := ⟨((List.range k).map (nonceB n)).toArray⟩
theorem nonceTo_size (n : Int) (k : Nat) : (nonceTo n k).size = k := by simp [nonceTo, ByteArray.size]
theorem nonceTo_succ (n : Int) (k : Nat) : nonceTo n (k + 1) = nonceTo n k ++ ⟨#[nonceB n k]⟩ := by
  apply ByteArray.ext
  simp [nonceTo, List.range_succ]
theorem bytes256 (x : Int) (h : 0 ≤ x) : 0 ≤ x / 256 := Int.ediv_nonneg h (by omega)
set_option maxRecDepth 100000 in
set_option maxHeartbeats 400000 in
theorem drawn_any (w : World) (n : Int) (h0 : 0 ≤ n) (h1 : n ≤ 1000000000000) :
    Calls Tryz.prog 85 #[.int .i64 n] w fun e w' => e = .returned (.string (nonceTo n 12)) ∧ Low w.heap.size w w' := by
  have hns := nonceTo_size n
  go_enter Tryz.func85, Tryz.ntmps85
  go_wp2
  go_loopw [0, 3, 4] (fun nv sv iv wr => ∃ (i : Nat) (x : Int) (s : ByteArray), i ≤ 12 ∧ 0 ≤ x ∧ x ≤ 1000000000000 ∧ s.size ≤ 12 ∧ nv = .int .i64 x ∧ sv = .string s ∧ iv = .int .i64 (i : Int) ∧ Hid (x = n / 256 ^ i ∧ s = nonceTo n i ∧ Low w.heap.size w wr)) (fun _ _ iv _ => 12 - (intOf iv).toNat)
  case atStart => exact ⟨0, n, nonceTo n 0, by omega, h0, h1, by rw [hns]; omega, rfl, rfl, rfl, by simp, rfl, Low.refl _ _⟩
  case round =>
    obtain ⟨i, x, s, hi, x0, x1, hs, rfl, rfl, rfl, HI⟩ := hrel
    clear h0 h1 hns
    by_cases h2 : i < 12
    · have q1 : decide ((i : Int) < 12) = true := by simp; omega
      obtain ⟨y, hy⟩ : ∃ y : Nat, x % 256 = (y : Int) := ⟨(x % 256).toNat, by omega⟩
      have y1 : y < 256 := by omega
      have hcv := conv1 wr y y1
      have HY := hid hy
      have t1 : Int.tmod x 256 = (y : Int) := by rw [Int.tmod_eq_emod_of_nonneg x0]; exact hy
      have t2 : Int.tdiv x 256 = x / 256 := Int.tdiv_eq_ediv_of_nonneg x0
      have hz := bytes256 x x0
      clear hy
      go_wp2_with fail
      obtain ⟨e1, e2, e3⟩ := HI.out
      have eb : (⟨#[UInt8.ofNat y]⟩ : ByteArray) = ⟨#[nonceB n i]⟩ := by
        unfold nonceB
        rw [← e1, HY.out, Int.toNat_natCast]
      have es : s ++ ⟨#[UInt8.ofNat y]⟩ = nonceTo n (i + 1) := by rw [nonceTo_succ, ← e2, eb]
      refine ⟨⟨i + 1, x / 256, nonceTo n (i + 1), by omega, hz, by omega, by rw [nonceTo_size]; omega, rfl, by rw [es], by simp, ?_, rfl, e3.alloc e3.size _⟩, by simp [intOf]; omega⟩
      rw [e1, Int.ediv_ediv_of_nonneg (Int.pow_nonneg (by omega)), ← Int.pow_succ]
    · have q1 : decide ((i : Int) < 12) = false := by simp; omega
      obtain rfl : i = 12 := by omega
      go_wp2_with fail
      go_ret
      exact ⟨by rw [HI.out.2.1]; rfl, HI.out.2.2⟩
end Go.Proofs.YtnjkpghchgjbaaaGreatDoor
