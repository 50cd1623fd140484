import Derived.Test.YtphapknfkbgapaaDoorRows
import Derived.Test.YtphapknfkbgapaaDoorPlain
import Derived.WalkKit
import Derived.WalkSpells
import Derived.WalkLawsBesides
import Derived.BigRegion
import Derived.Deep.QuietTactic
import Derived.BigQuiet
namespace Go.Proofs.YtphapknfkbgapaaDoor
open Go.RowKit
theorem wrap64_small (x : Int) (h0 : 0 ≤ x) (h1 : x < 281474976710656) : wrap64 x = x := by
  unfold wrap64; omega
theorem bcell {W w1 : World} (hb : Below W.heap.size W w1) : (∀ b o, b < W.heap.size → w1.cell? ⟨b, o, none⟩ = W.cell? ⟨b, o, none⟩) ∧ (∀ b o, b < W.heap.size → w1.frozen? ⟨b, o, none⟩ = W.frozen? ⟨b, o, none⟩) :=
  ⟨fun b o h => hb.cell (p := ⟨b, o, none⟩) h, fun b o h => hb.frozen (p := ⟨b, o, none⟩) h⟩
theorem ret_int {k : IntKind} {a b : Int} (h : a = b) : Ending.returned (.int k a) = .returned (.int k b) := by rw [h]
set_option maxHeartbeats 400000 in
theorem read32_any (s : ByteArray) (p : Int) (w : World) (hs : s.size ≤ 1000) (h0 : 0 ≤ p) (hp : p + 4 ≤ s.size) :
    Calls Tryd.prog 68 #[.string s, .int .i64 p] w fun e w' => e = .returned (.int .u32 (rd32 s p.toNat)) ∧ w' = w := by
  obtain ⟨p, rfl⟩ := Int.eq_ofNat_of_zero_le h0
  rw [Int.toNat_natCast]
  go_enter Tryd.func68, Tryd.ntmps68
  go_wp2
  go_loop [5, 6] (fun t i => ∃ j : Nat, j ≤ 4 ∧ i = .int .i64 (3 - j) ∧ t = .int .u32 (acc32 s p j)) (fun _ i => (intOf i + 1).toNat)
  case atStart => exact ⟨0, by omega, rfl, rfl⟩
  case round =>
    obtain ⟨j, hj, rfl, rfl⟩ := hrel
    by_cases hlt : j < 4
    · have hb := byteAt_bd s (p + (3 - j))
      have ha := acc32_bd s p j hlt
      have hg := byteAt_get s (p + (3 - j)) (by omega)
      have HG : Hid (byteAt s (p + (3 - j)) = ((s[p + (3 - j)]'(by omega)).toNat : Int)) := hg
      clear hg
      go_wp2
      go_round
      case rel =>
        refine ⟨j + 1, by omega, by go_num, ?_⟩
        have ej := or32_join _ _ ha.1 ha.2 hb.1 hb.2
        rw [Int.emod_eq_of_lt (a := acc32 s p j * 256) (by omega) (by omega)] at ej
        rw [← HG.out, ej]
        rfl
      case measure => simp [intOf]; omega
    · go_wp2
      go_ret
      have : j = 4 := by omega
      subst this
      exact ⟨ret_int (acc32_four s p), rfl⟩
set_option maxHeartbeats 400000 in
theorem read64_any (s : ByteArray) (p : Int) (w : World) (hs : s.size ≤ 1000) (h0 : 0 ≤ p) (hp : p + 8 ≤ s.size) :
    Calls Tryd.prog 39 #[.string s, .int .i64 p] w fun e w' => e = .returned (.int .u64 (rd64 s p.toNat)) ∧ w' = w := by
  have b1 := rd32_bd s (p + 4).toNat
  have b2 := rd32_bd s p.toNat
  have HE : Hid (rd32 s (p + 4).toNat * 4294967296 + rd32 s p.toNat = rd64 s p.toNat) := by
    show _ = _
    unfold rd64
    rw [show (p + 4).toNat = p.toNat + 4 by omega]
  go_enter Tryd.func39, Tryd.ntmps39
  go_wp2_with (go_at_call 68; refine (read32_any _ _ _ hs (by omega) (by omega)).mono ?_; rintro e w' ⟨rfl, rfl⟩)
  go_ret
  exact ⟨ret_int ((or64_join _ _ b1.1 b1.2 b2.1 b2.2).trans HE.out), rfl⟩
set_option maxHeartbeats 400000 in
theorem rread_any (s : ByteArray) (p : Int) (w : World) (hs : s.size ≤ 1000) (h0 : 0 ≤ p) (hp : p + 4 ≤ s.size) :
    Calls Tryd.prog 62 #[.string s, .int .i64 p] w fun e w' => e = .returned (.int .i64 (rd32 s p.toNat)) ∧ ∃ n, w' = w.drewN n := by
  obtain ⟨p, rfl⟩ := Int.eq_ofNat_of_zero_le h0
  rw [Int.toNat_natCast]
  have q0 : (p : Int) < (s.size : Int) := by omega
  have q1 : (p : Int) + 1 < (s.size : Int) := by omega
  have q2 : (p : Int) + 2 < (s.size : Int) := by omega
  have q3 : (p : Int) + 3 < (s.size : Int) := by omega
  have r1 : (0 : Int) ≤ (p : Int) + 1 := by omega
  have r2 : (0 : Int) ≤ (p : Int) + 2 := by omega
  have r3 : (0 : Int) ≤ (p : Int) + 3 := by omega
  go_enter Tryd.func62, Tryd.ntmps62
  go_wp2
  go_quiet (fail)
  go_wp2
  go_ret
  refine ⟨ret_int ?_, _, rfl⟩
  have b0 := byteAt_bd s p; have b1 := byteAt_bd s (p + 1); have b2 := byteAt_bd s (p + 2); have b3 := byteAt_bd s (p + 3)
  rw [← byteAt_get s p (by omega), ← byteAt_get s (p + 1) (by omega), ← byteAt_get s (p + 2) (by omega), ← byteAt_get s (p + 3) (by omega)]
  unfold rd32
  generalize byteAt s p = x0 at *
  generalize byteAt s (p + 1) = x1 at *
  generalize byteAt s (p + 2) = x2 at *
  generalize byteAt s (p + 3) = x3 at *
  rw [wrap64_small x0 (by omega) (by omega), wrap64_small x1 (by omega) (by omega), wrap64_small x2 (by omega) (by omega), wrap64_small x3 (by omega) (by omega),
    wrap64_small (256 * x1) (by omega) (by omega), wrap64_small (65536 * x2) (by omega) (by omega), wrap64_small (16777216 * x3) (by omega) (by omega),
    wrap64_small (x0 + 256 * x1) (by omega) (by omega), wrap64_small (x0 + 256 * x1 + 65536 * x2) (by omega) (by omega), wrap64_small _ (by omega) (by omega)]
set_option maxHeartbeats 400000 in
theorem either_any (x y : Int) (w : World) (hx : Hid (In64 x)) (hy : Hid (In64 y)) :
    Calls Tryd.prog 95 #[.agg #[.int .i64 (hi x), .int .i64 (lo x)], .agg #[.int .i64 (hi y), .int .i64 (lo y)]] w fun e w' => e = .returned (.agg #[.int .i64 (hi (xor64 x y)), .int .i64 (lo (xor64 x y))]) ∧ Below w.heap.size w w' := by
  go_enter Tryd.func95, Tryd.ntmps95
  go_wp2
  refine bodyPost_ret (v := .agg #[.int .i64 (bits .xor .i64 (hi x) (hi y)), .int .i64 (bits .xor .i64 (lo x) (lo y))]) (by simp [results, Tryd.results95, go_sem]) rfl ⟨by rw [hi_xor x y hx.out hy.out, lo_xor x y hx.out hy.out], ?_⟩
  exact (((Below.refl _ _).alloc (Nat.le_refl _) _).alloc (by simp) _).alloc (by simp; omega) _
set_option maxHeartbeats 400000 in
theorem plus_any (x y : Int) (w : World) (hx : Hid (In64 x)) (hy : Hid (In64 y)) :
    Calls Tryd.prog 116 #[.agg #[.int .i64 (hi x), .int .i64 (lo x)], .agg #[.int .i64 (hi y), .int .i64 (lo y)]] w fun e w' => e = .returned (.agg #[.int .i64 (hi (add64 x y)), .int .i64 (lo (add64 x y))]) ∧ Below w.heap.size w w' := by
  have h1 := hi_bd x hx.out
  have h2 := hi_bd y hy.out
  have h3 := lo_bd x
  have h4 := lo_bd y
  go_enter Tryd.func116, Tryd.ntmps116
  go_wp2
  refine bodyPost_ret (v := .agg #[.int .i64 ((hi x + hi y + (lo x + lo y) / 4294967296) % 4294967296), .int .i64 ((lo x + lo y) % 4294967296)]) (by simp [results, Tryd.results116, go_sem]) rfl ⟨by rw [hi_add x y, lo_add x y], ?_⟩
  exact (((Below.refl _ _).alloc (Nat.le_refl _) _).alloc (by simp) _).alloc (by simp; omega) _

set_option maxHeartbeats 400000 in
theorem long_any (s : ByteArray) (p : Int) (w : World) (hs : s.size ≤ 1000) (h0 : 0 ≤ p) (hp : p + 8 ≤ s.size) :
    Calls Tryd.prog 94 #[.string s, .int .i64 p] w fun e w' => e = .returned (.agg #[.int .i64 (hi (rd64 s p.toNat)), .int .i64 (lo (rd64 s p.toNat))]) ∧ Below w.heap.size w w' := by
  have e0 : (p + 4).toNat = p.toNat + 4 := by omega
  have E0 : Hid ((p + 4).toNat = p.toNat + 4) := e0
  clear e0
  go_enter Tryd.func94, Tryd.ntmps94
  go_wp2_with (go_at_call 62; refine (rread_any _ _ _ hs (by omega) (by omega)).mono ?_; rintro e w' ⟨rfl, n, rfl⟩)
  refine bodyPost_ret (v := .agg #[.int .i64 (rd32 s (p + 4).toNat), .int .i64 (rd32 s p.toNat)]) (by simp [results, Tryd.results94, go_sem]) rfl ⟨by rw [hi_rd64, lo_rd64, E0.out], ?_⟩
  exact ((below_drewN ((Below.refl _ _).alloc (Nat.le_refl _) _) _).setCell (Nat.le_refl _) _).setCell (Nat.le_refl _) _
set_option maxHeartbeats 400000 in
theorem power_any (n : Int) (w : World) (h0 : 0 ≤ n) (h1 : n ≤ 31) :
    Calls Tryd.prog 114 #[.int .i64 n] w fun e w' => e = .returned (.int .i64 (2 ^ n.toNat)) ∧ w' = w := by
  obtain ⟨n, rfl⟩ := Int.eq_ofNat_of_zero_le h0
  rw [Int.toNat_natCast]
  go_enter Tryd.func114, Tryd.ntmps114
  go_wp2
  go_loop [3, 4] (fun t i => ∃ j : Nat, j ≤ n ∧ i = .int .i64 j ∧ ∃ p : Int, Hid (p = 2 ^ j) ∧ t = .int .i64 p ∧ 0 ≤ p ∧ p ≤ 2147483648) (fun _ i => n - (intOf i).toNat)
  case atStart => exact ⟨0, by omega, rfl, 1, rfl, rfl, by omega, by omega⟩
  case round =>
    obtain ⟨j, hj, rfl, p, hp, rfl, p0, p1⟩ := hrel
    by_cases hlt : j < n
    · go_wp2
      go_round
      case rel =>
        have hq : 2 * p = 2 ^ (j + 1) := by rw [hp.out, Int.pow_succ, Int.mul_comm]
        have hb : (2 : Int) ^ (j + 1) ≤ 2 ^ 31 := by
          have : (2 : Nat) ^ (j + 1) ≤ 2 ^ 31 := Nat.pow_le_pow_right (by omega) (by omega)
          exact_mod_cast this
        exact ⟨j + 1, by omega, by go_num, 2 * p, hq, rfl, by omega, by omega⟩
      case measure => simp [intOf]; omega
    · go_wp2
      go_ret
      have : j = n := by omega
      subst this
      exact ⟨ret_int hp.out, rfl⟩
set_option maxHeartbeats 400000 in
theorem turned13 (x : Int) (w : World) (hx : Hid (In64 x)) :
    Calls Tryd.prog 117 #[.agg #[.int .i64 (hi x), .int .i64 (lo x)], .int .i64 13] w fun e w' => e = .returned (.agg #[.int .i64 (hi (rot64 13 x)), .int .i64 (lo (rot64 13 x))]) ∧ Below w.heap.size w w' := by
  have h1 := hi_bd x hx.out
  have h3 := lo_bd x
  have hpw : ∀ w, Calls Tryd.prog 114 #[.int .i64 13] w fun e w' => e = .returned (.int .i64 8192) ∧ w' = w := fun w => power_any 13 w (by omega) (by omega)
  have HP : Hid _ := hpw
  clear hpw
  go_enter Tryd.func117, Tryd.ntmps117
  go_wp2_with (go_at_call 114; refine (HP.out _).mono ?_; rintro e w' ⟨rfl, rfl⟩)
  refine bodyPost_ret (v := .agg #[.int .i64 (hi x * 8192 % 4294967296 + lo x * 8192 / 4294967296), .int .i64 (lo x * 8192 % 4294967296 + hi x * 8192 / 4294967296)]) (by simp [results, Tryd.results117, go_sem]) rfl ⟨by rw [rot_hi13 x hx.out, rot_lo13 x hx.out], ?_⟩
  exact ((Below.refl _ _).alloc (Nat.le_refl _) _).alloc (by simp) _
set_option maxHeartbeats 400000 in
theorem turned16 (x : Int) (w : World) (hx : Hid (In64 x)) :
    Calls Tryd.prog 117 #[.agg #[.int .i64 (hi x), .int .i64 (lo x)], .int .i64 16] w fun e w' => e = .returned (.agg #[.int .i64 (hi (rot64 16 x)), .int .i64 (lo (rot64 16 x))]) ∧ Below w.heap.size w w' := by
  have h1 := hi_bd x hx.out
  have h3 := lo_bd x
  have hpw : ∀ w, Calls Tryd.prog 114 #[.int .i64 16] w fun e w' => e = .returned (.int .i64 65536) ∧ w' = w := fun w => power_any 16 w (by omega) (by omega)
  have HP : Hid _ := hpw
  clear hpw
  go_enter Tryd.func117, Tryd.ntmps117
  go_wp2_with (go_at_call 114; refine (HP.out _).mono ?_; rintro e w' ⟨rfl, rfl⟩)
  refine bodyPost_ret (v := .agg #[.int .i64 (hi x * 65536 % 4294967296 + lo x * 65536 / 4294967296), .int .i64 (lo x * 65536 % 4294967296 + hi x * 65536 / 4294967296)]) (by simp [results, Tryd.results117, go_sem]) rfl ⟨by rw [rot_hi16 x hx.out, rot_lo16 x hx.out], ?_⟩
  exact ((Below.refl _ _).alloc (Nat.le_refl _) _).alloc (by simp) _
set_option maxHeartbeats 400000 in
theorem turned17 (x : Int) (w : World) (hx : Hid (In64 x)) :
    Calls Tryd.prog 117 #[.agg #[.int .i64 (hi x), .int .i64 (lo x)], .int .i64 17] w fun e w' => e = .returned (.agg #[.int .i64 (hi (rot64 17 x)), .int .i64 (lo (rot64 17 x))]) ∧ Below w.heap.size w w' := by
  have h1 := hi_bd x hx.out
  have h3 := lo_bd x
  have hpw : ∀ w, Calls Tryd.prog 114 #[.int .i64 17] w fun e w' => e = .returned (.int .i64 131072) ∧ w' = w := fun w => power_any 17 w (by omega) (by omega)
  have HP : Hid _ := hpw
  clear hpw
  go_enter Tryd.func117, Tryd.ntmps117
  go_wp2_with (go_at_call 114; refine (HP.out _).mono ?_; rintro e w' ⟨rfl, rfl⟩)
  refine bodyPost_ret (v := .agg #[.int .i64 (hi x * 131072 % 4294967296 + lo x * 131072 / 4294967296), .int .i64 (lo x * 131072 % 4294967296 + hi x * 131072 / 4294967296)]) (by simp [results, Tryd.results117, go_sem]) rfl ⟨by rw [rot_hi17 x hx.out, rot_lo17 x hx.out], ?_⟩
  exact ((Below.refl _ _).alloc (Nat.le_refl _) _).alloc (by simp) _
set_option maxHeartbeats 400000 in
theorem turned21 (x : Int) (w : World) (hx : Hid (In64 x)) :
    Calls Tryd.prog 117 #[.agg #[.int .i64 (hi x), .int .i64 (lo x)], .int .i64 21] w fun e w' => e = .returned (.agg #[.int .i64 (hi (rot64 21 x)), .int .i64 (lo (rot64 21 x))]) ∧ Below w.heap.size w w' := by
  have h1 := hi_bd x hx.out
  have h3 := lo_bd x
  have hpw : ∀ w, Calls Tryd.prog 114 #[.int .i64 21] w fun e w' => e = .returned (.int .i64 2097152) ∧ w' = w := fun w => power_any 21 w (by omega) (by omega)
  have HP : Hid _ := hpw
  clear hpw
  go_enter Tryd.func117, Tryd.ntmps117
  go_wp2_with (go_at_call 114; refine (HP.out _).mono ?_; rintro e w' ⟨rfl, rfl⟩)
  refine bodyPost_ret (v := .agg #[.int .i64 (hi x * 2097152 % 4294967296 + lo x * 2097152 / 4294967296), .int .i64 (lo x * 2097152 % 4294967296 + hi x * 2097152 / 4294967296)]) (by simp [results, Tryd.results117, go_sem]) rfl ⟨by rw [rot_hi21 x hx.out, rot_lo21 x hx.out], ?_⟩
  exact ((Below.refl _ _).alloc (Nat.le_refl _) _).alloc (by simp) _
set_option maxHeartbeats 400000 in
theorem turned0 (h l : Int) (w : World) (h0 : 0 ≤ h) (h1 : h < 4294967296) (l0 : 0 ≤ l) (l1 : l < 4294967296) :
    Calls Tryd.prog 117 #[.agg #[.int .i64 h, .int .i64 l], .int .i64 0] w fun e w' => e = .returned (.agg #[.int .i64 h, .int .i64 l]) ∧ Below w.heap.size w w' := by
  have hpw : ∀ w, Calls Tryd.prog 114 #[.int .i64 0] w fun e w' => e = .returned (.int .i64 1) ∧ w' = w := fun w => power_any 0 w (by omega) (by omega)
  have HP : Hid _ := hpw
  clear hpw
  have E1 : Hid (h % 4294967296 + l / 4294967296 = h) := by show _ = _; omega
  have E2 : Hid (l % 4294967296 + h / 4294967296 = l) := by show _ = _; omega
  go_enter Tryd.func117, Tryd.ntmps117
  go_wp2_with (go_at_call 114; refine (HP.out _).mono ?_; rintro e w' ⟨rfl, rfl⟩)
  refine bodyPost_ret (v := .agg #[.int .i64 (h % 4294967296 + l / 4294967296), .int .i64 (l % 4294967296 + h / 4294967296)]) (by simp [results, Tryd.results117, go_sem]) rfl ⟨by rw [E1.out, E2.out], ?_⟩
  exact ((Below.refl _ _).alloc (Nat.le_refl _) _).alloc (by simp) _
set_option maxHeartbeats 400000 in
theorem turned32 (x : Int) (w : World) (hx : Hid (In64 x)) :
    Calls Tryd.prog 117 #[.agg #[.int .i64 (hi x), .int .i64 (lo x)], .int .i64 32] w fun e w' => e = .returned (.agg #[.int .i64 (hi (rot64 32 x)), .int .i64 (lo (rot64 32 x))]) ∧ Below w.heap.size w w' := by
  have h1 := hi_bd x hx.out
  have h3 := lo_bd x
  have E1 : Hid (lo x = hi (rot64 32 x)) := rot_hi32 x hx.out
  have E2 : Hid (hi x = lo (rot64 32 x)) := rot_lo32 x hx.out
  go_enter Tryd.func117, Tryd.ntmps117
  go_wp2_with (go_at_call 117; refine (turned0 _ _ _ h3.1 h3.2 h1.1 h1.2).mono ?_; rintro e w1 ⟨rfl, hb⟩; obtain ⟨hc, hf⟩ := bcell hb)
  refine bodyPost_ret (v := .agg #[.int .i64 (lo x), .int .i64 (hi x)]) (by simp [results, Tryd.results117, go_sem, hc]) rfl ⟨by rw [← E1.out, ← E2.out], ?_⟩
  have b1 := hb.mono (B' := w.heap.size) (by simp; omega)
  exact (((((Below.refl _ _).alloc (Nat.le_refl _) _).alloc (by simp) _).trans b1).setCell (by simp) _).setCell (by simp) _

end Go.Proofs.YtphapknfkbgapaaDoor
