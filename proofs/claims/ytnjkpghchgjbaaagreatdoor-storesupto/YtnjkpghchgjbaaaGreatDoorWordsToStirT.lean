import Derived.Test.YtnjkpghchgjbaaaGreatDoorRows
import Derived.Test.YtnjkpghchgjbaaaGreatDoorPlain
import Derived.WalkKit
import Derived.WalkSpells
import Derived.WalkLawsBesides
import Derived.BigRegion
import Derived.Deep.QuietTactic
import Derived.BigQuiet
import Derived.Test.YtnjkpghchgjbaaaGreatDoorRound
import Derived.Test.YtnjkpghchgjbaaaGreatDoorPad
namespace Go.Proofs.YtnjkpghchgjbaaaGreatDoor
open Go.RowKit
theorem wrap64_small (x : Int) (h0 : 0 ≤ x) (h1 : x < 281474976710656) : wrap64 x = x := by
  unfold wrap64; omega
theorem bcell {W w1 : World} (hb : Below W.heap.size W w1) : (∀ b o, b < W.heap.size → w1.cell? ⟨b, o, none⟩ = W.cell? ⟨b, o, none⟩) ∧ (∀ b o, b < W.heap.size → w1.frozen? ⟨b, o, none⟩ = W.frozen? ⟨b, o, none⟩) :=
  ⟨fun b o h => hb.cell (p := ⟨b, o, none⟩) h, fun b o h => hb.frozen (p := ⟨b, o, none⟩) h⟩
theorem ret_int {k : IntKind} {a b : Int} (h : a = b) : Ending.returned (.int k a) = .returned (.int k b) := by rw [h]
set_option maxHeartbeats 400000 in
theorem read32_any (s : ByteArray) (p : Int) (w : World) (hs : s.size ≤ 1000) (h0 : 0 ≤ p) (hp : p + 4 ≤ s.size) :
    Calls Tryz.prog 116 #[.string s, .int .i64 p] w fun e w' => e = .returned (.int .u32 (rd32 s p.toNat)) ∧ w' = w := by
  obtain ⟨p, rfl⟩ := Int.eq_ofNat_of_zero_le h0
  rw [Int.toNat_natCast]
  go_enter Tryz.func116, Tryz.ntmps116
  go_wp2
  go_loop [5, 6] (fun t i => ∃ j : Nat, j ≤ 4 ∧ i = .int .i64 (3 - j) ∧ t = .int .u32 (acc32 s p j)) (fun _ i => (intOf i + 1).toNat)
  case atStart => exact ⟨0, by omega, rfl, rfl⟩
  case round =>
    obtain ⟨j, hj, rfl, rfl⟩ := hrel
    by_cases hlt : j < 4
    · have hb := byteAt_bd s (p + (3 - j))
      have ha := acc32_bd s p j hlt
      have hg := byteAt_get s (p + (3 - j)) (by omega)
      have HG : Hid (byteAt s (p + (3 - j)) = ((s[p + (3 - j)]'(by omega)).toNat : Int)) := hg
      clear hg
      go_wp2
      go_round
      case rel =>
        refine ⟨j + 1, by omega, by go_num, ?_⟩
        have ej := or32_join _ _ ha.1 ha.2 hb.1 hb.2
        rw [Int.emod_eq_of_lt (a := acc32 s p j * 256) (by omega) (by omega)] at ej
        rw [← HG.out, ej]
        rfl
      case measure => simp [intOf]; omega
    · go_wp2
      go_ret
      have : j = 4 := by omega
      subst this
      exact ⟨ret_int (acc32_four s p), rfl⟩
set_option maxHeartbeats 400000 in
theorem read64_any (s : ByteArray) (p : Int) (w : World) (hs : s.size ≤ 1000) (h0 : 0 ≤ p) (hp : p + 8 ≤ s.size) :
    Calls Tryz.prog 108 #[.string s, .int .i64 p] w fun e w' => e = .returned (.int .u64 (rd64 s p.toNat)) ∧ w' = w := by
  have b1 := rd32_bd s (p + 4).toNat
  have b2 := rd32_bd s p.toNat
  have HE : Hid (rd32 s (p + 4).toNat * 4294967296 + rd32 s p.toNat = rd64 s p.toNat) := by
    show _ = _
    unfold rd64
    rw [show (p + 4).toNat = p.toNat + 4 by omega]
  go_enter Tryz.func108, Tryz.ntmps108
  go_wp2_with (go_at_call 116; refine (read32_any _ _ _ hs (by omega) (by omega)).mono ?_; rintro e w' ⟨rfl, rfl⟩)
  go_ret
  exact ⟨ret_int ((or64_join _ _ b1.1 b1.2 b2.1 b2.2).trans HE.out), rfl⟩
set_option maxHeartbeats 400000 in
theorem rread_any (s : ByteArray) (p : Int) (w : World) (hs : s.size ≤ 1000) (h0 : 0 ≤ p) (hp : p + 4 ≤ s.size) :
    Calls Tryz.prog 122 #[.string s, .int .i64 p] w fun e w' => e = .returned (.int .i64 (rd32 s p.toNat)) ∧ ∃ n, w' = w.drewN n := by
  obtain ⟨p, rfl⟩ := Int.eq_ofNat_of_zero_le h0
  rw [Int.toNat_natCast]
  have q0 : (p : Int) < (s.size : Int) := by omega
  have q1 : (p : Int) + 1 < (s.size : Int) := by omega
  have q2 : (p : Int) + 2 < (s.size : Int) := by omega
  have q3 : (p : Int) + 3 < (s.size : Int) := by omega
  have r1 : (0 : Int) ≤ (p : Int) + 1 := by omega
  have r2 : (0 : Int) ≤ (p : Int) + 2 := by omega
  have r3 : (0 : Int) ≤ (p : Int) + 3 := by omega
  go_enter Tryz.func122, Tryz.ntmps122
  go_wp2
  go_quiet (fail)
  go_wp2
  go_ret
  refine ⟨ret_int ?_, _, rfl⟩
  have b0 := byteAt_bd s p; have b1 := byteAt_bd s (p + 1); have b2 := byteAt_bd s (p + 2); have b3 := byteAt_bd s (p + 3)
  rw [← byteAt_get s p (by omega), ← byteAt_get s (p + 1) (by omega), ← byteAt_get s (p + 2) (by omega), ← byteAt_get s (p + 3) (by omega)]
  unfold rd32
  generalize byteAt s p = x0 at *
  generalize byteAt s (p + 1) = x1 at *
  generalize byteAt s (p + 2) = x2 at *
  generalize byteAt s (p + 3) = x3 at *
  rw [wrap64_small x0 (by omega) (by omega), wrap64_small x1 (by omega) (by omega), wrap64_small x2 (by omega) (by omega), wrap64_small x3 (by omega) (by omega),
    wrap64_small (256 * x1) (by omega) (by omega), wrap64_small (65536 * x2) (by omega) (by omega), wrap64_small (16777216 * x3) (by omega) (by omega),
    wrap64_small (x0 + 256 * x1) (by omega) (by omega), wrap64_small (x0 + 256 * x1 + 65536 * x2) (by omega) (by omega), wrap64_small _ (by omega) (by omega)]
set_option maxHeartbeats 400000 in
theorem either_any (x y : Int) (w : World) (hx : Hid (In64 x)) (hy : Hid (In64 y)) :
    Calls Tryz.prog 114 #[.agg #[.int .i64 (hi x), .int .i64 (lo x)], .agg #[.int .i64 (hi y), .int .i64 (lo y)]] w fun e w' => e = .returned (.agg #[.int .i64 (hi (xor64 x y)), .int .i64 (lo (xor64 x y))]) ∧ Below w.heap.size w w' := by
  go_enter Tryz.func114, Tryz.ntmps114
  go_wp2
  refine bodyPost_ret (v := .agg #[.int .i64 (bits .xor .i64 (hi x) (hi y)), .int .i64 (bits .xor .i64 (lo x) (lo y))]) (by simp [results, Tryz.results114, go_sem]) rfl ⟨by rw [hi_xor x y hx.out hy.out, lo_xor x y hx.out hy.out], ?_⟩
  exact (((Below.refl _ _).alloc (Nat.le_refl _) _).alloc (by simp) _).alloc (by simp; omega) _
set_option maxHeartbeats 400000 in
theorem plus_any (x y : Int) (w : World) (hx : Hid (In64 x)) (hy : Hid (In64 y)) :
    Calls Tryz.prog 124 #[.agg #[.int .i64 (hi x), .int .i64 (lo x)], .agg #[.int .i64 (hi y), .int .i64 (lo y)]] w fun e w' => e = .returned (.agg #[.int .i64 (hi (add64 x y)), .int .i64 (lo (add64 x y))]) ∧ Below w.heap.size w w' := by
  have h1 := hi_bd x hx.out
  have h2 := hi_bd y hy.out
  have h3 := lo_bd x
  have h4 := lo_bd y
  go_enter Tryz.func124, Tryz.ntmps124
  go_wp2
  refine bodyPost_ret (v := .agg #[.int .i64 ((hi x + hi y + (lo x + lo y) / 4294967296) % 4294967296), .int .i64 ((lo x + lo y) % 4294967296)]) (by simp [results, Tryz.results124, go_sem]) rfl ⟨by rw [hi_add x y, lo_add x y], ?_⟩
  exact (((Below.refl _ _).alloc (Nat.le_refl _) _).alloc (by simp) _).alloc (by simp; omega) _

set_option maxHeartbeats 400000 in
theorem long_any (s : ByteArray) (p : Int) (w : World) (hs : s.size ≤ 1000) (h0 : 0 ≤ p) (hp : p + 8 ≤ s.size) :
    Calls Tryz.prog 113 #[.string s, .int .i64 p] w fun e w' => e = .returned (.agg #[.int .i64 (hi (rd64 s p.toNat)), .int .i64 (lo (rd64 s p.toNat))]) ∧ Below w.heap.size w w' := by
  have e0 : (p + 4).toNat = p.toNat + 4 := by omega
  have E0 : Hid ((p + 4).toNat = p.toNat + 4) := e0
  clear e0
  go_enter Tryz.func113, Tryz.ntmps113
  go_wp2_with (go_at_call 122; refine (rread_any _ _ _ hs (by omega) (by omega)).mono ?_; rintro e w' ⟨rfl, n, rfl⟩)
  refine bodyPost_ret (v := .agg #[.int .i64 (rd32 s (p + 4).toNat), .int .i64 (rd32 s p.toNat)]) (by simp [results, Tryz.results113, go_sem]) rfl ⟨by rw [hi_rd64, lo_rd64, E0.out], ?_⟩
  exact ((below_drewN ((Below.refl _ _).alloc (Nat.le_refl _) _) _).setCell (Nat.le_refl _) _).setCell (Nat.le_refl _) _
set_option maxHeartbeats 400000 in
theorem power_any (n : Int) (w : World) (h0 : 0 ≤ n) (h1 : n ≤ 31) :
    Calls Tryz.prog 129 #[.int .i64 n] w fun e w' => e = .returned (.int .i64 (2 ^ n.toNat)) ∧ w' = w := by
  obtain ⟨n, rfl⟩ := Int.eq_ofNat_of_zero_le h0
  rw [Int.toNat_natCast]
  go_enter Tryz.func129, Tryz.ntmps129
  go_wp2
  go_loop [3, 4] (fun t i => ∃ j : Nat, j ≤ n ∧ i = .int .i64 j ∧ ∃ p : Int, Hid (p = 2 ^ j) ∧ t = .int .i64 p ∧ 0 ≤ p ∧ p ≤ 2147483648) (fun _ i => n - (intOf i).toNat)
  case atStart => exact ⟨0, by omega, rfl, 1, rfl, rfl, by omega, by omega⟩
  case round =>
    obtain ⟨j, hj, rfl, p, hp, rfl, p0, p1⟩ := hrel
    by_cases hlt : j < n
    · go_wp2
      go_round
      case rel =>
        have hq : 2 * p = 2 ^ (j + 1) := by rw [hp.out, Int.pow_succ, Int.mul_comm]
        have hb : (2 : Int) ^ (j + 1) ≤ 2 ^ 31 := by
          have : (2 : Nat) ^ (j + 1) ≤ 2 ^ 31 := Nat.pow_le_pow_right (by omega) (by omega)
          exact_mod_cast this
        exact ⟨j + 1, by omega, by go_num, 2 * p, hq, rfl, by omega, by omega⟩
      case measure => simp [intOf]; omega
    · go_wp2
      go_ret
      have : j = n := by omega
      subst this
      exact ⟨ret_int hp.out, rfl⟩
set_option maxHeartbeats 400000 in
theorem turned13 (x : Int) (w : World) (hx : Hid (In64 x)) :
    Calls Tryz.prog 125 #[.agg #[.int .i64 (hi x), .int .i64 (lo x)], .int .i64 13] w fun e w' => e = .returned (.agg #[.int .i64 (hi (rot64 13 x)), .int .i64 (lo (rot64 13 x))]) ∧ Below w.heap.size w w' := by
  have h1 := hi_bd x hx.out
  have h3 := lo_bd x
  have hpw : ∀ w, Calls Tryz.prog 129 #[.int .i64 13] w fun e w' => e = .returned (.int .i64 8192) ∧ w' = w := fun w => power_any 13 w (by omega) (by omega)
  have HP : Hid _ := hpw
  clear hpw
  go_enter Tryz.func125, Tryz.ntmps125
  go_wp2_with (go_at_call 129; refine (HP.out _).mono ?_; rintro e w' ⟨rfl, rfl⟩)
  refine bodyPost_ret (v := .agg #[.int .i64 (hi x * 8192 % 4294967296 + lo x * 8192 / 4294967296), .int .i64 (lo x * 8192 % 4294967296 + hi x * 8192 / 4294967296)]) (by simp [results, Tryz.results125, go_sem]) rfl ⟨by rw [rot_hi13 x hx.out, rot_lo13 x hx.out], ?_⟩
  exact ((Below.refl _ _).alloc (Nat.le_refl _) _).alloc (by simp) _
set_option maxHeartbeats 400000 in
theorem turned16 (x : Int) (w : World) (hx : Hid (In64 x)) :
    Calls Tryz.prog 125 #[.agg #[.int .i64 (hi x), .int .i64 (lo x)], .int .i64 16] w fun e w' => e = .returned (.agg #[.int .i64 (hi (rot64 16 x)), .int .i64 (lo (rot64 16 x))]) ∧ Below w.heap.size w w' := by
  have h1 := hi_bd x hx.out
  have h3 := lo_bd x
  have hpw : ∀ w, Calls Tryz.prog 129 #[.int .i64 16] w fun e w' => e = .returned (.int .i64 65536) ∧ w' = w := fun w => power_any 16 w (by omega) (by omega)
  have HP : Hid _ := hpw
  clear hpw
  go_enter Tryz.func125, Tryz.ntmps125
  go_wp2_with (go_at_call 129; refine (HP.out _).mono ?_; rintro e w' ⟨rfl, rfl⟩)
  refine bodyPost_ret (v := .agg #[.int .i64 (hi x * 65536 % 4294967296 + lo x * 65536 / 4294967296), .int .i64 (lo x * 65536 % 4294967296 + hi x * 65536 / 4294967296)]) (by simp [results, Tryz.results125, go_sem]) rfl ⟨by rw [rot_hi16 x hx.out, rot_lo16 x hx.out], ?_⟩
  exact ((Below.refl _ _).alloc (Nat.le_refl _) _).alloc (by simp) _
set_option maxHeartbeats 400000 in
theorem turned17 (x : Int) (w : World) (hx : Hid (In64 x)) :
    Calls Tryz.prog 125 #[.agg #[.int .i64 (hi x), .int .i64 (lo x)], .int .i64 17] w fun e w' => e = .returned (.agg #[.int .i64 (hi (rot64 17 x)), .int .i64 (lo (rot64 17 x))]) ∧ Below w.heap.size w w' := by
  have h1 := hi_bd x hx.out
  have h3 := lo_bd x
  have hpw : ∀ w, Calls Tryz.prog 129 #[.int .i64 17] w fun e w' => e = .returned (.int .i64 131072) ∧ w' = w := fun w => power_any 17 w (by omega) (by omega)
  have HP : Hid _ := hpw
  clear hpw
  go_enter Tryz.func125, Tryz.ntmps125
  go_wp2_with (go_at_call 129; refine (HP.out _).mono ?_; rintro e w' ⟨rfl, rfl⟩)
  refine bodyPost_ret (v := .agg #[.int .i64 (hi x * 131072 % 4294967296 + lo x * 131072 / 4294967296), .int .i64 (lo x * 131072 % 4294967296 + hi x * 131072 / 4294967296)]) (by simp [results, Tryz.results125, go_sem]) rfl ⟨by rw [rot_hi17 x hx.out, rot_lo17 x hx.out], ?_⟩
  exact ((Below.refl _ _).alloc (Nat.le_refl _) _).alloc (by simp) _
set_option maxHeartbeats 400000 in
theorem turned21 (x : Int) (w : World) (hx : Hid (In64 x)) :
    Calls Tryz.prog 125 #[.agg #[.int .i64 (hi x), .int .i64 (lo x)], .int .i64 21] w fun e w' => e = .returned (.agg #[.int .i64 (hi (rot64 21 x)), .int .i64 (lo (rot64 21 x))]) ∧ Below w.heap.size w w' := by
  have h1 := hi_bd x hx.out
  have h3 := lo_bd x
  have hpw : ∀ w, Calls Tryz.prog 129 #[.int .i64 21] w fun e w' => e = .returned (.int .i64 2097152) ∧ w' = w := fun w => power_any 21 w (by omega) (by omega)
  have HP : Hid _ := hpw
  clear hpw
  go_enter Tryz.func125, Tryz.ntmps125
  go_wp2_with (go_at_call 129; refine (HP.out _).mono ?_; rintro e w' ⟨rfl, rfl⟩)
  refine bodyPost_ret (v := .agg #[.int .i64 (hi x * 2097152 % 4294967296 + lo x * 2097152 / 4294967296), .int .i64 (lo x * 2097152 % 4294967296 + hi x * 2097152 / 4294967296)]) (by simp [results, Tryz.results125, go_sem]) rfl ⟨by rw [rot_hi21 x hx.out, rot_lo21 x hx.out], ?_⟩
  exact ((Below.refl _ _).alloc (Nat.le_refl _) _).alloc (by simp) _
set_option maxHeartbeats 400000 in
theorem turned0 (h l : Int) (w : World) (h0 : 0 ≤ h) (h1 : h < 4294967296) (l0 : 0 ≤ l) (l1 : l < 4294967296) :
    Calls Tryz.prog 125 #[.agg #[.int .i64 h, .int .i64 l], .int .i64 0] w fun e w' => e = .returned (.agg #[.int .i64 h, .int .i64 l]) ∧ Below w.heap.size w w' := by
  have hpw : ∀ w, Calls Tryz.prog 129 #[.int .i64 0] w fun e w' => e = .returned (.int .i64 1) ∧ w' = w := fun w => power_any 0 w (by omega) (by omega)
  have HP : Hid _ := hpw
  clear hpw
  have E1 : Hid (h % 4294967296 + l / 4294967296 = h) := by show _ = _; omega
  have E2 : Hid (l % 4294967296 + h / 4294967296 = l) := by show _ = _; omega
  go_enter Tryz.func125, Tryz.ntmps125
  go_wp2_with (go_at_call 129; refine (HP.out _).mono ?_; rintro e w' ⟨rfl, rfl⟩)
  refine bodyPost_ret (v := .agg #[.int .i64 (h % 4294967296 + l / 4294967296), .int .i64 (l % 4294967296 + h / 4294967296)]) (by simp [results, Tryz.results125, go_sem]) rfl ⟨by rw [E1.out, E2.out], ?_⟩
  exact ((Below.refl _ _).alloc (Nat.le_refl _) _).alloc (by simp) _
set_option maxHeartbeats 400000 in
theorem turned32 (x : Int) (w : World) (hx : Hid (In64 x)) :
    Calls Tryz.prog 125 #[.agg #[.int .i64 (hi x), .int .i64 (lo x)], .int .i64 32] w fun e w' => e = .returned (.agg #[.int .i64 (hi (rot64 32 x)), .int .i64 (lo (rot64 32 x))]) ∧ Below w.heap.size w w' := by
  have h1 := hi_bd x hx.out
  have h3 := lo_bd x
  have E1 : Hid (lo x = hi (rot64 32 x)) := rot_hi32 x hx.out
  have E2 : Hid (hi x = lo (rot64 32 x)) := rot_lo32 x hx.out
  go_enter Tryz.func125, Tryz.ntmps125
  go_wp2_with (go_at_call 125; refine (turned0 _ _ _ h3.1 h3.2 h1.1 h1.2).mono ?_; rintro e w1 ⟨rfl, hb⟩; obtain ⟨hc, hf⟩ := bcell hb)
  refine bodyPost_ret (v := .agg #[.int .i64 (lo x), .int .i64 (hi x)]) (by simp [results, Tryz.results125, go_sem, hc]) rfl ⟨by rw [← E1.out, ← E2.out], ?_⟩
  have b1 := hb.mono (B' := w.heap.size) (by simp; omega)
  exact (((((Below.refl _ _).alloc (Nat.le_refl _) _).alloc (by simp) _).trans b1).setCell (by simp) _).setCell (by simp) _

end Go.Proofs.YtnjkpghchgjbaaaGreatDoor
namespace Go.Proofs.YtnjkpghchgjbaaaGreatDoor
open Go.RowKit

def mix0 (key : ByteArray) : S4 :=
  ⟨xor64 (rd64 key 0) 8317987319222330741, xor64 (rd64 key 8) 7237128888997146477, xor64 (rd64 key 0) 7816392313619706465, xor64 (rd64 key 8) 8387220255154660723⟩
def absorbA (s : ByteArray) (p : Nat) (v : S4) : S4 := rnds 2 ⟨v.a, v.b, v.c, xor64 v.d (rd64 s p)⟩
def absorb1 (s : ByteArray) (p : Nat) (v : S4) : S4 := ⟨xor64 (absorbA s p v).a (rd64 s p), (absorbA s p v).b, (absorbA s p v).c, (absorbA s p v).d⟩
def absorb (s : ByteArray) : Nat → S4 → S4
  | 0, v => v
  | k + 1, v => absorb1 s (8 * k) (absorb s k v)
def fin4 (v : S4) : S4 := rnds 4 ⟨v.a, v.b, xor64 v.c 255, v.d⟩
def fold4 (u : S4) : Int := xor64 (xor64 (xor64 u.a u.b) u.c) u.d
def hashOf (key text : ByteArray) : Int := fold4 (fin4 (absorb (padded text) ((padded text).size / 8) (mix0 key)))

theorem padded_eight (s : ByteArray) : (padded s).size % 8 = 0 := by
  rw [padded_size]; unfold zeros; omega
theorem padded_le (s : ByteArray) (h : s.size ≤ 400) : (padded s).size ≤ 1000 := by
  rw [padded_size]; unfold zeros; omega

set_option maxHeartbeats 400000 in
theorem newMixer_any (key : ByteArray) (w : World) (hk : key.size = 16) :
    Calls Tryz.prog 119 #[.string key] w fun e w' => e = .returned (.agg #[.int .u64 (mix0 key).a, .int .u64 (mix0 key).b, .int .u64 (mix0 key).c, .int .u64 (mix0 key).d]) ∧ Below w.heap.size w w' := by
  have K : Hid (key.size = 16) := hk
  clear hk
  go_enter Tryz.func119, Tryz.ntmps119
  go_wp2_with (go_at_call 108; refine (read64_any _ _ _ (by rw [K.out]; omega) (by omega) (by rw [K.out]; omega)).mono ?_; rintro e w' ⟨rfl, rfl⟩)
  refine bodyPost_ret (v := .agg #[.int .u64 (mix0 key).a, .int .u64 (mix0 key).b, .int .u64 (mix0 key).c, .int .u64 (mix0 key).d]) (by simp [results, Tryz.results119, go_sem, mix0, xor64]) rfl ⟨rfl, ?_⟩
  repeat (first | exact Below.refl _ _ | refine Below.setCell ?_ (Nat.le_refl _) _ | refine Below.alloc ?_ (Nat.le_refl _) _)

theorem Mx.cast {b : Nat} {v v' : S4} {w0 w : World} (h : Mx b v w0 w) (e : v = v') : Mx b v' w0 w := e ▸ h

set_option maxHeartbeats 400000 in
theorem rounds_any (b : Nat) (v : S4) (n : Int) (w0 w : World) (h0 : 0 ≤ n) (h4 : n ≤ 4) (h : Mx b v w0 w) :
    Calls Tryz.prog 121 #[.pointer (some ⟨b, 0, none⟩), .int .i64 n] w fun e w' => e = .returned (.tuple #[]) ∧ Mx b (rnds n.toNat v) w0 w' := by
  obtain ⟨n, rfl⟩ := Int.eq_ofNat_of_zero_le h0
  rw [Int.toNat_natCast]
  have HM : Hid (Mx b v w0 w) := h
  clear h
  go_enter Tryz.func121, Tryz.ntmps121
  go_wp2
  go_loopw [4] (fun i wr => ∃ j : Nat, j ≤ n ∧ i = .int .i64 j ∧ Hid (Mx b (rnds j v) w0 wr)) (fun i _ => n - (intOf i).toNat)
  case atStart => exact ⟨0, Nat.zero_le _, rfl, HM⟩
  case round =>
    obtain ⟨j, hj, rfl, hM⟩ := hrel
    by_cases hlt : j < n
    · go_wp2_with (go_at_call 127; refine (round_any _ _ _ _ hM.out).mono ?_; rintro e w1 ⟨rfl, hM1⟩; have HM1 : Hid _ := hM1; clear hM1)
      go_roundw
      case rel => exact ⟨j + 1, by omega, by go_num, HM1⟩
      case measure => simp [intOf]; omega
    · go_wp2
      go_end0
      have e : j = n := by omega
      subst e
      exact ⟨rfl, hM.out⟩
set_option maxHeartbeats 1000000 in
theorem hash_any (key text : ByteArray) (w : World) (hk : key.size = 16) (ht : text.size ≤ 400) :
    Calls Tryz.prog 110 #[.string key, .string text] w fun e w' => e = .returned (.int .u64 (hashOf key text)) ∧ Low w.heap.size w w' := by
  have hpe : Hid ((padded text).size % 8 = 0) := padded_eight text
  have hpl := padded_le text ht
  go_enter Tryz.func110, Tryz.ntmps110
  go_wp2_with (first | (go_at_call 119; refine (newMixer_any _ _ hk).mono ?_; rintro e w1 ⟨rfl, hb1⟩; obtain ⟨hc1, hf1⟩ := bcell hb1) | (go_at_call 120; refine (pad_any _ _ (by omega)).mono ?_; rintro e w2 ⟨rfl, hb2⟩; have HB2 : Hid _ := hb2; clear hb2))
  have HM : Hid (Mx w1.heap.size (mix0 key) w2 w2) := by
    have hlt : w1.heap.size < (w1.alloc (.cells #[.int .u64 (mix0 key).a, .int .u64 (mix0 key).b, .int .u64 (mix0 key).c, .int .u64 (mix0 key).d] 152)).heap.size := by simp
    exact ⟨(HB2.out.cell (p := ⟨_, 0, none⟩) hlt).trans (by go_simp), (HB2.out.cell (p := ⟨_, 1, none⟩) hlt).trans (by go_simp), (HB2.out.cell (p := ⟨_, 2, none⟩) hlt).trans (by go_simp), (HB2.out.cell (p := ⟨_, 3, none⟩) hlt).trans (by go_simp),
      (HB2.out.frozen (p := ⟨_, 0, none⟩) hlt).trans (by go_simp), (HB2.out.frozen (p := ⟨_, 1, none⟩) hlt).trans (by go_simp), (HB2.out.frozen (p := ⟨_, 2, none⟩) hlt).trans (by go_simp), (HB2.out.frozen (p := ⟨_, 3, none⟩) hlt).trans (by go_simp), Below.refl _ _⟩
  have HL : Hid (Low w.heap.size w w2) := by
    have q := HB2.out.mono (B' := w.heap.size) (by have := hb1.size; simp; omega)
    exact ((Low.of hb1).trans (Low.of ((Below.refl _ _).alloc (by have := hb1.size; omega) _))).trans q
  have hs1 := hb1.size
  clear HB2 hb1
  go_loopw [7] (fun i wr => ∃ k : Nat, 8 * k ≤ (padded text).size ∧ i = .int .i64 (8 * k : Nat) ∧ Hid (Mx w1.heap.size (absorb (padded text) k (mix0 key)) w2 wr)) (fun i _ => (padded text).size - (intOf i).toNat)
  case atStart => exact ⟨0, Nat.zero_le _, rfl, HM⟩
  case round =>
    obtain ⟨k, hk8, rfl, hM⟩ := hrel
    clear HM
    obtain ⟨v, hv⟩ : ∃ v, Hid (v = absorb (padded text) k (mix0 key)) := ⟨_, rfl⟩
    rw [← hv.out] at hM
    obtain ⟨g0, g1, g2, g3, f0, f1, f2, f3, _⟩ := id hM.out
    by_cases hlt : 8 * k < (padded text).size
    · have h8 : 8 * k + 8 ≤ (padded text).size := by have := hpe.out; omega
      go_wp2_with (first | (go_at_call 108; refine (read64_any _ _ _ hpl (by omega) (by omega)).mono ?_; rintro e w3 ⟨rfl, rfl⟩) | (go_at_call 121; refine (rounds_any _ _ _ _ _ (by omega) (by omega) (hM.out.set3 _)).mono ?_; rintro e w4 ⟨rfl, hM4⟩; have HM4 : Hid _ := hM4; obtain ⟨k0, k1, k2, k3, j0, j1, j2, j3, _⟩ := hM4))
      go_roundw
      case rel =>
        refine ⟨k + 1, by omega, by go_num, ?_⟩
        have e : absorb (padded text) (k + 1) (mix0 key) = absorb1 (padded text) (8 * k) v := by rw [hv.out]; rfl
        rw [e]
        exact HM4.out.set0 _
      case measure => simp [intOf]; omega
    · have h8 : 8 * k = (padded text).size := by omega
      go_wp2_with (go_at_call 121; refine (rounds_any _ _ _ _ _ (by omega) (by omega) (hM.out.set2 _)).mono ?_; rintro e w4 ⟨rfl, hM4⟩; have HM4 : Hid _ := hM4; obtain ⟨k0, k1, k2, k3, j0, j1, j2, j3, _⟩ := hM4)
      go_ret
      refine ⟨ret_int ?_, HL.out.trans ((Low.of HM4.out.bel).mono hs1)⟩
      have e : (padded text).size / 8 = k := by omega
      unfold hashOf
      rw [e, ← hv.out]
      rfl
end Go.Proofs.YtnjkpghchgjbaaaGreatDoor
namespace Go.Proofs.YtnjkpghchgjbaaaGreatDoor
open Go.RowKit

/-! Words of 32 bits; a block's words as a function of their place. -/
def add32 (x y : Int) : Int := (x + y) % 4294967296
def xor32 (x y : Int) : Int := bits .xor .u32 x y
def rot32 (k x : Int) : Int := bits .or .u32 (x * 2 ^ k.toNat % 4294967296) (x / 2 ^ (32 - k.toNat))
def upd (g : Nat → Int) (i : Nat) (x : Int) : Nat → Int := fun k => if k = i then x else g k

def qa1 (a b : Int) : Int := add32 a b
def qd1 (a b d : Int) : Int := rot32 16 (xor32 d (qa1 a b))
def qc1 (a b c d : Int) : Int := add32 c (qd1 a b d)
def qb1 (a b c d : Int) : Int := rot32 12 (xor32 b (qc1 a b c d))
def qa2 (a b c d : Int) : Int := add32 (qa1 a b) (qb1 a b c d)
def qd2 (a b c d : Int) : Int := rot32 8 (xor32 (qd1 a b d) (qa2 a b c d))
def qc2 (a b c d : Int) : Int := add32 (qc1 a b c d) (qd2 a b c d)
def qb2 (a b c d : Int) : Int := rot32 7 (xor32 (qb1 a b c d) (qc2 a b c d))

/-- Four of the words stirred. -/
def stirF (g : Nat → Int) (i j k l : Nat) : Nat → Int :=
  upd (upd (upd (upd g i (qa2 (g i) (g j) (g k) (g l))) j (qb2 (g i) (g j) (g k) (g l))) k (qc2 (g i) (g j) (g k) (g l))) l (qd2 (g i) (g j) (g k) (g l))
def stirJ (j : Nat) (g : Nat → Int) : Nat → Int :=
  match j with
  | 0 => stirF g 0 4 8 12
  | 1 => stirF g 1 5 9 13
  | 2 => stirF g 2 6 10 14
  | 3 => stirF g 3 7 11 15
  | 4 => stirF g 0 5 10 15
  | 5 => stirF g 1 6 11 12
  | 6 => stirF g 2 7 8 13
  | _ => stirF g 3 4 9 14
def inner : Nat → (Nat → Int) → (Nat → Int)
  | 0, g => g
  | j + 1, g => stirJ j (inner j g)
def outer : Nat → (Nat → Int) → (Nat → Int)
  | 0, g => g
  | k + 1, g => inner 8 (outer k g)

/-- A word as four bytes. -/
def wr32 (x : Int) : ByteArray := ⟨#[UInt8.ofNat (x % 256).toNat, UInt8.ofNat (x / 256 % 256).toNat, UInt8.ofNat (x / 65536 % 256).toNat, UInt8.ofNat (x / 16777216 % 256).toNat]⟩
def outTo (t g : Nat → Int) : Nat → ByteArray
  | 0 => ⟨#[]⟩
  | k + 1 => outTo t g k ++ wr32 (add32 (t k) (g k))
def blockOf (g : Nat → Int) : ByteArray := outTo (outer 10 g) g 16
theorem wr32_size (x : Int) : (wr32 x).size = 4 := rfl
theorem outTo_size (t g : Nat → Int) (k : Nat) : (outTo t g k).size = 4 * k := by
  induction k with
  | zero => rfl
  | succ k ih => simp only [outTo]; rw [ByteArray.size_append', ih, wr32_size]; omega
theorem blockOf_size (g : Nat → Int) : (blockOf g).size = 64 := outTo_size _ _ 16

/-- The words ahead of all stirring. -/
def fw (key nonce : ByteArray) (c : Int) : Nat → Int := fun k =>
  match k with
  | 0 => 1634760805
  | 1 => 857760878
  | 2 => 2036477234
  | 3 => 1797285236
  | 4 => rd32 key 0
  | 5 => rd32 key 4
  | 6 => rd32 key 8
  | 7 => rd32 key 12
  | 8 => rd32 key 16
  | 9 => rd32 key 20
  | 10 => rd32 key 24
  | 11 => rd32 key 28
  | 12 => c
  | 13 => rd32 nonce 0
  | 14 => rd32 nonce 4
  | 15 => rd32 nonce 8
  | _ => 0
/-- k blocks of the stream. -/
def strTo (key nonce : ByteArray) (c : Int) : Nat → ByteArray
  | 0 => ⟨#[]⟩
  | k + 1 => strTo key nonce c k ++ blockOf (fw key nonce ((c + k) % 4294967296))
theorem strTo_size (key nonce : ByteArray) (c : Int) (k : Nat) : (strTo key nonce c k).size = 64 * k := by
  induction k with
  | zero => rfl
  | succ k ih => simp only [strTo]; rw [ByteArray.size_append', ih, blockOf_size]; omega
def streamOf (key nonce : ByteArray) (c : Int) (n : Nat) : ByteArray := (strTo key nonce c ((n + 63) / 64)).extract 0 n
end Go.Proofs.YtnjkpghchgjbaaaGreatDoor
namespace Go.Proofs.YtnjkpghchgjbaaaGreatDoor
open Go.RowKit
set_option maxHeartbeats 400000 in
theorem turn32_any (k x : Int) (hk : k = 16 ∨ k = 12 ∨ k = 8 ∨ k = 7) (w : World) :
    Calls Tryz.prog 130 #[.int .u32 x, .int .u64 k] w fun e w' => e = .returned (.int .u32 (rot32 k x)) ∧ w' = w := by
  rcases hk with rfl | rfl | rfl | rfl
  all_goals
    go_enter Tryz.func130, Tryz.ntmps130
    go_wp2
    go_ret
    exact ⟨rfl, rfl⟩
end Go.Proofs.YtnjkpghchgjbaaaGreatDoor
