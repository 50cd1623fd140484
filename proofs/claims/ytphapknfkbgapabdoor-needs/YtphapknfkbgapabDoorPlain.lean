import Derived.WalkKit
namespace Go.Proofs.YtphapknfkbgapabDoor
open Go.RowKit

/-! Words of 64 bits as whole numbers, in the model's own operations. -/
def add64 (x y : Int) : Int := IntKind.u64.wrap (x + y)
def xor64 (x y : Int) : Int := bits .xor .u64 x y
def rot64 (k x : Int) : Int := bits .or .u64 (IntKind.u64.wrap (x * 2 ^ k.toNat)) (x / 2 ^ (64 - k.toNat))
def hi (x : Int) : Int := x / 4294967296
def lo (x : Int) : Int := x % 4294967296
def In64 (x : Int) : Prop := 0 ≤ x ∧ x < 18446744073709551616
def In32 (x : Int) : Prop := 0 ≤ x ∧ x < 4294967296

structure S4 where
  a : Int
  b : Int
  c : Int
  d : Int

/-- One round, statement by statement. -/
def rnd (v : S4) : S4 :=
  let a1 := add64 v.a v.b
  let b1 := xor64 (rot64 13 v.b) a1
  let a2 := rot64 32 a1
  let c1 := add64 v.c v.d
  let d1 := xor64 (rot64 16 v.d) c1
  let a3 := add64 a2 d1
  let d2 := xor64 (rot64 21 d1) a3
  let c2 := add64 c1 b1
  let b2 := xor64 (rot64 17 b1) c2
  let c3 := rot64 32 c2
  ⟨a3, b2, c3, d2⟩
def rnds : Nat → S4 → S4
  | 0, v => v
  | n + 1, v => rnd (rnds n v)

/-! Bytes as words. -/
def byteAt (s : ByteArray) (i : Nat) : Int := ((s.data[i]?.getD 0).toNat : Int)
def acc32 (s : ByteArray) (p : Nat) : Nat → Int
  | 0 => 0
  | j + 1 => acc32 s p j * 256 + byteAt s (p + (3 - j))
def rd32 (s : ByteArray) (p : Nat) : Int := byteAt s p + 256 * byteAt s (p + 1) + 65536 * byteAt s (p + 2) + 16777216 * byteAt s (p + 3)
def rd64 (s : ByteArray) (p : Nat) : Int := rd32 s (p + 4) * 4294967296 + rd32 s p
theorem byteAt_bd (s : ByteArray) (i : Nat) : 0 ≤ byteAt s i ∧ byteAt s i < 256 := by
  unfold byteAt
  have := (s.data[i]?.getD 0).toNat_lt
  omega
theorem byteAt_get (s : ByteArray) (i : Nat) (h : i < s.size) : byteAt s i = ((s[i]'h).toNat : Int) := by
  unfold byteAt
  have : s.data[i]? = some (s[i]'h) := by
    rw [Array.getElem?_eq_getElem (by exact h)]; rfl
  rw [this]; rfl
theorem acc32_four (s : ByteArray) (p : Nat) : acc32 s p 4 = rd32 s p := by
  simp only [acc32, rd32, Nat.sub_zero, Nat.reduceSub, Nat.add_zero]; omega
theorem acc32_bd (s : ByteArray) (p j : Nat) (hj : j < 4) : 0 ≤ acc32 s p j ∧ acc32 s p j < 16777216 := by
  have b0 := byteAt_bd s (p + (3 - 0)); have b1 := byteAt_bd s (p + (3 - 1)); have b2 := byteAt_bd s (p + (3 - 2))
  match j, hj with
  | 0, _ => simp only [acc32]; omega
  | 1, _ => simp only [acc32]; omega
  | 2, _ => simp only [acc32]; omega
  | 3, _ => simp only [acc32]; omega
theorem rd32_bd (s : ByteArray) (p : Nat) : 0 ≤ rd32 s p ∧ rd32 s p < 4294967296 := by
  have b0 := byteAt_bd s p; have b1 := byteAt_bd s (p + 1); have b2 := byteAt_bd s (p + 2); have b3 := byteAt_bd s (p + 3)
  unfold rd32; omega
theorem rd64_bd (s : ByteArray) (p : Nat) : In64 (rd64 s p) := by
  have b0 := rd32_bd s p; have b1 := rd32_bd s (p + 4)
  unfold rd64 In64; omega
theorem hi_rd64 (s : ByteArray) (p : Nat) : hi (rd64 s p) = rd32 s (p + 4) := by
  have b0 := rd32_bd s p; have b1 := rd32_bd s (p + 4)
  unfold rd64 hi; omega
theorem lo_rd64 (s : ByteArray) (p : Nat) : lo (rd64 s p) = rd32 s p := by
  have b0 := rd32_bd s p; have b1 := rd32_bd s (p + 4)
  unfold rd64 lo; omega

/-! Joining bits that do not meet. -/
theorem or32_join (x y : Int) (h0 : 0 ≤ x) (h1 : x < 16777216) (h2 : 0 ≤ y) (h3 : y < 256) : bits .or .u32 (x * 256 % 4294967296) (y % 4294967296) = x * 256 + y := by
  rw [Int.emod_eq_of_lt (by omega) (by omega), Int.emod_eq_of_lt h2 (by omega)]
  rw [u32_or _ _ (by omega) (by omega) (by omega) (by omega)]
  rw [nat_join 8 _ _ (by omega) (by omega)]
  omega
theorem or64_join (x y : Int) (h0 : 0 ≤ x) (h1 : x < 4294967296) (h2 : 0 ≤ y) (h3 : y < 4294967296) : bits .or .u64 (x * 4294967296) y = x * 4294967296 + y := by
  rw [u64_or _ _ (by omega) (by omega) (by omega) (by omega)]
  rw [nat_join 32 _ _ (by omega) (by omega)]
  omega

/-! The two halves. -/
theorem wrap64_bd (x : Int) : In64 (IntKind.u64.wrap x) := by
  rw [IntKind.wrap_u64]; unfold In64; omega
theorem bits64_bd (op : BinOp) (x y : Int) : In64 (bits op .u64 x y) := by
  unfold bits
  exact wrap64_bd _
theorem add64_bd (x y : Int) : In64 (add64 x y) := wrap64_bd _
theorem xor64_bd (x y : Int) : In64 (xor64 x y) := bits64_bd _ _ _
theorem rot64_bd (k x : Int) : In64 (rot64 k x) := bits64_bd _ _ _
theorem hi_bd (x : Int) (h : In64 x) : 0 ≤ hi x ∧ hi x < 4294967296 := by unfold hi; unfold In64 at h; omega
theorem lo_bd (x : Int) : 0 ≤ lo x ∧ lo x < 4294967296 := by unfold lo; omega
theorem hi_lo (x : Int) : hi x * 4294967296 + lo x = x := by unfold hi lo; omega
theorem hi_add (x y : Int) : (hi x + hi y + (lo x + lo y) / 4294967296) % 4294967296 = hi (add64 x y) := by
  unfold add64; rw [IntKind.wrap_u64]; unfold hi lo; omega
theorem lo_add (x y : Int) : (lo x + lo y) % 4294967296 = lo (add64 x y) := by
  unfold add64; rw [IntKind.wrap_u64]; unfold lo; omega
theorem xor_halves (a b : Nat) : (a ^^^ b) / 4294967296 = (a / 4294967296) ^^^ (b / 4294967296) ∧ (a ^^^ b) % 4294967296 = (a % 4294967296) ^^^ (b % 4294967296) :=
  ⟨Nat.xor_div_two_pow (n := 32), Nat.xor_mod_two_pow (n := 32)⟩
theorem xor_i64 (a b : Int) (ha : 0 ≤ a) (ha' : a < 4294967296) (hb : 0 ≤ b) (hb' : b < 4294967296) : bits .xor .i64 a b = ((a.toNat ^^^ b.toNat : Nat) : Int) := by
  obtain ⟨m, rfl⟩ := Int.eq_ofNat_of_zero_le ha
  obtain ⟨n, rfl⟩ := Int.eq_ofNat_of_zero_le hb
  have hx : m ^^^ n < 2 ^ 32 := Nat.xor_lt_two_pow (by omega) (by omega)
  have h1 : (BitVec.ofInt 64 (m : Int)).toNat = m := by
    rw [BitVec.ofInt_natCast, BitVec.toNat_ofNat]; exact Nat.mod_eq_of_lt (by omega)
  have h2 : (BitVec.ofInt 64 (n : Int)).toNat = n := by
    rw [BitVec.ofInt_natCast, BitVec.toNat_ofNat]; exact Nat.mod_eq_of_lt (by omega)
  show IntKind.i64.wrap ((BitVec.ofInt 64 (m : Int) ^^^ BitVec.ofInt 64 (n : Int)).toNat : Int) = _
  rw [BitVec.toNat_xor, h1, h2]
  simp only [Int.toNat_natCast]
  simp [IntKind.wrap, IntKind.bits, IntKind.signed]
  omega
theorem hi_xor (x y : Int) (hx : In64 x) (hy : In64 y) : bits .xor .i64 (hi x) (hi y) = hi (xor64 x y) := by
  have h1 := hi_bd x hx; have h2 := hi_bd y hy
  rw [xor_i64 _ _ h1.1 h1.2 h2.1 h2.2]
  unfold xor64; unfold In64 at hx hy
  rw [u64_xor _ _ hx.1 hx.2 hy.1 hy.2]
  have := (xor_halves x.toNat y.toNat).1
  unfold hi
  rw [show (x / 4294967296).toNat = x.toNat / 4294967296 by omega, show (y / 4294967296).toNat = y.toNat / 4294967296 by omega, ← this]
  omega
theorem lo_xor (x y : Int) (hx : In64 x) (hy : In64 y) : bits .xor .i64 (lo x) (lo y) = lo (xor64 x y) := by
  have h1 := lo_bd x; have h2 := lo_bd y
  rw [xor_i64 _ _ h1.1 h1.2 h2.1 h2.2]
  unfold xor64; unfold In64 at hx hy
  rw [u64_xor _ _ hx.1 hx.2 hy.1 hy.2]
  have := (xor_halves x.toNat y.toNat).2
  unfold lo
  rw [show (x % 4294967296).toNat = x.toNat % 4294967296 by omega, show (y % 4294967296).toNat = y.toNat % 4294967296 by omega, ← this]
  omega
/-- A turn to the left: what is pushed up, and what comes in below. -/
theorem rot64_num (k : Nat) (hk : k ≤ 64) (x : Int) (hx : In64 x) : rot64 k x = x * 2 ^ k % 18446744073709551616 + x / 2 ^ (64 - k) := by
  unfold In64 at hx
  obtain ⟨n, rfl⟩ := Int.eq_ofNat_of_zero_le hx.1
  unfold rot64
  rw [IntKind.wrap_u64, Int.toNat_natCast]
  have e1 : ((n : Int) * 2 ^ k % 18446744073709551616) = ((n * 2 ^ k % 18446744073709551616 : Nat) : Int) := by
    rw [Int.natCast_emod, Int.natCast_mul, Int.natCast_pow]; rfl
  have e2 : ((n : Int) / 2 ^ (64 - k)) = ((n / 2 ^ (64 - k) : Nat) : Int) := by
    rw [Int.natCast_ediv, Int.natCast_pow]; rfl
  have hd : n / 2 ^ (64 - k) < 2 ^ k := by
    rw [Nat.div_lt_iff_lt_mul (Nat.two_pow_pos _), ← Nat.pow_add, show k + (64 - k) = 64 by omega]
    omega
  have hp : (2 : Nat) ^ k ≤ 2 ^ 64 := Nat.pow_le_pow_right (by omega) hk
  rw [e1, e2]
  rw [u64_or_nat _ _ (by omega) (by omega)]
  rw [nat_join k _ _ ?_ hd]
  · omega
  · rw [show (18446744073709551616 : Nat) = 2 ^ k * 2 ^ (64 - k) by rw [← Nat.pow_add, show k + (64 - k) = 64 by omega], Nat.mul_comm n, Nat.mul_mod_mul_left, Nat.mul_mod_right]

theorem rot_parts13 (x : Int) (hx : In64 x) : ∃ a b c d : Int, 0 ≤ a ∧ a < 8192 ∧ 0 ≤ b ∧ b < 524288 ∧ 0 ≤ c ∧ c < 8192 ∧ 0 ≤ d ∧ d < 524288 ∧ hi x = a * 524288 + b ∧ lo x = c * 524288 + d ∧ rot64 13 x = (b * 8192 + c) * 4294967296 + (d * 8192 + a) := by
  have h1 := hi_bd x hx; have h2 := lo_bd x; have h3 := hi_lo x
  refine ⟨hi x / 524288, hi x % 524288, lo x / 524288, lo x % 524288, by omega, by omega, by omega, by omega, by omega, by omega, by omega, by omega, by omega, by omega, ?_⟩
  rw [show (13 : Int) = ((13 : Nat) : Int) from rfl, rot64_num 13 (by omega) x hx]
  generalize hi x = H at *
  generalize lo x = L at *
  have e1 : x * 2 ^ 13 % 18446744073709551616 = (H % 524288) * 35184372088832 + (L / 524288) * 4294967296 + (L % 524288) * 8192 := by
    have q1 : H = (H / 524288) * 524288 + H % 524288 := by omega
    have q2 : L = (L / 524288) * 524288 + L % 524288 := by omega
    have b1 : 0 ≤ H % 524288 ∧ H % 524288 < 524288 := by omega
    have b2 : 0 ≤ L % 524288 ∧ L % 524288 < 524288 := by omega
    have b3 : 0 ≤ L / 524288 ∧ L / 524288 < 8192 := by omega
    generalize H / 524288 = a at *
    generalize H % 524288 = b at *
    generalize L / 524288 = c at *
    generalize L % 524288 = d at *
    have e : x * 2 ^ 13 = (b * 35184372088832 + c * 4294967296 + d * 8192) + a * 18446744073709551616 := by omega
    rw [e, Int.add_mul_emod_self_right]
    exact Int.emod_eq_of_lt (by omega) (by omega)
  have e2 : x / 2 ^ (64 - 13) = H / 524288 := by omega
  rw [e1, e2]
  omega
theorem rot_hi13 (x : Int) (hx : In64 x) : hi x * 8192 % 4294967296 + lo x * 8192 / 4294967296 = hi (rot64 13 x) := by
  obtain ⟨a, b, c, d, a0, a1, b0, b1, c0, c1, d0, d1, e1, e2, e3⟩ := rot_parts13 x hx
  rw [e1, e2, e3]; clear e1 e2 e3
  have t1 : (a * 524288 + b) * 8192 % 4294967296 = b * 8192 := by omega
  have t2 : (c * 524288 + d) * 8192 / 4294967296 = c := by omega
  have t3 : ((b * 8192 + c) * 4294967296 + (d * 8192 + a)) / 4294967296 = b * 8192 + c := by omega
  rw [t1, t2]; unfold hi; rw [t3]
theorem rot_lo13 (x : Int) (hx : In64 x) : lo x * 8192 % 4294967296 + hi x * 8192 / 4294967296 = lo (rot64 13 x) := by
  obtain ⟨a, b, c, d, a0, a1, b0, b1, c0, c1, d0, d1, e1, e2, e3⟩ := rot_parts13 x hx
  rw [e1, e2, e3]; clear e1 e2 e3
  have t1 : (c * 524288 + d) * 8192 % 4294967296 = d * 8192 := by omega
  have t2 : (a * 524288 + b) * 8192 / 4294967296 = a := by omega
  have t3 : ((b * 8192 + c) * 4294967296 + (d * 8192 + a)) % 4294967296 = d * 8192 + a := by omega
  rw [t1, t2]; unfold lo; rw [t3]
theorem rot_parts16 (x : Int) (hx : In64 x) : ∃ a b c d : Int, 0 ≤ a ∧ a < 65536 ∧ 0 ≤ b ∧ b < 65536 ∧ 0 ≤ c ∧ c < 65536 ∧ 0 ≤ d ∧ d < 65536 ∧ hi x = a * 65536 + b ∧ lo x = c * 65536 + d ∧ rot64 16 x = (b * 65536 + c) * 4294967296 + (d * 65536 + a) := by
  have h1 := hi_bd x hx; have h2 := lo_bd x; have h3 := hi_lo x
  refine ⟨hi x / 65536, hi x % 65536, lo x / 65536, lo x % 65536, by omega, by omega, by omega, by omega, by omega, by omega, by omega, by omega, by omega, by omega, ?_⟩
  rw [show (16 : Int) = ((16 : Nat) : Int) from rfl, rot64_num 16 (by omega) x hx]
  generalize hi x = H at *
  generalize lo x = L at *
  have e1 : x * 2 ^ 16 % 18446744073709551616 = (H % 65536) * 281474976710656 + (L / 65536) * 4294967296 + (L % 65536) * 65536 := by
    have q1 : H = (H / 65536) * 65536 + H % 65536 := by omega
    have q2 : L = (L / 65536) * 65536 + L % 65536 := by omega
    have b1 : 0 ≤ H % 65536 ∧ H % 65536 < 65536 := by omega
    have b2 : 0 ≤ L % 65536 ∧ L % 65536 < 65536 := by omega
    have b3 : 0 ≤ L / 65536 ∧ L / 65536 < 65536 := by omega
    generalize H / 65536 = a at *
    generalize H % 65536 = b at *
    generalize L / 65536 = c at *
    generalize L % 65536 = d at *
    have e : x * 2 ^ 16 = (b * 281474976710656 + c * 4294967296 + d * 65536) + a * 18446744073709551616 := by omega
    rw [e, Int.add_mul_emod_self_right]
    exact Int.emod_eq_of_lt (by omega) (by omega)
  have e2 : x / 2 ^ (64 - 16) = H / 65536 := by omega
  rw [e1, e2]
  omega
theorem rot_hi16 (x : Int) (hx : In64 x) : hi x * 65536 % 4294967296 + lo x * 65536 / 4294967296 = hi (rot64 16 x) := by
  obtain ⟨a, b, c, d, a0, a1, b0, b1, c0, c1, d0, d1, e1, e2, e3⟩ := rot_parts16 x hx
  rw [e1, e2, e3]; clear e1 e2 e3
  have t1 : (a * 65536 + b) * 65536 % 4294967296 = b * 65536 := by omega
  have t2 : (c * 65536 + d) * 65536 / 4294967296 = c := by omega
  have t3 : ((b * 65536 + c) * 4294967296 + (d * 65536 + a)) / 4294967296 = b * 65536 + c := by omega
  rw [t1, t2]; unfold hi; rw [t3]
theorem rot_lo16 (x : Int) (hx : In64 x) : lo x * 65536 % 4294967296 + hi x * 65536 / 4294967296 = lo (rot64 16 x) := by
  obtain ⟨a, b, c, d, a0, a1, b0, b1, c0, c1, d0, d1, e1, e2, e3⟩ := rot_parts16 x hx
  rw [e1, e2, e3]; clear e1 e2 e3
  have t1 : (c * 65536 + d) * 65536 % 4294967296 = d * 65536 := by omega
  have t2 : (a * 65536 + b) * 65536 / 4294967296 = a := by omega
  have t3 : ((b * 65536 + c) * 4294967296 + (d * 65536 + a)) % 4294967296 = d * 65536 + a := by omega
  rw [t1, t2]; unfold lo; rw [t3]
theorem rot_parts17 (x : Int) (hx : In64 x) : ∃ a b c d : Int, 0 ≤ a ∧ a < 131072 ∧ 0 ≤ b ∧ b < 32768 ∧ 0 ≤ c ∧ c < 131072 ∧ 0 ≤ d ∧ d < 32768 ∧ hi x = a * 32768 + b ∧ lo x = c * 32768 + d ∧ rot64 17 x = (b * 131072 + c) * 4294967296 + (d * 131072 + a) := by
  have h1 := hi_bd x hx; have h2 := lo_bd x; have h3 := hi_lo x
  refine ⟨hi x / 32768, hi x % 32768, lo x / 32768, lo x % 32768, by omega, by omega, by omega, by omega, by omega, by omega, by omega, by omega, by omega, by omega, ?_⟩
  rw [show (17 : Int) = ((17 : Nat) : Int) from rfl, rot64_num 17 (by omega) x hx]
  generalize hi x = H at *
  generalize lo x = L at *
  have e1 : x * 2 ^ 17 % 18446744073709551616 = (H % 32768) * 562949953421312 + (L / 32768) * 4294967296 + (L % 32768) * 131072 := by
    have q1 : H = (H / 32768) * 32768 + H % 32768 := by omega
    have q2 : L = (L / 32768) * 32768 + L % 32768 := by omega
    have b1 : 0 ≤ H % 32768 ∧ H % 32768 < 32768 := by omega
    have b2 : 0 ≤ L % 32768 ∧ L % 32768 < 32768 := by omega
    have b3 : 0 ≤ L / 32768 ∧ L / 32768 < 131072 := by omega
    generalize H / 32768 = a at *
    generalize H % 32768 = b at *
    generalize L / 32768 = c at *
    generalize L % 32768 = d at *
    have e : x * 2 ^ 17 = (b * 562949953421312 + c * 4294967296 + d * 131072) + a * 18446744073709551616 := by omega
    rw [e, Int.add_mul_emod_self_right]
    exact Int.emod_eq_of_lt (by omega) (by omega)
  have e2 : x / 2 ^ (64 - 17) = H / 32768 := by omega
  rw [e1, e2]
  omega
theorem rot_hi17 (x : Int) (hx : In64 x) : hi x * 131072 % 4294967296 + lo x * 131072 / 4294967296 = hi (rot64 17 x) := by
  obtain ⟨a, b, c, d, a0, a1, b0, b1, c0, c1, d0, d1, e1, e2, e3⟩ := rot_parts17 x hx
  rw [e1, e2, e3]; clear e1 e2 e3
  have t1 : (a * 32768 + b) * 131072 % 4294967296 = b * 131072 := by omega
  have t2 : (c * 32768 + d) * 131072 / 4294967296 = c := by omega
  have t3 : ((b * 131072 + c) * 4294967296 + (d * 131072 + a)) / 4294967296 = b * 131072 + c := by omega
  rw [t1, t2]; unfold hi; rw [t3]
theorem rot_lo17 (x : Int) (hx : In64 x) : lo x * 131072 % 4294967296 + hi x * 131072 / 4294967296 = lo (rot64 17 x) := by
  obtain ⟨a, b, c, d, a0, a1, b0, b1, c0, c1, d0, d1, e1, e2, e3⟩ := rot_parts17 x hx
  rw [e1, e2, e3]; clear e1 e2 e3
  have t1 : (c * 32768 + d) * 131072 % 4294967296 = d * 131072 := by omega
  have t2 : (a * 32768 + b) * 131072 / 4294967296 = a := by omega
  have t3 : ((b * 131072 + c) * 4294967296 + (d * 131072 + a)) % 4294967296 = d * 131072 + a := by omega
  rw [t1, t2]; unfold lo; rw [t3]
theorem rot_parts21 (x : Int) (hx : In64 x) : ∃ a b c d : Int, 0 ≤ a ∧ a < 2097152 ∧ 0 ≤ b ∧ b < 2048 ∧ 0 ≤ c ∧ c < 2097152 ∧ 0 ≤ d ∧ d < 2048 ∧ hi x = a * 2048 + b ∧ lo x = c * 2048 + d ∧ rot64 21 x = (b * 2097152 + c) * 4294967296 + (d * 2097152 + a) := by
  have h1 := hi_bd x hx; have h2 := lo_bd x; have h3 := hi_lo x
  refine ⟨hi x / 2048, hi x % 2048, lo x / 2048, lo x % 2048, by omega, by omega, by omega, by omega, by omega, by omega, by omega, by omega, by omega, by omega, ?_⟩
  rw [show (21 : Int) = ((21 : Nat) : Int) from rfl, rot64_num 21 (by omega) x hx]
  generalize hi x = H at *
  generalize lo x = L at *
  have e1 : x * 2 ^ 21 % 18446744073709551616 = (H % 2048) * 9007199254740992 + (L / 2048) * 4294967296 + (L % 2048) * 2097152 := by
    have q1 : H = (H / 2048) * 2048 + H % 2048 := by omega
    have q2 : L = (L / 2048) * 2048 + L % 2048 := by omega
    have b1 : 0 ≤ H % 2048 ∧ H % 2048 < 2048 := by omega
    have b2 : 0 ≤ L % 2048 ∧ L % 2048 < 2048 := by omega
    have b3 : 0 ≤ L / 2048 ∧ L / 2048 < 2097152 := by omega
    generalize H / 2048 = a at *
    generalize H % 2048 = b at *
    generalize L / 2048 = c at *
    generalize L % 2048 = d at *
    have e : x * 2 ^ 21 = (b * 9007199254740992 + c * 4294967296 + d * 2097152) + a * 18446744073709551616 := by omega
    rw [e, Int.add_mul_emod_self_right]
    exact Int.emod_eq_of_lt (by omega) (by omega)
  have e2 : x / 2 ^ (64 - 21) = H / 2048 := by omega
  rw [e1, e2]
  omega
theorem rot_hi21 (x : Int) (hx : In64 x) : hi x * 2097152 % 4294967296 + lo x * 2097152 / 4294967296 = hi (rot64 21 x) := by
  obtain ⟨a, b, c, d, a0, a1, b0, b1, c0, c1, d0, d1, e1, e2, e3⟩ := rot_parts21 x hx
  rw [e1, e2, e3]; clear e1 e2 e3
  have t1 : (a * 2048 + b) * 2097152 % 4294967296 = b * 2097152 := by omega
  have t2 : (c * 2048 + d) * 2097152 / 4294967296 = c := by omega
  have t3 : ((b * 2097152 + c) * 4294967296 + (d * 2097152 + a)) / 4294967296 = b * 2097152 + c := by omega
  rw [t1, t2]; unfold hi; rw [t3]
theorem rot_lo21 (x : Int) (hx : In64 x) : lo x * 2097152 % 4294967296 + hi x * 2097152 / 4294967296 = lo (rot64 21 x) := by
  obtain ⟨a, b, c, d, a0, a1, b0, b1, c0, c1, d0, d1, e1, e2, e3⟩ := rot_parts21 x hx
  rw [e1, e2, e3]; clear e1 e2 e3
  have t1 : (c * 2048 + d) * 2097152 % 4294967296 = d * 2097152 := by omega
  have t2 : (a * 2048 + b) * 2097152 / 4294967296 = a := by omega
  have t3 : ((b * 2097152 + c) * 4294967296 + (d * 2097152 + a)) % 4294967296 = d * 2097152 + a := by omega
  rw [t1, t2]; unfold lo; rw [t3]
theorem rot_hi32 (x : Int) (hx : In64 x) : lo x = hi (rot64 32 x) := by
  rw [show (32 : Int) = ((32 : Nat) : Int) from rfl, rot64_num 32 (by omega) x hx]; unfold In64 at hx; unfold hi lo; omega
theorem rot_lo32 (x : Int) (hx : In64 x) : hi x = lo (rot64 32 x) := by
  rw [show (32 : Int) = ((32 : Nat) : Int) from rfl, rot64_num 32 (by omega) x hx]; unfold In64 at hx; unfold hi lo; omega

end Go.Proofs.YtphapknfkbgapabDoor
