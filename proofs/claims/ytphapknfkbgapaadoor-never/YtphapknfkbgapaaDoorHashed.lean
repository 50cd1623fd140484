import Derived.Test.YtphapknfkbgapaaDoorHash
import Derived.Test.YtphapknfkbgapaaDoorRrounds
import Derived.Deep.RegionHeld3
namespace Go.Proofs.YtphapknfkbgapaaDoor
open Go.RowKit

theorem either_lit (x y h l : Int) (w : World) (e1 : hi y = h) (e2 : lo y = l) (hx : Hid (In64 x)) (hy : Hid (In64 y)) :
    Calls Tryd.prog 95 #[.agg #[.int .i64 (hi x), .int .i64 (lo x)], .agg #[.int .i64 h, .int .i64 l]] w fun e w' => e = .returned (.agg #[.int .i64 (hi (xor64 x y)), .int .i64 (lo (xor64 x y))]) ∧ Below w.heap.size w w' := by
  subst e1; subst e2; exact either_any x y w hx hy

/-- The four words, halved, lie in block b; the key's two in p and q; the room for the answer in r; below r all is as it was. -/
structure Vx (r p q b : Nat) (x y : Int) (v : S4) (w0 w : World) : Prop where
  c0 : w.cell? ⟨b, 0, none⟩ = some (.int .i64 (hi v.a))
  c1 : w.cell? ⟨b, 1, none⟩ = some (.int .i64 (lo v.a))
  c2 : w.cell? ⟨b, 2, none⟩ = some (.int .i64 (hi v.b))
  c3 : w.cell? ⟨b, 3, none⟩ = some (.int .i64 (lo v.b))
  c4 : w.cell? ⟨b, 4, none⟩ = some (.int .i64 (hi v.c))
  c5 : w.cell? ⟨b, 5, none⟩ = some (.int .i64 (lo v.c))
  c6 : w.cell? ⟨b, 6, none⟩ = some (.int .i64 (hi v.d))
  c7 : w.cell? ⟨b, 7, none⟩ = some (.int .i64 (lo v.d))
  f0 : w.frozen? ⟨b, 0, none⟩ = false
  f1 : w.frozen? ⟨b, 1, none⟩ = false
  f2 : w.frozen? ⟨b, 2, none⟩ = false
  f3 : w.frozen? ⟨b, 3, none⟩ = false
  f4 : w.frozen? ⟨b, 4, none⟩ = false
  f5 : w.frozen? ⟨b, 5, none⟩ = false
  f6 : w.frozen? ⟨b, 6, none⟩ = false
  f7 : w.frozen? ⟨b, 7, none⟩ = false
  r0 : w.cell? ⟨r, 0, none⟩ = some (.int .i64 0)
  r1 : w.cell? ⟨r, 1, none⟩ = some (.int .i64 0)
  g0 : w.frozen? ⟨r, 0, none⟩ = false
  g1 : w.frozen? ⟨r, 1, none⟩ = false
  p0 : w.cell? ⟨p, 0, none⟩ = some (.int .i64 (hi x))
  p1 : w.cell? ⟨p, 1, none⟩ = some (.int .i64 (lo x))
  q0 : w.cell? ⟨q, 0, none⟩ = some (.int .i64 (hi y))
  q1 : w.cell? ⟨q, 1, none⟩ = some (.int .i64 (lo y))
  rp : r < p
  pq : p < q
  qb : q < b
  sz : b < w.heap.size
  bel : Low r w0 w
  ix : Hid (In64 x)
  iy : Hid (In64 y)
  ia : Hid (In64 v.a)
  ib : Hid (In64 v.b)
  ic : Hid (In64 v.c)
  id : Hid (In64 v.d)

theorem Vx.drew {r p q b : Nat} {x y : Int} {v : S4} {w0 w : World} (h : Vx r p q b x y v w0 w) : Vx r p q b x y v w0 w.drew := by
  obtain ⟨c0, c1, c2, c3, c4, c5, c6, c7, f0, f1, f2, f3, f4, f5, f6, f7, r0, r1, g0, g1, p0, p1, q0, q1, rp, pq, qb, sz, bel, ix, iy, ia, ib, ic, iD⟩ := h
  exact ⟨c0, c1, c2, c3, c4, c5, c6, c7, f0, f1, f2, f3, f4, f5, f6, f7, r0, r1, g0, g1, p0, p1, q0, q1, rp, pq, qb, sz, bel.trans (Low.of ((Below.refl _ _).drew)), ix, iy, ia, ib, ic, iD⟩
theorem Vx.later {r p q b : Nat} {x y : Int} {v : S4} {w0 w w1 : World} (h : Vx r p q b x y v w0 w) (k : Low w.heap.size w w1) : Vx r p q b x y v w0 w1 := by
  obtain ⟨c0, c1, c2, c3, c4, c5, c6, c7, f0, f1, f2, f3, f4, f5, f6, f7, r0, r1, g0, g1, p0, p1, q0, q1, rp, pq, qb, sz, bel, ix, iy, ia, ib, ic, iD⟩ := h
  have lr : r < w.heap.size := by omega
  have lp : p < w.heap.size := by omega
  have lq : q < w.heap.size := by omega
  exact ⟨(k.cell (p := ⟨b, 0, none⟩) sz).trans c0, (k.cell (p := ⟨b, 1, none⟩) sz).trans c1, (k.cell (p := ⟨b, 2, none⟩) sz).trans c2, (k.cell (p := ⟨b, 3, none⟩) sz).trans c3, (k.cell (p := ⟨b, 4, none⟩) sz).trans c4, (k.cell (p := ⟨b, 5, none⟩) sz).trans c5, (k.cell (p := ⟨b, 6, none⟩) sz).trans c6, (k.cell (p := ⟨b, 7, none⟩) sz).trans c7, (k.frozen (p := ⟨b, 0, none⟩) sz).trans f0, (k.frozen (p := ⟨b, 1, none⟩) sz).trans f1, (k.frozen (p := ⟨b, 2, none⟩) sz).trans f2, (k.frozen (p := ⟨b, 3, none⟩) sz).trans f3, (k.frozen (p := ⟨b, 4, none⟩) sz).trans f4, (k.frozen (p := ⟨b, 5, none⟩) sz).trans f5, (k.frozen (p := ⟨b, 6, none⟩) sz).trans f6, (k.frozen (p := ⟨b, 7, none⟩) sz).trans f7, (k.cell (p := ⟨r, 0, none⟩) lr).trans r0, (k.cell (p := ⟨r, 1, none⟩) lr).trans r1, (k.frozen (p := ⟨r, 0, none⟩) lr).trans g0, (k.frozen (p := ⟨r, 1, none⟩) lr).trans g1, (k.cell (p := ⟨p, 0, none⟩) lp).trans p0, (k.cell (p := ⟨p, 1, none⟩) lp).trans p1, (k.cell (p := ⟨q, 0, none⟩) lq).trans q0, (k.cell (p := ⟨q, 1, none⟩) lq).trans q1, rp, pq, qb, Nat.lt_of_lt_of_le sz k.size, bel.trans (k.mono (by omega)), ix, iy, ia, ib, ic, iD⟩
theorem Vx.set0 {r p q b : Nat} {x y : Int} {v : S4} {w0 w : World} (h : Vx r p q b x y v w0 w) (z : Int) (hz : Hid (In64 z)) : Vx r p q b x y ⟨z, v.b, v.c, v.d⟩ w0 ((w.setCell ⟨b, 0, none⟩ (.int .i64 (hi z))).setCell ⟨b, 1, none⟩ (.int .i64 (lo z))) := by
  obtain ⟨c0, c1, c2, c3, c4, c5, c6, c7, f0, f1, f2, f3, f4, f5, f6, f7, r0, r1, g0, g1, p0, p1, q0, q1, rp, pq, qb, sz, bel, ix, iy, ia, ib, ic, iD⟩ := h
  have n1 : b ≠ r := by omega
  have n2 : b ≠ p := by omega
  have n3 : b ≠ q := by omega
  have n4 : r ≠ b := by omega
  have n5 : p ≠ b := by omega
  have n6 : q ≠ b := by omega
  exact ⟨by go_simp, by go_simp, by go_simp, by go_simp, by go_simp, by go_simp, by go_simp, by go_simp, by go_simp, by go_simp, by go_simp, by go_simp, by go_simp, by go_simp, by go_simp, by go_simp, by go_simp, by go_simp, by go_simp, by go_simp, by go_simp, by go_simp, by go_simp, by go_simp, rp, pq, qb, by simpa using sz, bel.trans (Low.of (((Below.refl _ _).setCell (by show r ≤ b; omega) _).setCell (by show r ≤ b; omega) _)), ix, iy, hz, ib, ic, iD⟩
theorem Vx.set1 {r p q b : Nat} {x y : Int} {v : S4} {w0 w : World} (h : Vx r p q b x y v w0 w) (z : Int) (hz : Hid (In64 z)) : Vx r p q b x y ⟨v.a, z, v.c, v.d⟩ w0 ((w.setCell ⟨b, 2, none⟩ (.int .i64 (hi z))).setCell ⟨b, 3, none⟩ (.int .i64 (lo z))) := by
  obtain ⟨c0, c1, c2, c3, c4, c5, c6, c7, f0, f1, f2, f3, f4, f5, f6, f7, r0, r1, g0, g1, p0, p1, q0, q1, rp, pq, qb, sz, bel, ix, iy, ia, ib, ic, iD⟩ := h
  have n1 : b ≠ r := by omega
  have n2 : b ≠ p := by omega
  have n3 : b ≠ q := by omega
  have n4 : r ≠ b := by omega
  have n5 : p ≠ b := by omega
  have n6 : q ≠ b := by omega
  exact ⟨by go_simp, by go_simp, by go_simp, by go_simp, by go_simp, by go_simp, by go_simp, by go_simp, by go_simp, by go_simp, by go_simp, by go_simp, by go_simp, by go_simp, by go_simp, by go_simp, by go_simp, by go_simp, by go_simp, by go_simp, by go_simp, by go_simp, by go_simp, by go_simp, rp, pq, qb, by simpa using sz, bel.trans (Low.of (((Below.refl _ _).setCell (by show r ≤ b; omega) _).setCell (by show r ≤ b; omega) _)), ix, iy, ia, hz, ic, iD⟩
theorem Vx.set2 {r p q b : Nat} {x y : Int} {v : S4} {w0 w : World} (h : Vx r p q b x y v w0 w) (z : Int) (hz : Hid (In64 z)) : Vx r p q b x y ⟨v.a, v.b, z, v.d⟩ w0 ((w.setCell ⟨b, 4, none⟩ (.int .i64 (hi z))).setCell ⟨b, 5, none⟩ (.int .i64 (lo z))) := by
  obtain ⟨c0, c1, c2, c3, c4, c5, c6, c7, f0, f1, f2, f3, f4, f5, f6, f7, r0, r1, g0, g1, p0, p1, q0, q1, rp, pq, qb, sz, bel, ix, iy, ia, ib, ic, iD⟩ := h
  have n1 : b ≠ r := by omega
  have n2 : b ≠ p := by omega
  have n3 : b ≠ q := by omega
  have n4 : r ≠ b := by omega
  have n5 : p ≠ b := by omega
  have n6 : q ≠ b := by omega
  exact ⟨by go_simp, by go_simp, by go_simp, by go_simp, by go_simp, by go_simp, by go_simp, by go_simp, by go_simp, by go_simp, by go_simp, by go_simp, by go_simp, by go_simp, by go_simp, by go_simp, by go_simp, by go_simp, by go_simp, by go_simp, by go_simp, by go_simp, by go_simp, by go_simp, rp, pq, qb, by simpa using sz, bel.trans (Low.of (((Below.refl _ _).setCell (by show r ≤ b; omega) _).setCell (by show r ≤ b; omega) _)), ix, iy, ia, ib, hz, iD⟩
theorem Vx.set3 {r p q b : Nat} {x y : Int} {v : S4} {w0 w : World} (h : Vx r p q b x y v w0 w) (z : Int) (hz : Hid (In64 z)) : Vx r p q b x y ⟨v.a, v.b, v.c, z⟩ w0 ((w.setCell ⟨b, 6, none⟩ (.int .i64 (hi z))).setCell ⟨b, 7, none⟩ (.int .i64 (lo z))) := by
  obtain ⟨c0, c1, c2, c3, c4, c5, c6, c7, f0, f1, f2, f3, f4, f5, f6, f7, r0, r1, g0, g1, p0, p1, q0, q1, rp, pq, qb, sz, bel, ix, iy, ia, ib, ic, iD⟩ := h
  have n1 : b ≠ r := by omega
  have n2 : b ≠ p := by omega
  have n3 : b ≠ q := by omega
  have n4 : r ≠ b := by omega
  have n5 : p ≠ b := by omega
  have n6 : q ≠ b := by omega
  exact ⟨by go_simp, by go_simp, by go_simp, by go_simp, by go_simp, by go_simp, by go_simp, by go_simp, by go_simp, by go_simp, by go_simp, by go_simp, by go_simp, by go_simp, by go_simp, by go_simp, by go_simp, by go_simp, by go_simp, by go_simp, by go_simp, by go_simp, by go_simp, by go_simp, rp, pq, qb, by simpa using sz, bel.trans (Low.of (((Below.refl _ _).setCell (by show r ≤ b; omega) _).setCell (by show r ≤ b; omega) _)), ix, iy, ia, ib, ic, hz⟩
theorem Vx.setAll {r p q b : Nat} {x y : Int} {v u : S4} {w0 w : World} (h : Vx r p q b x y v w0 w) (ja : Hid (In64 u.a)) (jb : Hid (In64 u.b)) (jc : Hid (In64 u.c)) (jd : Hid (In64 u.d)) : Vx r p q b x y u w0 ((((((((w.setCell ⟨b, 0, none⟩ (.int .i64 (hi u.a))).setCell ⟨b, 1, none⟩ (.int .i64 (lo u.a))).setCell ⟨b, 2, none⟩ (.int .i64 (hi u.b))).setCell ⟨b, 3, none⟩ (.int .i64 (lo u.b))).setCell ⟨b, 4, none⟩ (.int .i64 (hi u.c))).setCell ⟨b, 5, none⟩ (.int .i64 (lo u.c))).setCell ⟨b, 6, none⟩ (.int .i64 (hi u.d))).setCell ⟨b, 7, none⟩ (.int .i64 (lo u.d))) := by
  have h1 := h.set0 u.a ja
  have h2 := h1.set1 u.b jb
  have h3 := h2.set2 u.c jc
  exact h3.set3 u.d jd
theorem rrounds2 (v : S4) (w : World) (ia : Hid (In64 v.a)) (ib : Hid (In64 v.b)) (ic : Hid (In64 v.c)) (iD : Hid (In64 v.d)) :
    Calls Tryd.prog 96 #[.agg #[.int .i64 (hi v.a), .int .i64 (lo v.a), .int .i64 (hi v.b), .int .i64 (lo v.b), .int .i64 (hi v.c), .int .i64 (lo v.c), .int .i64 (hi v.d), .int .i64 (lo v.d)], .int .i64 2] w fun e w' => ∃ u : S4, u = rnds 2 v ∧
      e = .returned (.agg #[.int .i64 (hi u.a), .int .i64 (lo u.a), .int .i64 (hi u.b), .int .i64 (lo u.b), .int .i64 (hi u.c), .int .i64 (lo u.c), .int .i64 (hi u.d), .int .i64 (lo u.d)]) ∧ Below w.heap.size w w' ∧ In64 u.a ∧ In64 u.b ∧ In64 u.c ∧ In64 u.d :=
  rrounds_any v 2 (by omega) w ia ib ic iD
theorem rrounds4 (v : S4) (w : World) (ia : Hid (In64 v.a)) (ib : Hid (In64 v.b)) (ic : Hid (In64 v.c)) (iD : Hid (In64 v.d)) :
    Calls Tryd.prog 96 #[.agg #[.int .i64 (hi v.a), .int .i64 (lo v.a), .int .i64 (hi v.b), .int .i64 (lo v.b), .int .i64 (hi v.c), .int .i64 (lo v.c), .int .i64 (hi v.d), .int .i64 (lo v.d)], .int .i64 4] w fun e w' => ∃ u : S4, u = rnds 4 v ∧
      e = .returned (.agg #[.int .i64 (hi u.a), .int .i64 (lo u.a), .int .i64 (hi u.b), .int .i64 (lo u.b), .int .i64 (hi u.c), .int .i64 (lo u.c), .int .i64 (hi u.d), .int .i64 (lo u.d)]) ∧ Below w.heap.size w w' ∧ In64 u.a ∧ In64 u.b ∧ In64 u.c ∧ In64 u.d :=
  rrounds_any v 4 (by omega) w ia ib ic iD

theorem xor64_assoc (x y z : Int) (hx : In64 x) (hy : In64 y) (hz : In64 z) : xor64 (xor64 x y) z = xor64 x (xor64 y z) := by
  have a1 := xor64_bd x y
  have a2 := xor64_bd y z
  have e1 : xor64 x y = ((x.toNat ^^^ y.toNat : Nat) : Int) := u64_xor _ _ hx.1 hx.2 hy.1 hy.2
  have e2 : xor64 y z = ((y.toNat ^^^ z.toNat : Nat) : Int) := u64_xor _ _ hy.1 hy.2 hz.1 hz.2
  have e3 : xor64 (xor64 x y) z = (((xor64 x y).toNat ^^^ z.toNat : Nat) : Int) := u64_xor _ _ a1.1 a1.2 hz.1 hz.2
  have e4 : xor64 x (xor64 y z) = ((x.toNat ^^^ (xor64 y z).toNat : Nat) : Int) := u64_xor _ _ hx.1 hx.2 a2.1 a2.2
  rw [e3, e4, e1, e2, Int.toNat_natCast, Int.toNat_natCast, Nat.xor_assoc]
theorem conv1 (w : World) (n : Nat) (hn : n < 256) :
    (convert 111 9 (.slice (some ⟨w.heap.size, 0, none⟩) 1 1)).run Tryd.prog (w.alloc (.cells #[.int .u8 (n : Int)] 5)) = .ok (.string ⟨#[UInt8.ofNat n]⟩) (w.alloc (.cells #[.int .u8 (n : Int)] 5)) := by
  have e := run_convert_bytes_back (P := Tryd.prog) (w.alloc (.cells #[.int .u8 (n : Int)] 5)) 111 9 5 ⟨w.heap.size, 0, none⟩ 1 [UInt8.ofNat n] Tryd.underlying111 Tryd.underlying5 Tryd.underlying9 (fun j hj => by
    have : j = 0 := by simpa using hj
    subst this
    have hm : n % 256 = n := Nat.mod_eq_of_lt hn
    simp [Addr.add, hm])
  exact e
/-- How many bytes a string has. -/
def sizeOf : Value → Nat | .string s => s.size | _ => 0
/-- The text with j noughts behind it. -/
def padZ (s : ByteArray) (j : Nat) : ByteArray := ⟨(s.data.toList ++ List.replicate j (0 : UInt8)).toArray⟩
theorem padZ_zero (s : ByteArray) : padZ s 0 = s := by
  cases s; simp [padZ]
theorem padZ_size (s : ByteArray) (j : Nat) : (padZ s j).size = s.size + j := by
  show ((s.data.toList ++ List.replicate j (0 : UInt8)).toArray).size = _
  simp
theorem padZ_succ (s : ByteArray) (j : Nat) : padZ s j ++ ⟨#[0]⟩ = padZ s (j + 1) := by
  unfold padZ
  rw [show (#[0] : Array UInt8) = [0].toArray from rfl, ByteArray.mk_append_mk, List.replicate_succ', List.append_assoc]
theorem padZ_padded (s : ByteArray) : padZ s (zeros s) ++ ⟨#[UInt8.ofNat (s.size % 256)]⟩ = padded s := by
  unfold padZ padded
  rw [show (#[UInt8.ofNat (s.size % 256)] : Array UInt8) = [UInt8.ofNat (s.size % 256)].toArray from rfl, ByteArray.mk_append_mk, List.append_assoc]

set_option maxRecDepth 100000 in
set_option maxHeartbeats 8000000 in
theorem hashed_any (key text : ByteArray) (w : World) (hk : key.size = 16) (ht : text.size ≤ 400) :
    Calls Tryd.prog 67 #[.string key, .string text] w fun e w' => e = .returned (.agg #[.int .i64 (hi (hashOf key text)), .int .i64 (lo (hashOf key text))]) ∧ Low w.heap.size w w' := by
  have K : Hid (key.size = 16) := hk
  clear hk
  go_enter Tryd.func67, Tryd.ntmps67
  go_upto_region 2 with (go_at_call 94; refine (long_any _ _ _ (by rw [K.out]; omega) (by omega) (by rw [K.out]; omega)).mono ?_; rintro e w1 ⟨rfl, hb1⟩; obtain ⟨hc1, hf1⟩ := bcell hb1; have hz1 : w.heap.size + 1 ≤ w1.heap.size := by (have := hb1.size; simpa using this))
  go_upto_region 3 with (go_at_call 94; refine (long_any _ _ _ (by rw [K.out]; omega) (by omega) (by rw [K.out]; omega)).mono ?_; rintro e w2 ⟨rfl, hb2⟩; obtain ⟨hc2, hf2⟩ := bcell hb2; have hz2 : w1.heap.size + 1 ≤ w2.heap.size := by (have := hb2.size; simpa using this))
  go_cut [7] from 11 to 14 (fun s7 wx => ∃ b, s7 = .pointer (some ⟨b, 0, none⟩) ∧ Vx w.heap.size w1.heap.size w2.heap.size b (rd64 key 0) (rd64 key 8) ⟨0, 0, 0, 0⟩ w wx)
  case first =>
    go_wp2_with fail
    go_meet
    refine ⟨_, rfl, ?_⟩
    have m1 : w.heap.size < w1.heap.size := by omega
    have m2 : w1.heap.size < w2.heap.size := by omega
    have m3 : w.heap.size < w2.heap.size := by omega
    have m4 : w.heap.size ≠ w2.heap.size := by omega
    have m5 : w1.heap.size ≠ w2.heap.size := by omega
    have m6 : w.heap.size ≠ w1.heap.size := by omega
    have i0 : Hid (In64 0) := by show In64 0; unfold In64; omega
    have t1 : hi 0 = 0 := rfl
    have t2 : lo 0 = 0 := rfl
    refine ⟨?_, ?_, ?_, ?_, ?_, ?_, ?_, ?_, ?_, ?_, ?_, ?_, ?_, ?_, ?_, ?_, ?_, ?_, ?_, ?_, ?_, ?_, ?_, ?_, m1, m2, by simp, by simp, ?_, rd64_bd _ _, rd64_bd _ _, i0, i0, i0, i0⟩
    all_goals first | (go_simp; done) | (rw [t1]; go_simp; done) | (rw [t2]; go_simp; done) | skip
    have a1 : Below w.heap.size w (w.alloc (.cells #[.int .i64 0, .int .i64 0] 116)) := (Below.refl _ _).alloc (Nat.le_refl _) _
    have a2 := (a1.trans (hb1.mono (by simp))).alloc (by omega) (.cells #[.int .i64 (hi (rd64 key 0)), .int .i64 (lo (rd64 key 0))] 116)
    have a3 := (a2.trans (hb2.mono (by simp; omega))).alloc (by omega) (.cells #[.int .i64 (hi (rd64 key 8)), .int .i64 (lo (rd64 key 8))] 116)
    exact Low.of (a3.alloc (by simp; omega) _)
  case rest =>
  obtain ⟨b, rfl, hcut⟩ := hcut
  clear hb1 hb2 hc1 hf1 hc2 hf2
  have HV : Hid (Vx w.heap.size w1.heap.size w2.heap.size b (rd64 key 0) (rd64 key 8) ⟨0, 0, 0, 0⟩ w wc) := hcut
  obtain ⟨zc0, zc1, zc2, zc3, zc4, zc5, zc6, zc7, zf0, zf1, zf2, zf3, zf4, zf5, zf6, zf7, zr0, zr1, zg0, zg1, zp0, zp1, zq0, zq1, zrp, zpq, zqb, zsz, zbel, zix, ziy, zia, zib, zic, zid⟩ := hcut
  clear zbel
  have zlr : w.heap.size < wc.heap.size := by omega
  have zlp : w1.heap.size < wc.heap.size := by omega
  have zlq : w2.heap.size < wc.heap.size := by omega
  go_upto_region 4 with fail
  go_cut [] from 15 to 18 (fun wx => Vx w.heap.size w1.heap.size w2.heap.size b (rd64 key 0) (rd64 key 8) ⟨xor64 (rd64 key 0) 8317987319222330741, 0, 0, 0⟩ w wx)
  case first =>
    go_wp2_with (go_at_call 95; refine (either_lit _ 8317987319222330741 _ _ _ rfl rfl (rd64_bd _ _) (by show In64 _; unfold In64; omega)).mono ?_; rintro e w3 ⟨rfl, hb3⟩; have hc3 : ∀ b o, b < wc.heap.size → w3.cell? ⟨b, o, none⟩ = wc.cell? ⟨b, o, none⟩ := (bcell hb3).1; have hf3 : ∀ b o, b < wc.heap.size → w3.frozen? ⟨b, o, none⟩ = wc.frozen? ⟨b, o, none⟩ := (bcell hb3).2)
    go_meet; exact (HV.out.later (Low.of hb3)).set0 _ (xor64_bd _ _)
  case rest =>
  clear HV zrp zpq zqb zsz zix ziy zia zib zic zid zlr zlp zlq zc0 zc1 zc2 zc3 zc4 zc5 zc6 zc7 zf0 zf1 zf2 zf3 zf4 zf5 zf6 zf7 zr0 zr1 zg0 zg1 zp0 zp1 zq0 zq1
  have HV : Hid (Vx w.heap.size w1.heap.size w2.heap.size b (rd64 key 0) (rd64 key 8) ⟨xor64 (rd64 key 0) 8317987319222330741, 0, 0, 0⟩ w wc) := hcut
  obtain ⟨zc0, zc1, zc2, zc3, zc4, zc5, zc6, zc7, zf0, zf1, zf2, zf3, zf4, zf5, zf6, zf7, zr0, zr1, zg0, zg1, zp0, zp1, zq0, zq1, zrp, zpq, zqb, zsz, zbel, zix, ziy, zia, zib, zic, zid⟩ := hcut
  clear zbel
  have zlr : w.heap.size < wc.heap.size := by omega
  have zlp : w1.heap.size < wc.heap.size := by omega
  have zlq : w2.heap.size < wc.heap.size := by omega
  go_upto_region 5 with fail
  go_cut [] from 19 to 22 (fun wx => Vx w.heap.size w1.heap.size w2.heap.size b (rd64 key 0) (rd64 key 8) ⟨xor64 (rd64 key 0) 8317987319222330741, xor64 (rd64 key 8) 7237128888997146477, 0, 0⟩ w wx)
  case first =>
    go_wp2_with (go_at_call 95; refine (either_lit _ 7237128888997146477 _ _ _ rfl rfl (rd64_bd _ _) (by show In64 _; unfold In64; omega)).mono ?_; rintro e w3 ⟨rfl, hb3⟩; have hc3 : ∀ b o, b < wc.heap.size → w3.cell? ⟨b, o, none⟩ = wc.cell? ⟨b, o, none⟩ := (bcell hb3).1; have hf3 : ∀ b o, b < wc.heap.size → w3.frozen? ⟨b, o, none⟩ = wc.frozen? ⟨b, o, none⟩ := (bcell hb3).2)
    go_meet; exact (HV.out.later (Low.of hb3)).set1 _ (xor64_bd _ _)
  case rest =>
  clear HV zrp zpq zqb zsz zix ziy zia zib zic zid zlr zlp zlq zc0 zc1 zc2 zc3 zc4 zc5 zc6 zc7 zf0 zf1 zf2 zf3 zf4 zf5 zf6 zf7 zr0 zr1 zg0 zg1 zp0 zp1 zq0 zq1
  have HV : Hid (Vx w.heap.size w1.heap.size w2.heap.size b (rd64 key 0) (rd64 key 8) ⟨xor64 (rd64 key 0) 8317987319222330741, xor64 (rd64 key 8) 7237128888997146477, 0, 0⟩ w wc) := hcut
  obtain ⟨zc0, zc1, zc2, zc3, zc4, zc5, zc6, zc7, zf0, zf1, zf2, zf3, zf4, zf5, zf6, zf7, zr0, zr1, zg0, zg1, zp0, zp1, zq0, zq1, zrp, zpq, zqb, zsz, zbel, zix, ziy, zia, zib, zic, zid⟩ := hcut
  clear zbel
  have zlr : w.heap.size < wc.heap.size := by omega
  have zlp : w1.heap.size < wc.heap.size := by omega
  have zlq : w2.heap.size < wc.heap.size := by omega
  go_upto_region 6 with fail
  go_cut [] from 23 to 26 (fun wx => Vx w.heap.size w1.heap.size w2.heap.size b (rd64 key 0) (rd64 key 8) ⟨xor64 (rd64 key 0) 8317987319222330741, xor64 (rd64 key 8) 7237128888997146477, xor64 (rd64 key 0) 7816392313619706465, 0⟩ w wx)
  case first =>
    go_wp2_with (go_at_call 95; refine (either_lit _ 7816392313619706465 _ _ _ rfl rfl (rd64_bd _ _) (by show In64 _; unfold In64; omega)).mono ?_; rintro e w3 ⟨rfl, hb3⟩; have hc3 : ∀ b o, b < wc.heap.size → w3.cell? ⟨b, o, none⟩ = wc.cell? ⟨b, o, none⟩ := (bcell hb3).1; have hf3 : ∀ b o, b < wc.heap.size → w3.frozen? ⟨b, o, none⟩ = wc.frozen? ⟨b, o, none⟩ := (bcell hb3).2)
    go_meet; exact (HV.out.later (Low.of hb3)).set2 _ (xor64_bd _ _)
  case rest =>
  clear HV zrp zpq zqb zsz zix ziy zia zib zic zid zlr zlp zlq zc0 zc1 zc2 zc3 zc4 zc5 zc6 zc7 zf0 zf1 zf2 zf3 zf4 zf5 zf6 zf7 zr0 zr1 zg0 zg1 zp0 zp1 zq0 zq1
  have HV : Hid (Vx w.heap.size w1.heap.size w2.heap.size b (rd64 key 0) (rd64 key 8) ⟨xor64 (rd64 key 0) 8317987319222330741, xor64 (rd64 key 8) 7237128888997146477, xor64 (rd64 key 0) 7816392313619706465, 0⟩ w wc) := hcut
  obtain ⟨zc0, zc1, zc2, zc3, zc4, zc5, zc6, zc7, zf0, zf1, zf2, zf3, zf4, zf5, zf6, zf7, zr0, zr1, zg0, zg1, zp0, zp1, zq0, zq1, zrp, zpq, zqb, zsz, zbel, zix, ziy, zia, zib, zic, zid⟩ := hcut
  clear zbel
  have zlr : w.heap.size < wc.heap.size := by omega
  have zlp : w1.heap.size < wc.heap.size := by omega
  have zlq : w2.heap.size < wc.heap.size := by omega
  go_upto_region 7 with fail
  go_cut [] from 27 to 30 (fun wx => Vx w.heap.size w1.heap.size w2.heap.size b (rd64 key 0) (rd64 key 8) ⟨xor64 (rd64 key 0) 8317987319222330741, xor64 (rd64 key 8) 7237128888997146477, xor64 (rd64 key 0) 7816392313619706465, xor64 (rd64 key 8) 8387220255154660723⟩ w wx)
  case first =>
    go_wp2_with (go_at_call 95; refine (either_lit _ 8387220255154660723 _ _ _ rfl rfl (rd64_bd _ _) (by show In64 _; unfold In64; omega)).mono ?_; rintro e w3 ⟨rfl, hb3⟩; have hc3 : ∀ b o, b < wc.heap.size → w3.cell? ⟨b, o, none⟩ = wc.cell? ⟨b, o, none⟩ := (bcell hb3).1; have hf3 : ∀ b o, b < wc.heap.size → w3.frozen? ⟨b, o, none⟩ = wc.frozen? ⟨b, o, none⟩ := (bcell hb3).2)
    go_meet; exact (HV.out.later (Low.of hb3)).set3 _ (xor64_bd _ _)
  case rest =>
  clear HV zrp zpq zqb zsz zix ziy zia zib zic zid zlr zlp zlq zc0 zc1 zc2 zc3 zc4 zc5 zc6 zc7 zf0 zf1 zf2 zf3 zf4 zf5 zf6 zf7 zr0 zr1 zg0 zg1 zp0 zp1 zq0 zq1
  have HV : Hid (Vx w.heap.size w1.heap.size w2.heap.size b (rd64 key 0) (rd64 key 8) ⟨xor64 (rd64 key 0) 8317987319222330741, xor64 (rd64 key 8) 7237128888997146477, xor64 (rd64 key 0) 7816392313619706465, xor64 (rd64 key 8) 8387220255154660723⟩ w wc) := hcut
  obtain ⟨zc0, zc1, zc2, zc3, zc4, zc5, zc6, zc7, zf0, zf1, zf2, zf3, zf4, zf5, zf6, zf7, zr0, zr1, zg0, zg1, zp0, zp1, zq0, zq1, zrp, zpq, zqb, zsz, zbel, zix, ziy, zia, zib, zic, zid⟩ := hcut
  clear zbel
  have zlr : w.heap.size < wc.heap.size := by omega
  have zlp : w1.heap.size < wc.heap.size := by omega
  have zlq : w2.heap.size < wc.heap.size := by omega
  obtain ⟨v0, hv0⟩ : ∃ v0, Hid (v0 = mix0 key) := ⟨_, rfl⟩
  have HV0 : Hid (Vx w.heap.size w1.heap.size w2.heap.size b (rd64 key 0) (rd64 key 8) v0 w wc) := by rw [hv0.out]; exact HV.out
  clear HV zrp zpq zqb zsz zix ziy zia zib zic zid zlr zlp zlq zc0 zc1 zc2 zc3 zc4 zc5 zc6 zc7 zf0 zf1 zf2 zf3 zf4 zf5 zf6 zf7 zr0 zr1 zg0 zg1 zp0 zp1 zq0 zq1
  have hzz : zeros text ≤ 7 := by unfold zeros; omega
  go_upto_region 9 with fail
  go_loop [1] (fun t => ∃ j : Nat, j ≤ zeros text ∧ t = .string (padZ text j)) (fun t => 8 - (sizeOf t - text.size))
  case atStart => exact ⟨0, Nat.zero_le _, by rw [padZ_zero]⟩
  case round =>
    obtain ⟨j, hj, rfl⟩ := hrel
    have hps := padZ_size text j
    have HPS : Hid ((padZ text j).size = text.size + j) := hps
    have hps1 : (padZ text j).size ≤ 408 := by omega
    clear hps
    by_cases hlt : j < zeros text
    · have hne : (((padZ text j).size : Int) % 8 != 7) = true := by
        rw [bne_iff_ne, HPS.out]; unfold zeros at hlt; omega
      go_wp2_with fail
      go_round
      case rel => exact ⟨j + 1, by omega, by rw [padZ_succ]⟩
      case measure =>
        simp only [sizeOf, ByteArray.size_append']
        have : (⟨#[0]⟩ : ByteArray).size = 1 := rfl
        rw [HPS.out, this]; omega
    · have hz : j = zeros text := by omega
      subst hz
      have hne : (((padZ text (zeros text)).size : Int) % 8 != 7) = false := by
        rw [bne_eq_false_iff_eq, HPS.out]; unfold zeros; omega
      have hcv : (convert 111 9 (.slice (some ⟨wc.heap.size, 0, none⟩) 1 1)).run Tryd.prog (wc.alloc (.cells #[.int .u8 ((text.size : Int) % 256)] 5)) = .ok (.string ⟨#[UInt8.ofNat (text.size % 256)]⟩) (wc.alloc (.cells #[.int .u8 ((text.size : Int) % 256)] 5)) := conv1 wc (text.size % 256) (by omega)
      have hpp := padZ_padded text
      go_upto_region 13 with fail
      have HV1 : Hid (Vx w.heap.size w1.heap.size w2.heap.size b (rd64 key 0) (rd64 key 8) v0 w (wc.alloc (.cells #[.int .u8 ((text.size : Int) % 256)] 5))) := HV0.out.later (Low.of ((Below.refl _ _).alloc (Nat.le_refl _) _))
      have hpe : Hid ((padded text).size % 8 = 0) := padded_eight text
      have hpl := padded_le text ht
      clear hcv hpp HPS hps1 hne hj hlt HV0 hzz
      go_loopw [9, 10] (fun i _ wr => ∃ k p : Nat, Hid (p = 8 * k) ∧ p ≤ (padded text).size ∧ i = .int .i64 p ∧ Hid (Vx w.heap.size w1.heap.size w2.heap.size b (rd64 key 0) (rd64 key 8) (absorb (padded text) k v0) w wr)) (fun i _ _ => (padded text).size - (intOf i).toNat)
      case atStart => exact ⟨0, 0, rfl, Nat.zero_le _, rfl, HV1⟩
      case round =>
        obtain ⟨k, p, hp, hk8, rfl, hV⟩ := hrel
        clear HV1
        obtain ⟨v, hv⟩ : ∃ v, Hid (v = absorb (padded text) k v0) := ⟨_, rfl⟩
        rw [← hv.out] at hV
        by_cases hlt : p < (padded text).size
        · have h8 : p + 8 ≤ (padded text).size := by have := hpe.out; have := hp.out; omega
          obtain ⟨m, hm⟩ : ∃ m, Hid (m = rd64 (padded text) p) := ⟨_, rfl⟩
          have im : Hid (In64 m) := by rw [hm.out]; exact rd64_bd _ _
          go_upto_region 15 with fail
          go_cut [10] from 52 to 54 (fun s10 wx => ∃ bm, s10 = .pointer (some ⟨bm, 0, none⟩) ∧ Vx w.heap.size w1.heap.size w2.heap.size b (rd64 key 0) (rd64 key 8) v w wx ∧ wx.cell? ⟨bm, 0, none⟩ = some (.int .i64 (hi m)) ∧ wx.cell? ⟨bm, 1, none⟩ = some (.int .i64 (lo m)) ∧ b < bm ∧ bm < wx.heap.size)
          case first =>
            go_wp2_with (go_at_call 94; refine (long_any _ _ _ hpl (by omega) (by omega)).mono ?_; rintro e w3 ⟨rfl, hb3⟩)
            go_meet
            have hV3 := (hV.out.later (Low.of hb3))
            refine ⟨_, rfl, hV3.later (Low.of ((Below.refl _ _).alloc (Nat.le_refl _) _)), ?_, ?_, hV3.sz, by simp⟩
            · rw [hm.out]; go_simp
            · rw [hm.out]; go_simp
          case rest =>
          obtain ⟨bm, rfl, hcut, hm0, hm1, hbm, hbs⟩ := hcut
          have HV : Hid (Vx w.heap.size w1.heap.size w2.heap.size b (rd64 key 0) (rd64 key 8) v w wc) := hcut
          obtain ⟨zc0, zc1, zc2, zc3, zc4, zc5, zc6, zc7, zf0, zf1, zf2, zf3, zf4, zf5, zf6, zf7, zr0, zr1, zg0, zg1, zp0, zp1, zq0, zq1, zrp, zpq, zqb, zsz, zbel, zix, ziy, zia, zib, zic, zid⟩ := hcut
          clear zbel
          have zlr : w.heap.size < wc.heap.size := by omega

          go_upto_region 16 with fail
          go_cut [] from 55 to 59 (fun wx => Vx w.heap.size w1.heap.size w2.heap.size b (rd64 key 0) (rd64 key 8) ⟨v.a, v.b, v.c, xor64 v.d m⟩ w wx ∧ wx.cell? ⟨bm, 0, none⟩ = some (.int .i64 (hi m)) ∧ wx.cell? ⟨bm, 1, none⟩ = some (.int .i64 (lo m)) ∧ b < bm ∧ bm < wx.heap.size)
          case first =>
            go_wp2_with (go_at_call 95; refine (either_any _ _ _ zid im).mono ?_; rintro e w3 ⟨rfl, hb3⟩; have hc3 : ∀ b o, b < wc.heap.size → w3.cell? ⟨b, o, none⟩ = wc.cell? ⟨b, o, none⟩ := (bcell hb3).1; have hf3 : ∀ b o, b < wc.heap.size → w3.frozen? ⟨b, o, none⟩ = wc.frozen? ⟨b, o, none⟩ := (bcell hb3).2)
            have hnb : bm ≠ b := by omega
            have hnb' : b ≠ bm := by omega
            go_meet
            refine ⟨(HV.out.later (Low.of hb3)).set3 _ (xor64_bd _ _), ?_, ?_, hbm, ?_⟩
            · go_simp
            · go_simp
            · have := hb3.size; simp; omega
          case rest =>
          clear HV zrp zpq zqb zsz zix ziy zia zib zic zid zlr zc0 zc1 zc2 zc3 zc4 zc5 zc6 zc7 zf0 zf1 zf2 zf3 zf4 zf5 zf6 zf7 zr0 zr1 zg0 zg1 zp0 zp1 zq0 zq1 hm0 hm1 hbs
          obtain ⟨hcut, hm0, hm1, _, hbs⟩ := hcut
          have HV : Hid (Vx w.heap.size w1.heap.size w2.heap.size b (rd64 key 0) (rd64 key 8) ⟨v.a, v.b, v.c, xor64 v.d m⟩ w wc) := hcut
          obtain ⟨zc0, zc1, zc2, zc3, zc4, zc5, zc6, zc7, zf0, zf1, zf2, zf3, zf4, zf5, zf6, zf7, zr0, zr1, zg0, zg1, zp0, zp1, zq0, zq1, zrp, zpq, zqb, zsz, zbel, zix, ziy, zia, zib, zic, zid⟩ := hcut
          clear zbel
          have zlr : w.heap.size < wc.heap.size := by omega

          go_upto_region 17 with fail
          go_cut [] from 60 to 61 (fun wx => Vx w.heap.size w1.heap.size w2.heap.size b (rd64 key 0) (rd64 key 8) (rnds 2 ⟨v.a, v.b, v.c, xor64 v.d m⟩) w wx ∧ wx.cell? ⟨bm, 0, none⟩ = some (.int .i64 (hi m)) ∧ wx.cell? ⟨bm, 1, none⟩ = some (.int .i64 (lo m)) ∧ b < bm ∧ bm < wx.heap.size)
          case first =>
            go_wp2_with (go_at_call 96; refine (rrounds2 ⟨v.a, v.b, v.c, xor64 v.d m⟩ _ zia zib zic zid).mono ?_; rintro e w3 ⟨u, hu, rfl, hb3, ja, jb, jc, jd⟩; have HU : Hid _ := hu; clear hu; have hc3 : ∀ b o, b < wc.heap.size → w3.cell? ⟨b, o, none⟩ = wc.cell? ⟨b, o, none⟩ := (bcell hb3).1; have hf3 : ∀ b o, b < wc.heap.size → w3.frozen? ⟨b, o, none⟩ = wc.frozen? ⟨b, o, none⟩ := (bcell hb3).2)
            have hnb : bm ≠ b := by omega
            have hnb' : b ≠ bm := by omega
            go_meet
            rw [← HU.out]
            refine ⟨(HV.out.later (Low.of hb3)).setAll ja jb jc jd, ?_, ?_, hbm, ?_⟩
            · go_simp
            · go_simp
            · have := hb3.size; simp; omega
          case rest =>
          clear HV zrp zpq zqb zsz zix ziy zia zib zic zid zlr zc0 zc1 zc2 zc3 zc4 zc5 zc6 zc7 zf0 zf1 zf2 zf3 zf4 zf5 zf6 zf7 zr0 zr1 zg0 zg1 zp0 zp1 zq0 zq1 hm0 hm1 hbs
          obtain ⟨hcut, hm0, hm1, _, hbs⟩ := hcut
          obtain ⟨u, hu⟩ : ∃ u, Hid (u = rnds 2 ⟨v.a, v.b, v.c, xor64 v.d m⟩) := ⟨_, rfl⟩
          rw [← hu.out] at hcut
          have HV : Hid (Vx w.heap.size w1.heap.size w2.heap.size b (rd64 key 0) (rd64 key 8) u w wc) := hcut
          obtain ⟨zc0, zc1, zc2, zc3, zc4, zc5, zc6, zc7, zf0, zf1, zf2, zf3, zf4, zf5, zf6, zf7, zr0, zr1, zg0, zg1, zp0, zp1, zq0, zq1, zrp, zpq, zqb, zsz, zbel, zix, ziy, zia, zib, zic, zid⟩ := hcut
          clear zbel
          have zlr : w.heap.size < wc.heap.size := by omega

          go_wp2_with (go_at_call 95; refine (either_any _ _ _ zia im).mono ?_; rintro e w3 ⟨rfl, hb3⟩; have hc3 : ∀ b o, b < wc.heap.size → w3.cell? ⟨b, o, none⟩ = wc.cell? ⟨b, o, none⟩ := (bcell hb3).1; have hf3 : ∀ b o, b < wc.heap.size → w3.frozen? ⟨b, o, none⟩ = wc.frozen? ⟨b, o, none⟩ := (bcell hb3).2)
          go_roundw
          case rel =>
            refine ⟨k + 1, p + 8, (by show _ = _; have := hp.out; omega), by omega, by go_num, ?_⟩
            have e : absorb (padded text) (k + 1) v0 = ⟨xor64 u.a m, u.b, u.c, u.d⟩ := by rw [hu.out, hv.out, hm.out, hp.out]; rfl
            rw [e]
            exact (HV.out.later (Low.of hb3)).set0 _ (xor64_bd _ _)
          case measure => simp [intOf]; omega
        · have hk2 : Hid ((padded text).size / 8 = k) := by (show _ = _; have := hpe.out; have := hp.out; omega)
          have hcut := hV.out
          have HV : Hid (Vx w.heap.size w1.heap.size w2.heap.size b (rd64 key 0) (rd64 key 8) v w wr) := hcut
          obtain ⟨zc0, zc1, zc2, zc3, zc4, zc5, zc6, zc7, zf0, zf1, zf2, zf3, zf4, zf5, zf6, zf7, zr0, zr1, zg0, zg1, zp0, zp1, zq0, zq1, zrp, zpq, zqb, zsz, zbel, zix, ziy, zia, zib, zic, zid⟩ := hcut
          clear zbel
          have zlr : w.heap.size < wr.heap.size := by omega

          go_upto_region 19 with fail
          go_cut [] from 67 to 71 (fun wx => Vx w.heap.size w1.heap.size w2.heap.size b (rd64 key 0) (rd64 key 8) ⟨v.a, v.b, xor64 v.c 255, v.d⟩ w wx)
          case first =>
            go_wp2_with (go_at_call 95; refine (either_lit _ 255 _ _ _ rfl rfl zic (by show In64 _; unfold In64; omega)).mono ?_; rintro e w3 ⟨rfl, hb3⟩; have hc3 : ∀ b o, b < wr.heap.size → w3.cell? ⟨b, o, none⟩ = wr.cell? ⟨b, o, none⟩ := (bcell hb3).1; have hf3 : ∀ b o, b < wr.heap.size → w3.frozen? ⟨b, o, none⟩ = wr.frozen? ⟨b, o, none⟩ := (bcell hb3).2)
            go_meet; exact (HV.out.later (Low.of hb3)).set2 _ (xor64_bd _ _)
          case rest =>
          clear HV zrp zpq zqb zsz zix ziy zia zib zic zid zlr zc0 zc1 zc2 zc3 zc4 zc5 zc6 zc7 zf0 zf1 zf2 zf3 zf4 zf5 zf6 zf7 zr0 zr1 zg0 zg1 zp0 zp1 zq0 zq1
          have HV : Hid (Vx w.heap.size w1.heap.size w2.heap.size b (rd64 key 0) (rd64 key 8) ⟨v.a, v.b, xor64 v.c 255, v.d⟩ w wc) := hcut
          obtain ⟨zc0, zc1, zc2, zc3, zc4, zc5, zc6, zc7, zf0, zf1, zf2, zf3, zf4, zf5, zf6, zf7, zr0, zr1, zg0, zg1, zp0, zp1, zq0, zq1, zrp, zpq, zqb, zsz, zbel, zix, ziy, zia, zib, zic, zid⟩ := hcut
          clear zbel
          have zlr : w.heap.size < wc.heap.size := by omega

          go_upto_region 20 with fail
          go_cut [] from 72 to 73 (fun wx => Vx w.heap.size w1.heap.size w2.heap.size b (rd64 key 0) (rd64 key 8) (rnds 4 ⟨v.a, v.b, xor64 v.c 255, v.d⟩) w wx)
          case first =>
            go_wp2_with (go_at_call 96; refine (rrounds4 ⟨v.a, v.b, xor64 v.c 255, v.d⟩ _ zia zib zic zid).mono ?_; rintro e w3 ⟨u, hu, rfl, hb3, ja, jb, jc, jd⟩; have HU : Hid _ := hu; clear hu; have hc3 : ∀ b o, b < wc.heap.size → w3.cell? ⟨b, o, none⟩ = wc.cell? ⟨b, o, none⟩ := (bcell hb3).1; have hf3 : ∀ b o, b < wc.heap.size → w3.frozen? ⟨b, o, none⟩ = wc.frozen? ⟨b, o, none⟩ := (bcell hb3).2)
            go_meet
            rw [← HU.out]
            exact (HV.out.later (Low.of hb3)).setAll ja jb jc jd
          case rest =>
          clear HV zrp zpq zqb zsz zix ziy zia zib zic zid zlr zc0 zc1 zc2 zc3 zc4 zc5 zc6 zc7 zf0 zf1 zf2 zf3 zf4 zf5 zf6 zf7 zr0 zr1 zg0 zg1 zp0 zp1 zq0 zq1
          obtain ⟨u, hu⟩ : ∃ u, Hid (u = rnds 4 ⟨v.a, v.b, xor64 v.c 255, v.d⟩) := ⟨_, rfl⟩
          rw [← hu.out] at hcut
          have HV : Hid (Vx w.heap.size w1.heap.size w2.heap.size b (rd64 key 0) (rd64 key 8) u w wc) := hcut
          obtain ⟨zc0, zc1, zc2, zc3, zc4, zc5, zc6, zc7, zf0, zf1, zf2, zf3, zf4, zf5, zf6, zf7, zr0, zr1, zg0, zg1, zp0, zp1, zq0, zq1, zrp, zpq, zqb, zsz, zbel, zix, ziy, zia, zib, zic, zid⟩ := hcut
          clear zbel
          have zlr : w.heap.size < wc.heap.size := by omega

          go_upto_region 21 with fail
          have hbr : b ≠ w.heap.size := by omega
          have hrb : w.heap.size ≠ b := by omega
          clear zp0 zp1 zq0 zq1 zix ziy
          go_region_held3 (fun W => W.cell? ⟨b, 0, none⟩ = some (.int .i64 (hi u.a)) ∧ W.cell? ⟨b, 1, none⟩ = some (.int .i64 (lo u.a)) ∧ W.cell? ⟨b, 2, none⟩ = some (.int .i64 (hi u.b)) ∧ W.cell? ⟨b, 3, none⟩ = some (.int .i64 (lo u.b)) ∧ W.cell? ⟨b, 4, none⟩ = some (.int .i64 (hi u.c)) ∧ W.cell? ⟨b, 5, none⟩ = some (.int .i64 (lo u.c)) ∧ W.cell? ⟨b, 6, none⟩ = some (.int .i64 (hi u.d)) ∧ W.cell? ⟨b, 7, none⟩ = some (.int .i64 (lo u.d))) (go_keep)
            (first | (go_at_call_of 95 (Value.int IntKind.i64 (hi u.a)); refine (either_any _ _ _ zia zib).mono ?_; rintro e w3 ⟨rfl, hb3⟩; have hc3 : ∀ b o, b < wc.heap.size → w3.cell? ⟨b, o, none⟩ = wc.cell? ⟨b, o, none⟩ := (bcell hb3).1; have hf3 : ∀ b o, b < wc.heap.size → w3.frozen? ⟨b, o, none⟩ = wc.frozen? ⟨b, o, none⟩ := (bcell hb3).2; have hz3 : b < w3.heap.size := Nat.lt_of_lt_of_le zsz hb3.size; have hy3 : w.heap.size < w3.heap.size := Nat.lt_of_lt_of_le zlr hb3.size) | (go_at_call_of 95 (Value.int IntKind.i64 (hi u.c)); refine (either_any _ _ _ zic zid).mono ?_; rintro e w4 ⟨rfl, hb4⟩; have hc4 : ∀ b o, b < w3.heap.size → w4.cell? ⟨b, o, none⟩ = w3.cell? ⟨b, o, none⟩ := (bcell hb4).1; have hf4 : ∀ b o, b < w3.heap.size → w4.frozen? ⟨b, o, none⟩ = w3.frozen? ⟨b, o, none⟩ := (bcell hb4).2; have hz4 : b < w4.heap.size := Nat.lt_of_lt_of_le hz3 hb4.size; have hy4 : w.heap.size < w4.heap.size := Nat.lt_of_lt_of_le hy3 hb4.size) | (go_at_call_of 95 (Value.int IntKind.i64 (hi (xor64 u.a u.b))); refine (either_any _ _ _ (xor64_bd _ _) (xor64_bd _ _)).mono ?_; rintro e w5 ⟨rfl, hb5⟩; have hc5 : ∀ b o, b < w4.heap.size → w5.cell? ⟨b, o, none⟩ = w4.cell? ⟨b, o, none⟩ := (bcell hb5).1; have hf5 : ∀ b o, b < w4.heap.size → w5.frozen? ⟨b, o, none⟩ = w4.frozen? ⟨b, o, none⟩ := (bcell hb5).2; have hz5 : b < w5.heap.size := Nat.lt_of_lt_of_le hz4 hb5.size; have hy5 : w.heap.size < w5.heap.size := Nat.lt_of_lt_of_le hy4 hb5.size))
          go_wp2_with fail
          have hL : Low w.heap.size w w5 := ((HV.out.bel.trans (Low.of ((Below.refl _ _).drew))).trans ((Low.of hb3).mono (Nat.le_of_lt zlr))).trans (((Low.of hb4).mono (Nat.le_of_lt hy3)).trans ((Low.of hb5).mono (Nat.le_of_lt hy4)))
          refine bodyPost_ret (v := .agg #[.int .i64 (hi (xor64 (xor64 u.a u.b) (xor64 u.c u.d))), .int .i64 (lo (xor64 (xor64 u.a u.b) (xor64 u.c u.d)))]) (by simp [results, Tryd.results67, go_sem, hc5, hc4, hc3, zr0, zr1, hy4, hy3, zlr]) rfl ⟨?_, ?_⟩
          · have e : hashOf key text = xor64 (xor64 u.a u.b) (xor64 u.c u.d) := by
              unfold hashOf
              rw [hk2.out, ← hv0.out, ← hv.out]
              show fold4 (rnds 4 ⟨v.a, v.b, xor64 v.c 255, v.d⟩) = _
              rw [← hu.out]
              exact xor64_assoc _ _ _ (xor64_bd _ _) zic.out zid.out
            rw [e]
          · exact hL.trans (Low.of (((Below.refl _ _).setCell (by exact Nat.le_refl _) _).setCell (by exact Nat.le_refl _) _))
end Go.Proofs.YtphapknfkbgapaaDoor
