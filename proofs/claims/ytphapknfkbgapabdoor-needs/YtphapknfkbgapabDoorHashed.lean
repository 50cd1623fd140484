import Derived.Test.YtphapknfkbgapabDoorHash
import Derived.Test.YtphapknfkbgapabDoorRrounds
import Derived.Deep.RegionHeld3
namespace Go.Proofs.YtphapknfkbgapabDoor
open Go.RowKit

/-- The four words, halved, lie in block b; the key's two in p and q; the room for the answer in r; below r all is as it was. -/
structure Vx (r p q b : Nat) (x y : Int) (v : S4) (w0 w : World) : Prop where
  c0 : w.cell? ⟨b, 0, none⟩ = some (.int .i64 (hi v.a))
  c1 : w.cell? ⟨b, 1, none⟩ = some (.int .i64 (lo v.a))
  c2 : w.cell? ⟨b, 2, none⟩ = some (.int .i64 (hi v.b))
  c3 : w.cell? ⟨b, 3, none⟩ = some (.int .i64 (lo v.b))
  c4 : w.cell? ⟨b, 4, none⟩ = some (.int .i64 (hi v.c))
  c5 : w.cell? ⟨b, 5, none⟩ = some (.int .i64 (lo v.c))
  c6 : w.cell? ⟨b, 6, none⟩ = some (.int .i64 (hi v.d))
  c7 : w.cell? ⟨b, 7, none⟩ = some (.int .i64 (lo v.d))
  f0 : w.frozen? ⟨b, 0, none⟩ = false
  f1 : w.frozen? ⟨b, 1, none⟩ = false
  f2 : w.frozen? ⟨b, 2, none⟩ = false
  f3 : w.frozen? ⟨b, 3, none⟩ = false
  f4 : w.frozen? ⟨b, 4, none⟩ = false
  f5 : w.frozen? ⟨b, 5, none⟩ = false
  f6 : w.frozen? ⟨b, 6, none⟩ = false
  f7 : w.frozen? ⟨b, 7, none⟩ = false
  r0 : w.cell? ⟨r, 0, none⟩ = some (.int .i64 0)
  r1 : w.cell? ⟨r, 1, none⟩ = some (.int .i64 0)
  g0 : w.frozen? ⟨r, 0, none⟩ = false
  g1 : w.frozen? ⟨r, 1, none⟩ = false
  p0 : w.cell? ⟨p, 0, none⟩ = some (.int .i64 (hi x))
  p1 : w.cell? ⟨p, 1, none⟩ = some (.int .i64 (lo x))
  q0 : w.cell? ⟨q, 0, none⟩ = some (.int .i64 (hi y))
  q1 : w.cell? ⟨q, 1, none⟩ = some (.int .i64 (lo y))
  rp : r < p
  pq : p < q
  qb : q < b
  sz : b < w.heap.size
  bel : Low r w0 w
  ix : Hid (In64 x)
  iy : Hid (In64 y)
  ia : Hid (In64 v.a)
  ib : Hid (In64 v.b)
  ic : Hid (In64 v.c)
  id : Hid (In64 v.d)

theorem Vx.drew {r p q b : Nat} {x y : Int} {v : S4} {w0 w : World} (h : Vx r p q b x y v w0 w) : Vx r p q b x y v w0 w.drew := by
  obtain ⟨c0, c1, c2, c3, c4, c5, c6, c7, f0, f1, f2, f3, f4, f5, f6, f7, r0, r1, g0, g1, p0, p1, q0, q1, rp, pq, qb, sz, bel, ix, iy, ia, ib, ic, iD⟩ := h
  exact ⟨c0, c1, c2, c3, c4, c5, c6, c7, f0, f1, f2, f3, f4, f5, f6, f7, r0, r1, g0, g1, p0, p1, q0, q1, rp, pq, qb, sz, bel.trans (Low.of ((Below.refl _ _).drew)), ix, iy, ia, ib, ic, iD⟩
theorem Vx.later {r p q b : Nat} {x y : Int} {v : S4} {w0 w w1 : World} (h : Vx r p q b x y v w0 w) (k : Low w.heap.size w w1) : Vx r p q b x y v w0 w1 := by
  obtain ⟨c0, c1, c2, c3, c4, c5, c6, c7, f0, f1, f2, f3, f4, f5, f6, f7, r0, r1, g0, g1, p0, p1, q0, q1, rp, pq, qb, sz, bel, ix, iy, ia, ib, ic, iD⟩ := h
  have lr : r < w.heap.size := by omega
  have lp : p < w.heap.size := by omega
  have lq : q < w.heap.size := by omega
  exact ⟨(k.cell (p := ⟨b, 0, none⟩) sz).trans c0, (k.cell (p := ⟨b, 1, none⟩) sz).trans c1, (k.cell (p := ⟨b, 2, none⟩) sz).trans c2, (k.cell (p := ⟨b, 3, none⟩) sz).trans c3, (k.cell (p := ⟨b, 4, none⟩) sz).trans c4, (k.cell (p := ⟨b, 5, none⟩) sz).trans c5, (k.cell (p := ⟨b, 6, none⟩) sz).trans c6, (k.cell (p := ⟨b, 7, none⟩) sz).trans c7, (k.frozen (p := ⟨b, 0, none⟩) sz).trans f0, (k.frozen (p := ⟨b, 1, none⟩) sz).trans f1, (k.frozen (p := ⟨b, 2, none⟩) sz).trans f2, (k.frozen (p := ⟨b, 3, none⟩) sz).trans f3, (k.frozen (p := ⟨b, 4, none⟩) sz).trans f4, (k.frozen (p := ⟨b, 5, none⟩) sz).trans f5, (k.frozen (p := ⟨b, 6, none⟩) sz).trans f6, (k.frozen (p := ⟨b, 7, none⟩) sz).trans f7, (k.cell (p := ⟨r, 0, none⟩) lr).trans r0, (k.cell (p := ⟨r, 1, none⟩) lr).trans r1, (k.frozen (p := ⟨r, 0, none⟩) lr).trans g0, (k.frozen (p := ⟨r, 1, none⟩) lr).trans g1, (k.cell (p := ⟨p, 0, none⟩) lp).trans p0, (k.cell (p := ⟨p, 1, none⟩) lp).trans p1, (k.cell (p := ⟨q, 0, none⟩) lq).trans q0, (k.cell (p := ⟨q, 1, none⟩) lq).trans q1, rp, pq, qb, Nat.lt_of_lt_of_le sz k.size, bel.trans (k.mono (by omega)), ix, iy, ia, ib, ic, iD⟩
theorem Vx.set0 {r p q b : Nat} {x y : Int} {v : S4} {w0 w : World} (h : Vx r p q b x y v w0 w) (z : Int) (hz : Hid (In64 z)) : Vx r p q b x y ⟨z, v.b, v.c, v.d⟩ w0 ((w.setCell ⟨b, 0, none⟩ (.int .i64 (hi z))).setCell ⟨b, 1, none⟩ (.int .i64 (lo z))) := by
  obtain ⟨c0, c1, c2, c3, c4, c5, c6, c7, f0, f1, f2, f3, f4, f5, f6, f7, r0, r1, g0, g1, p0, p1, q0, q1, rp, pq, qb, sz, bel, ix, iy, ia, ib, ic, iD⟩ := h
  have n1 : b ≠ r := by omega
  have n2 : b ≠ p := by omega
  have n3 : b ≠ q := by omega
  have n4 : r ≠ b := by omega
  have n5 : p ≠ b := by omega
  have n6 : q ≠ b := by omega
  exact ⟨by go_simp, by go_simp, by go_simp, by go_simp, by go_simp, by go_simp, by go_simp, by go_simp, by go_simp, by go_simp, by go_simp, by go_simp, by go_simp, by go_simp, by go_simp, by go_simp, by go_simp, by go_simp, by go_simp, by go_simp, by go_simp, by go_simp, by go_simp, by go_simp, rp, pq, qb, by simpa using sz, bel.trans (Low.of (((Below.refl _ _).setCell (by show r ≤ b; omega) _).setCell (by show r ≤ b; omega) _)), ix, iy, hz, ib, ic, iD⟩
theorem Vx.set1 {r p q b : Nat} {x y : Int} {v : S4} {w0 w : World} (h : Vx r p q b x y v w0 w) (z : Int) (hz : Hid (In64 z)) : Vx r p q b x y ⟨v.a, z, v.c, v.d⟩ w0 ((w.setCell ⟨b, 2, none⟩ (.int .i64 (hi z))).setCell ⟨b, 3, none⟩ (.int .i64 (lo z))) := by
  obtain ⟨c0, c1, c2, c3, c4, c5, c6, c7, f0, f1, f2, f3, f4, f5, f6, f7, r0, r1, g0, g1, p0, p1, q0, q1, rp, pq, qb, sz, bel, ix, iy, ia, ib, ic, iD⟩ := h
  have n1 : b ≠ r := by omega
  have n2 : b ≠ p := by omega
  have n3 : b ≠ q := by omega
  have n4 : r ≠ b := by omega
  have n5 : p ≠ b := by omega
  have n6 : q ≠ b := by omega
  exact ⟨by go_simp, by go_simp, by go_simp, by go_simp, by go_simp, by go_simp, by go_simp, by go_simp, by go_simp, by go_simp, by go_simp, by go_simp, by go_simp, by go_simp, by go_simp, by go_simp, by go_simp, by go_simp, by go_simp, by go_simp, by go_simp, by go_simp, by go_simp, by go_simp, rp, pq, qb, by simpa using sz, bel.trans (Low.of (((Below.refl _ _).setCell (by show r ≤ b; omega) _).setCell (by show r ≤ b; omega) _)), ix, iy, ia, hz, ic, iD⟩
theorem Vx.set2 {r p q b : Nat} {x y : Int} {v : S4} {w0 w : World} (h : Vx r p q b x y v w0 w) (z : Int) (hz : Hid (In64 z)) : Vx r p q b x y ⟨v.a, v.b, z, v.d⟩ w0 ((w.setCell ⟨b, 4, none⟩ (.int .i64 (hi z))).setCell ⟨b, 5, none⟩ (.int .i64 (lo z))) := by
  obtain ⟨c0, c1, c2, c3, c4, c5, c6, c7, f0, f1, f2, f3, f4, f5, f6, f7, r0, r1, g0, g1, p0, p1, q0, q1, rp, pq, qb, sz, bel, ix, iy, ia, ib, ic, iD⟩ := h
  have n1 : b ≠ r := by omega
  have n2 : b ≠ p := by omega
  have n3 : b ≠ q := by omega
  have n4 : r ≠ b := by omega
  have n5 : p ≠ b := by omega
  have n6 : q ≠ b := by omega
  exact ⟨by go_simp, by go_simp, by go_simp, by go_simp, by go_simp, by go_simp, by go_simp, by go_simp, by go_simp, by go_simp, by go_simp, by go_simp, by go_simp, by go_simp, by go_simp, by go_simp, by go_simp, by go_simp, by go_simp, by go_simp, by go_simp, by go_simp, by go_simp, by go_simp, rp, pq, qb, by simpa using sz, bel.trans (Low.of (((Below.refl _ _).setCell (by show r ≤ b; omega) _).setCell (by show r ≤ b; omega) _)), ix, iy, ia, ib, hz, iD⟩
theorem Vx.set3 {r p q b : Nat} {x y : Int} {v : S4} {w0 w : World} (h : Vx r p q b x y v w0 w) (z : Int) (hz : Hid (In64 z)) : Vx r p q b x y ⟨v.a, v.b, v.c, z⟩ w0 ((w.setCell ⟨b, 6, none⟩ (.int .i64 (hi z))).setCell ⟨b, 7, none⟩ (.int .i64 (lo z))) := by
  obtain ⟨c0, c1, c2, c3, c4, c5, c6, c7, f0, f1, f2, f3, f4, f5, f6, f7, r0, r1, g0, g1, p0, p1, q0, q1, rp, pq, qb, sz, bel, ix, iy, ia, ib, ic, iD⟩ := h
  have n1 : b ≠ r := by omega
  have n2 : b ≠ p := by omega
  have n3 : b ≠ q := by omega
  have n4 : r ≠ b := by omega
  have n5 : p ≠ b := by omega
  have n6 : q ≠ b := by omega
  exact ⟨by go_simp, by go_simp, by go_simp, by go_simp, by go_simp, by go_simp, by go_simp, by go_simp, by go_simp, by go_simp, by go_simp, by go_simp, by go_simp, by go_simp, by go_simp, by go_simp, by go_simp, by go_simp, by go_simp, by go_simp, by go_simp, by go_simp, by go_simp, by go_simp, rp, pq, qb, by simpa using sz, bel.trans (Low.of (((Below.refl _ _).setCell (by show r ≤ b; omega) _).setCell (by show r ≤ b; omega) _)), ix, iy, ia, ib, ic, hz⟩
theorem Vx.setAll {r p q b : Nat} {x y : Int} {v u : S4} {w0 w : World} (h : Vx r p q b x y v w0 w) (ja : Hid (In64 u.a)) (jb : Hid (In64 u.b)) (jc : Hid (In64 u.c)) (jd : Hid (In64 u.d)) : Vx r p q b x y u w0 ((((((((w.setCell ⟨b, 0, none⟩ (.int .i64 (hi u.a))).setCell ⟨b, 1, none⟩ (.int .i64 (lo u.a))).setCell ⟨b, 2, none⟩ (.int .i64 (hi u.b))).setCell ⟨b, 3, none⟩ (.int .i64 (lo u.b))).setCell ⟨b, 4, none⟩ (.int .i64 (hi u.c))).setCell ⟨b, 5, none⟩ (.int .i64 (lo u.c))).setCell ⟨b, 6, none⟩ (.int .i64 (hi u.d))).setCell ⟨b, 7, none⟩ (.int .i64 (lo u.d))) := by
  have h1 := h.set0 u.a ja
  have h2 := h1.set1 u.b jb
  have h3 := h2.set2 u.c jc
  exact h3.set3 u.d jd
theorem xor64_assoc (x y z : Int) (hx : In64 x) (hy : In64 y) (hz : In64 z) : xor64 (xor64 x y) z = xor64 x (xor64 y z) := by
  have a1 := xor64_bd x y
  have a2 := xor64_bd y z
  have e1 : xor64 x y = ((x.toNat ^^^ y.toNat : Nat) : Int) := u64_xor _ _ hx.1 hx.2 hy.1 hy.2
  have e2 : xor64 y z = ((y.toNat ^^^ z.toNat : Nat) : Int) := u64_xor _ _ hy.1 hy.2 hz.1 hz.2
  have e3 : xor64 (xor64 x y) z = (((xor64 x y).toNat ^^^ z.toNat : Nat) : Int) := u64_xor _ _ a1.1 a1.2 hz.1 hz.2
  have e4 : xor64 x (xor64 y z) = ((x.toNat ^^^ (xor64 y z).toNat : Nat) : Int) := u64_xor _ _ hx.1 hx.2 a2.1 a2.2
  rw [e3, e4, e1, e2, Int.toNat_natCast, Int.toNat_natCast, Nat.xor_assoc]
theorem conv1 (w : World) (n : Nat) (hn : n < 256) :
    (convert 114 9 (.slice (some ⟨w.heap.size, 0, none⟩) 1 1)).run Tryd.prog (w.alloc (.cells #[.int .u8 (n : Int)] 5)) = .ok (.string ⟨#[UInt8.ofNat n]⟩) (w.alloc (.cells #[.int .u8 (n : Int)] 5)) := by
  have e := run_convert_bytes_back (P := Tryd.prog) (w.alloc (.cells #[.int .u8 (n : Int)] 5)) 114 9 5 ⟨w.heap.size, 0, none⟩ 1 [UInt8.ofNat n] Tryd.underlying114 Tryd.underlying5 Tryd.underlying9 (fun j hj => by
    have : j = 0 := by simpa using hj
    subst this
    have hm : n % 256 = n := Nat.mod_eq_of_lt hn
    simp [Addr.add, hm])
  exact e
/-- How many bytes a string has. -/
def sizeOf : Value → Nat | .string s => s.size | _ => 0
/-- The text with j noughts behind it. -/
def padZ (s : ByteArray) (j : Nat) : ByteArray := ⟨(s.data.toList ++ List.replicate j (0 : UInt8)).toArray⟩
theorem padZ_zero (s : ByteArray) : padZ s 0 = s := by
  cases s; simp [padZ]
theorem padZ_size (s : ByteArray) (j : Nat) : (padZ s j).size = s.size + j := by
  show ((s.data.toList ++ List.replicate j (0 : UInt8)).toArray).size = _
  simp
theorem padZ_succ (s : ByteArray) (j : Nat) : padZ s j ++ ⟨#[0]⟩ = padZ s (j + 1) := by
  unfold padZ
  rw [show (#[0] : Array UInt8) = [0].toArray from rfl, ByteArray.mk_append_mk, List.replicate_succ', List.append_assoc]
theorem padZ_padded (s : ByteArray) : padZ s (zeros s) ++ ⟨#[UInt8.ofNat (s.size % 256)]⟩ = padded s := by
  unfold padZ padded
  rw [show (#[UInt8.ofNat (s.size % 256)] : Array UInt8) = [UInt8.ofNat (s.size % 256)].toArray from rfl, ByteArray.mk_append_mk, List.append_assoc]

end Go.Proofs.YtphapknfkbgapabDoor
