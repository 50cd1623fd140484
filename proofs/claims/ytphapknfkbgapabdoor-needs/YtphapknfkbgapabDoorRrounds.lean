import Derived.Test.YtphapknfkbgapabDoorWords
import Derived.Deep.RegionWith
import Derived.Deep.Cut
import Derived.Deep.CutRange
namespace Go.Proofs.YtphapknfkbgapabDoor
open Go.RowKit

/-- The four words, halved, lie in block b; behind it the room for the answer; below b all is as it was. -/
structure Rx (b : Nat) (v : S4) (w0 w : World) : Prop where
  c0 : w.cell? ⟨b, 0, none⟩ = some (.int .i64 (hi v.a))
  c1 : w.cell? ⟨b, 1, none⟩ = some (.int .i64 (lo v.a))
  c2 : w.cell? ⟨b, 2, none⟩ = some (.int .i64 (hi v.b))
  c3 : w.cell? ⟨b, 3, none⟩ = some (.int .i64 (lo v.b))
  c4 : w.cell? ⟨b, 4, none⟩ = some (.int .i64 (hi v.c))
  c5 : w.cell? ⟨b, 5, none⟩ = some (.int .i64 (lo v.c))
  c6 : w.cell? ⟨b, 6, none⟩ = some (.int .i64 (hi v.d))
  c7 : w.cell? ⟨b, 7, none⟩ = some (.int .i64 (lo v.d))
  f0 : w.frozen? ⟨b, 0, none⟩ = false
  f1 : w.frozen? ⟨b, 1, none⟩ = false
  f2 : w.frozen? ⟨b, 2, none⟩ = false
  f3 : w.frozen? ⟨b, 3, none⟩ = false
  f4 : w.frozen? ⟨b, 4, none⟩ = false
  f5 : w.frozen? ⟨b, 5, none⟩ = false
  f6 : w.frozen? ⟨b, 6, none⟩ = false
  f7 : w.frozen? ⟨b, 7, none⟩ = false
  r0 : w.cell? ⟨b + 1, 0, none⟩ = some (.int .i64 0)
  r1 : w.cell? ⟨b + 1, 1, none⟩ = some (.int .i64 0)
  r2 : w.cell? ⟨b + 1, 2, none⟩ = some (.int .i64 0)
  r3 : w.cell? ⟨b + 1, 3, none⟩ = some (.int .i64 0)
  r4 : w.cell? ⟨b + 1, 4, none⟩ = some (.int .i64 0)
  r5 : w.cell? ⟨b + 1, 5, none⟩ = some (.int .i64 0)
  r6 : w.cell? ⟨b + 1, 6, none⟩ = some (.int .i64 0)
  r7 : w.cell? ⟨b + 1, 7, none⟩ = some (.int .i64 0)
  g0 : w.frozen? ⟨b + 1, 0, none⟩ = false
  g1 : w.frozen? ⟨b + 1, 1, none⟩ = false
  g2 : w.frozen? ⟨b + 1, 2, none⟩ = false
  g3 : w.frozen? ⟨b + 1, 3, none⟩ = false
  g4 : w.frozen? ⟨b + 1, 4, none⟩ = false
  g5 : w.frozen? ⟨b + 1, 5, none⟩ = false
  g6 : w.frozen? ⟨b + 1, 6, none⟩ = false
  g7 : w.frozen? ⟨b + 1, 7, none⟩ = false
  bel : Below b w0 w
  sz : b + 1 < w.heap.size
  ia : Hid (In64 v.a)
  ib : Hid (In64 v.b)
  ic : Hid (In64 v.c)
  id : Hid (In64 v.d)

theorem Rx.drew {b : Nat} {v : S4} {w0 w : World} (h : Rx b v w0 w) : Rx b v w0 w.drew := by
  obtain ⟨c0, c1, c2, c3, c4, c5, c6, c7, f0, f1, f2, f3, f4, f5, f6, f7, r0, r1, r2, r3, r4, r5, r6, r7, g0, g1, g2, g3, g4, g5, g6, g7, hb, sz, ia, ib, ic, iD⟩ := h
  exact ⟨c0, c1, c2, c3, c4, c5, c6, c7, f0, f1, f2, f3, f4, f5, f6, f7, r0, r1, r2, r3, r4, r5, r6, r7, g0, g1, g2, g3, g4, g5, g6, g7, hb.drew, sz, ia, ib, ic, iD⟩
theorem Rx.later {b : Nat} {v : S4} {w0 w w1 : World} (h : Rx b v w0 w) (k : Below w.heap.size w w1) : Rx b v w0 w1 := by
  obtain ⟨c0, c1, c2, c3, c4, c5, c6, c7, f0, f1, f2, f3, f4, f5, f6, f7, r0, r1, r2, r3, r4, r5, r6, r7, g0, g1, g2, g3, g4, g5, g6, g7, hb, sz, ia, ib, ic, iD⟩ := h
  exact ⟨(k.cell (p := ⟨b, 0, none⟩) (by show b < _; omega)).trans c0, (k.cell (p := ⟨b, 1, none⟩) (by show b < _; omega)).trans c1, (k.cell (p := ⟨b, 2, none⟩) (by show b < _; omega)).trans c2, (k.cell (p := ⟨b, 3, none⟩) (by show b < _; omega)).trans c3, (k.cell (p := ⟨b, 4, none⟩) (by show b < _; omega)).trans c4, (k.cell (p := ⟨b, 5, none⟩) (by show b < _; omega)).trans c5, (k.cell (p := ⟨b, 6, none⟩) (by show b < _; omega)).trans c6, (k.cell (p := ⟨b, 7, none⟩) (by show b < _; omega)).trans c7, (k.frozen (p := ⟨b, 0, none⟩) (by show b < _; omega)).trans f0, (k.frozen (p := ⟨b, 1, none⟩) (by show b < _; omega)).trans f1, (k.frozen (p := ⟨b, 2, none⟩) (by show b < _; omega)).trans f2, (k.frozen (p := ⟨b, 3, none⟩) (by show b < _; omega)).trans f3, (k.frozen (p := ⟨b, 4, none⟩) (by show b < _; omega)).trans f4, (k.frozen (p := ⟨b, 5, none⟩) (by show b < _; omega)).trans f5, (k.frozen (p := ⟨b, 6, none⟩) (by show b < _; omega)).trans f6, (k.frozen (p := ⟨b, 7, none⟩) (by show b < _; omega)).trans f7, (k.cell (p := ⟨b + 1, 0, none⟩) sz).trans r0, (k.cell (p := ⟨b + 1, 1, none⟩) sz).trans r1, (k.cell (p := ⟨b + 1, 2, none⟩) sz).trans r2, (k.cell (p := ⟨b + 1, 3, none⟩) sz).trans r3, (k.cell (p := ⟨b + 1, 4, none⟩) sz).trans r4, (k.cell (p := ⟨b + 1, 5, none⟩) sz).trans r5, (k.cell (p := ⟨b + 1, 6, none⟩) sz).trans r6, (k.cell (p := ⟨b + 1, 7, none⟩) sz).trans r7, (k.frozen (p := ⟨b + 1, 0, none⟩) sz).trans g0, (k.frozen (p := ⟨b + 1, 1, none⟩) sz).trans g1, (k.frozen (p := ⟨b + 1, 2, none⟩) sz).trans g2, (k.frozen (p := ⟨b + 1, 3, none⟩) sz).trans g3, (k.frozen (p := ⟨b + 1, 4, none⟩) sz).trans g4, (k.frozen (p := ⟨b + 1, 5, none⟩) sz).trans g5, (k.frozen (p := ⟨b + 1, 6, none⟩) sz).trans g6, (k.frozen (p := ⟨b + 1, 7, none⟩) sz).trans g7, hb.trans (k.mono (by omega)), by have := k.size; omega, ia, ib, ic, iD⟩
theorem Rx.set0 {b : Nat} {v : S4} {w0 w : World} (h : Rx b v w0 w) (x : Int) (hx : Hid (In64 x)) : Rx b ⟨x, v.b, v.c, v.d⟩ w0 ((w.setCell ⟨b, 0, none⟩ (.int .i64 (hi x))).setCell ⟨b, 1, none⟩ (.int .i64 (lo x))) := by
  obtain ⟨c0, c1, c2, c3, c4, c5, c6, c7, f0, f1, f2, f3, f4, f5, f6, f7, r0, r1, r2, r3, r4, r5, r6, r7, g0, g1, g2, g3, g4, g5, g6, g7, hb, sz, ia, ib, ic, iD⟩ := h
  exact ⟨by go_simp, by go_simp, by go_simp, by go_simp, by go_simp, by go_simp, by go_simp, by go_simp, by go_simp, by go_simp, by go_simp, by go_simp, by go_simp, by go_simp, by go_simp, by go_simp, by go_simp, by go_simp, by go_simp, by go_simp, by go_simp, by go_simp, by go_simp, by go_simp, by go_simp, by go_simp, by go_simp, by go_simp, by go_simp, by go_simp, by go_simp, by go_simp, (hb.setCell (Nat.le_refl _) _).setCell (Nat.le_refl _) _, by simpa using sz, hx, ib, ic, iD⟩
theorem Rx.set1 {b : Nat} {v : S4} {w0 w : World} (h : Rx b v w0 w) (x : Int) (hx : Hid (In64 x)) : Rx b ⟨v.a, x, v.c, v.d⟩ w0 ((w.setCell ⟨b, 2, none⟩ (.int .i64 (hi x))).setCell ⟨b, 3, none⟩ (.int .i64 (lo x))) := by
  obtain ⟨c0, c1, c2, c3, c4, c5, c6, c7, f0, f1, f2, f3, f4, f5, f6, f7, r0, r1, r2, r3, r4, r5, r6, r7, g0, g1, g2, g3, g4, g5, g6, g7, hb, sz, ia, ib, ic, iD⟩ := h
  exact ⟨by go_simp, by go_simp, by go_simp, by go_simp, by go_simp, by go_simp, by go_simp, by go_simp, by go_simp, by go_simp, by go_simp, by go_simp, by go_simp, by go_simp, by go_simp, by go_simp, by go_simp, by go_simp, by go_simp, by go_simp, by go_simp, by go_simp, by go_simp, by go_simp, by go_simp, by go_simp, by go_simp, by go_simp, by go_simp, by go_simp, by go_simp, by go_simp, (hb.setCell (Nat.le_refl _) _).setCell (Nat.le_refl _) _, by simpa using sz, ia, hx, ic, iD⟩
theorem Rx.set2 {b : Nat} {v : S4} {w0 w : World} (h : Rx b v w0 w) (x : Int) (hx : Hid (In64 x)) : Rx b ⟨v.a, v.b, x, v.d⟩ w0 ((w.setCell ⟨b, 4, none⟩ (.int .i64 (hi x))).setCell ⟨b, 5, none⟩ (.int .i64 (lo x))) := by
  obtain ⟨c0, c1, c2, c3, c4, c5, c6, c7, f0, f1, f2, f3, f4, f5, f6, f7, r0, r1, r2, r3, r4, r5, r6, r7, g0, g1, g2, g3, g4, g5, g6, g7, hb, sz, ia, ib, ic, iD⟩ := h
  exact ⟨by go_simp, by go_simp, by go_simp, by go_simp, by go_simp, by go_simp, by go_simp, by go_simp, by go_simp, by go_simp, by go_simp, by go_simp, by go_simp, by go_simp, by go_simp, by go_simp, by go_simp, by go_simp, by go_simp, by go_simp, by go_simp, by go_simp, by go_simp, by go_simp, by go_simp, by go_simp, by go_simp, by go_simp, by go_simp, by go_simp, by go_simp, by go_simp, (hb.setCell (Nat.le_refl _) _).setCell (Nat.le_refl _) _, by simpa using sz, ia, ib, hx, iD⟩
theorem Rx.set3 {b : Nat} {v : S4} {w0 w : World} (h : Rx b v w0 w) (x : Int) (hx : Hid (In64 x)) : Rx b ⟨v.a, v.b, v.c, x⟩ w0 ((w.setCell ⟨b, 6, none⟩ (.int .i64 (hi x))).setCell ⟨b, 7, none⟩ (.int .i64 (lo x))) := by
  obtain ⟨c0, c1, c2, c3, c4, c5, c6, c7, f0, f1, f2, f3, f4, f5, f6, f7, r0, r1, r2, r3, r4, r5, r6, r7, g0, g1, g2, g3, g4, g5, g6, g7, hb, sz, ia, ib, ic, iD⟩ := h
  exact ⟨by go_simp, by go_simp, by go_simp, by go_simp, by go_simp, by go_simp, by go_simp, by go_simp, by go_simp, by go_simp, by go_simp, by go_simp, by go_simp, by go_simp, by go_simp, by go_simp, by go_simp, by go_simp, by go_simp, by go_simp, by go_simp, by go_simp, by go_simp, by go_simp, by go_simp, by go_simp, by go_simp, by go_simp, by go_simp, by go_simp, by go_simp, by go_simp, (hb.setCell (Nat.le_refl _) _).setCell (Nat.le_refl _) _, by simpa using sz, ia, ib, ic, hx⟩

end Go.Proofs.YtphapknfkbgapabDoor
