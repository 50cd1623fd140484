import Derived.Test.YtphapknfkbgapaaDoorWords
import Derived.Deep.RegionWith
import Derived.Deep.Cut
import Derived.Deep.CutRange
namespace Go.Proofs.YtphapknfkbgapaaDoor
open Go.RowKit

/-- The four words, halved, lie in block b; behind it the room for the answer; below b all is as it was. -/
structure Rx (b : Nat) (v : S4) (w0 w : World) : Prop where
  c0 : w.cell? ⟨b, 0, none⟩ = some (.int .i64 (hi v.a))
  c1 : w.cell? ⟨b, 1, none⟩ = some (.int .i64 (lo v.a))
  c2 : w.cell? ⟨b, 2, none⟩ = some (.int .i64 (hi v.b))
  c3 : w.cell? ⟨b, 3, none⟩ = some (.int .i64 (lo v.b))
  c4 : w.cell? ⟨b, 4, none⟩ = some (.int .i64 (hi v.c))
  c5 : w.cell? ⟨b, 5, none⟩ = some (.int .i64 (lo v.c))
  c6 : w.cell? ⟨b, 6, none⟩ = some (.int .i64 (hi v.d))
  c7 : w.cell? ⟨b, 7, none⟩ = some (.int .i64 (lo v.d))
  f0 : w.frozen? ⟨b, 0, none⟩ = false
  f1 : w.frozen? ⟨b, 1, none⟩ = false
  f2 : w.frozen? ⟨b, 2, none⟩ = false
  f3 : w.frozen? ⟨b, 3, none⟩ = false
  f4 : w.frozen? ⟨b, 4, none⟩ = false
  f5 : w.frozen? ⟨b, 5, none⟩ = false
  f6 : w.frozen? ⟨b, 6, none⟩ = false
  f7 : w.frozen? ⟨b, 7, none⟩ = false
  r0 : w.cell? ⟨b + 1, 0, none⟩ = some (.int .i64 0)
  r1 : w.cell? ⟨b + 1, 1, none⟩ = some (.int .i64 0)
  r2 : w.cell? ⟨b + 1, 2, none⟩ = some (.int .i64 0)
  r3 : w.cell? ⟨b + 1, 3, none⟩ = some (.int .i64 0)
  r4 : w.cell? ⟨b + 1, 4, none⟩ = some (.int .i64 0)
  r5 : w.cell? ⟨b + 1, 5, none⟩ = some (.int .i64 0)
  r6 : w.cell? ⟨b + 1, 6, none⟩ = some (.int .i64 0)
  r7 : w.cell? ⟨b + 1, 7, none⟩ = some (.int .i64 0)
  g0 : w.frozen? ⟨b + 1, 0, none⟩ = false
  g1 : w.frozen? ⟨b + 1, 1, none⟩ = false
  g2 : w.frozen? ⟨b + 1, 2, none⟩ = false
  g3 : w.frozen? ⟨b + 1, 3, none⟩ = false
  g4 : w.frozen? ⟨b + 1, 4, none⟩ = false
  g5 : w.frozen? ⟨b + 1, 5, none⟩ = false
  g6 : w.frozen? ⟨b + 1, 6, none⟩ = false
  g7 : w.frozen? ⟨b + 1, 7, none⟩ = false
  bel : Below b w0 w
  sz : b + 1 < w.heap.size
  ia : Hid (In64 v.a)
  ib : Hid (In64 v.b)
  ic : Hid (In64 v.c)
  id : Hid (In64 v.d)

theorem Rx.drew {b : Nat} {v : S4} {w0 w : World} (h : Rx b v w0 w) : Rx b v w0 w.drew := by
  obtain ⟨c0, c1, c2, c3, c4, c5, c6, c7, f0, f1, f2, f3, f4, f5, f6, f7, r0, r1, r2, r3, r4, r5, r6, r7, g0, g1, g2, g3, g4, g5, g6, g7, hb, sz, ia, ib, ic, iD⟩ := h
  exact ⟨c0, c1, c2, c3, c4, c5, c6, c7, f0, f1, f2, f3, f4, f5, f6, f7, r0, r1, r2, r3, r4, r5, r6, r7, g0, g1, g2, g3, g4, g5, g6, g7, hb.drew, sz, ia, ib, ic, iD⟩
theorem Rx.later {b : Nat} {v : S4} {w0 w w1 : World} (h : Rx b v w0 w) (k : Below w.heap.size w w1) : Rx b v w0 w1 := by
  obtain ⟨c0, c1, c2, c3, c4, c5, c6, c7, f0, f1, f2, f3, f4, f5, f6, f7, r0, r1, r2, r3, r4, r5, r6, r7, g0, g1, g2, g3, g4, g5, g6, g7, hb, sz, ia, ib, ic, iD⟩ := h
  exact ⟨(k.cell (p := ⟨b, 0, none⟩) (by show b < _; omega)).trans c0, (k.cell (p := ⟨b, 1, none⟩) (by show b < _; omega)).trans c1, (k.cell (p := ⟨b, 2, none⟩) (by show b < _; omega)).trans c2, (k.cell (p := ⟨b, 3, none⟩) (by show b < _; omega)).trans c3, (k.cell (p := ⟨b, 4, none⟩) (by show b < _; omega)).trans c4, (k.cell (p := ⟨b, 5, none⟩) (by show b < _; omega)).trans c5, (k.cell (p := ⟨b, 6, none⟩) (by show b < _; omega)).trans c6, (k.cell (p := ⟨b, 7, none⟩) (by show b < _; omega)).trans c7, (k.frozen (p := ⟨b, 0, none⟩) (by show b < _; omega)).trans f0, (k.frozen (p := ⟨b, 1, none⟩) (by show b < _; omega)).trans f1, (k.frozen (p := ⟨b, 2, none⟩) (by show b < _; omega)).trans f2, (k.frozen (p := ⟨b, 3, none⟩) (by show b < _; omega)).trans f3, (k.frozen (p := ⟨b, 4, none⟩) (by show b < _; omega)).trans f4, (k.frozen (p := ⟨b, 5, none⟩) (by show b < _; omega)).trans f5, (k.frozen (p := ⟨b, 6, none⟩) (by show b < _; omega)).trans f6, (k.frozen (p := ⟨b, 7, none⟩) (by show b < _; omega)).trans f7, (k.cell (p := ⟨b + 1, 0, none⟩) sz).trans r0, (k.cell (p := ⟨b + 1, 1, none⟩) sz).trans r1, (k.cell (p := ⟨b + 1, 2, none⟩) sz).trans r2, (k.cell (p := ⟨b + 1, 3, none⟩) sz).trans r3, (k.cell (p := ⟨b + 1, 4, none⟩) sz).trans r4, (k.cell (p := ⟨b + 1, 5, none⟩) sz).trans r5, (k.cell (p := ⟨b + 1, 6, none⟩) sz).trans r6, (k.cell (p := ⟨b + 1, 7, none⟩) sz).trans r7, (k.frozen (p := ⟨b + 1, 0, none⟩) sz).trans g0, (k.frozen (p := ⟨b + 1, 1, none⟩) sz).trans g1, (k.frozen (p := ⟨b + 1, 2, none⟩) sz).trans g2, (k.frozen (p := ⟨b + 1, 3, none⟩) sz).trans g3, (k.frozen (p := ⟨b + 1, 4, none⟩) sz).trans g4, (k.frozen (p := ⟨b + 1, 5, none⟩) sz).trans g5, (k.frozen (p := ⟨b + 1, 6, none⟩) sz).trans g6, (k.frozen (p := ⟨b + 1, 7, none⟩) sz).trans g7, hb.trans (k.mono (by omega)), by have := k.size; omega, ia, ib, ic, iD⟩
theorem Rx.set0 {b : Nat} {v : S4} {w0 w : World} (h : Rx b v w0 w) (x : Int) (hx : Hid (In64 x)) : Rx b ⟨x, v.b, v.c, v.d⟩ w0 ((w.setCell ⟨b, 0, none⟩ (.int .i64 (hi x))).setCell ⟨b, 1, none⟩ (.int .i64 (lo x))) := by
  obtain ⟨c0, c1, c2, c3, c4, c5, c6, c7, f0, f1, f2, f3, f4, f5, f6, f7, r0, r1, r2, r3, r4, r5, r6, r7, g0, g1, g2, g3, g4, g5, g6, g7, hb, sz, ia, ib, ic, iD⟩ := h
  exact ⟨by go_simp, by go_simp, by go_simp, by go_simp, by go_simp, by go_simp, by go_simp, by go_simp, by go_simp, by go_simp, by go_simp, by go_simp, by go_simp, by go_simp, by go_simp, by go_simp, by go_simp, by go_simp, by go_simp, by go_simp, by go_simp, by go_simp, by go_simp, by go_simp, by go_simp, by go_simp, by go_simp, by go_simp, by go_simp, by go_simp, by go_simp, by go_simp, (hb.setCell (Nat.le_refl _) _).setCell (Nat.le_refl _) _, by simpa using sz, hx, ib, ic, iD⟩
theorem Rx.set1 {b : Nat} {v : S4} {w0 w : World} (h : Rx b v w0 w) (x : Int) (hx : Hid (In64 x)) : Rx b ⟨v.a, x, v.c, v.d⟩ w0 ((w.setCell ⟨b, 2, none⟩ (.int .i64 (hi x))).setCell ⟨b, 3, none⟩ (.int .i64 (lo x))) := by
  obtain ⟨c0, c1, c2, c3, c4, c5, c6, c7, f0, f1, f2, f3, f4, f5, f6, f7, r0, r1, r2, r3, r4, r5, r6, r7, g0, g1, g2, g3, g4, g5, g6, g7, hb, sz, ia, ib, ic, iD⟩ := h
  exact ⟨by go_simp, by go_simp, by go_simp, by go_simp, by go_simp, by go_simp, by go_simp, by go_simp, by go_simp, by go_simp, by go_simp, by go_simp, by go_simp, by go_simp, by go_simp, by go_simp, by go_simp, by go_simp, by go_simp, by go_simp, by go_simp, by go_simp, by go_simp, by go_simp, by go_simp, by go_simp, by go_simp, by go_simp, by go_simp, by go_simp, by go_simp, by go_simp, (hb.setCell (Nat.le_refl _) _).setCell (Nat.le_refl _) _, by simpa using sz, ia, hx, ic, iD⟩
theorem Rx.set2 {b : Nat} {v : S4} {w0 w : World} (h : Rx b v w0 w) (x : Int) (hx : Hid (In64 x)) : Rx b ⟨v.a, v.b, x, v.d⟩ w0 ((w.setCell ⟨b, 4, none⟩ (.int .i64 (hi x))).setCell ⟨b, 5, none⟩ (.int .i64 (lo x))) := by
  obtain ⟨c0, c1, c2, c3, c4, c5, c6, c7, f0, f1, f2, f3, f4, f5, f6, f7, r0, r1, r2, r3, r4, r5, r6, r7, g0, g1, g2, g3, g4, g5, g6, g7, hb, sz, ia, ib, ic, iD⟩ := h
  exact ⟨by go_simp, by go_simp, by go_simp, by go_simp, by go_simp, by go_simp, by go_simp, by go_simp, by go_simp, by go_simp, by go_simp, by go_simp, by go_simp, by go_simp, by go_simp, by go_simp, by go_simp, by go_simp, by go_simp, by go_simp, by go_simp, by go_simp, by go_simp, by go_simp, by go_simp, by go_simp, by go_simp, by go_simp, by go_simp, by go_simp, by go_simp, by go_simp, (hb.setCell (Nat.le_refl _) _).setCell (Nat.le_refl _) _, by simpa using sz, ia, ib, hx, iD⟩
theorem Rx.set3 {b : Nat} {v : S4} {w0 w : World} (h : Rx b v w0 w) (x : Int) (hx : Hid (In64 x)) : Rx b ⟨v.a, v.b, v.c, x⟩ w0 ((w.setCell ⟨b, 6, none⟩ (.int .i64 (hi x))).setCell ⟨b, 7, none⟩ (.int .i64 (lo x))) := by
  obtain ⟨c0, c1, c2, c3, c4, c5, c6, c7, f0, f1, f2, f3, f4, f5, f6, f7, r0, r1, r2, r3, r4, r5, r6, r7, g0, g1, g2, g3, g4, g5, g6, g7, hb, sz, ia, ib, ic, iD⟩ := h
  exact ⟨by go_simp, by go_simp, by go_simp, by go_simp, by go_simp, by go_simp, by go_simp, by go_simp, by go_simp, by go_simp, by go_simp, by go_simp, by go_simp, by go_simp, by go_simp, by go_simp, by go_simp, by go_simp, by go_simp, by go_simp, by go_simp, by go_simp, by go_simp, by go_simp, by go_simp, by go_simp, by go_simp, by go_simp, by go_simp, by go_simp, by go_simp, by go_simp, (hb.setCell (Nat.le_refl _) _).setCell (Nat.le_refl _) _, by simpa using sz, ia, ib, ic, hx⟩

set_option maxRecDepth 100000 in
set_option maxHeartbeats 8000000 in
theorem rrounds_any (v : S4) (n : Nat) (hn : n ≤ 4) (w : World) (ia : Hid (In64 v.a)) (ib : Hid (In64 v.b)) (ic : Hid (In64 v.c)) (iD : Hid (In64 v.d)) :
    Calls Tryd.prog 96 #[.agg #[.int .i64 (hi v.a), .int .i64 (lo v.a), .int .i64 (hi v.b), .int .i64 (lo v.b), .int .i64 (hi v.c), .int .i64 (lo v.c), .int .i64 (hi v.d), .int .i64 (lo v.d)], .int .i64 n] w fun e w' => ∃ u : S4, u = rnds n v ∧
      e = .returned (.agg #[.int .i64 (hi u.a), .int .i64 (lo u.a), .int .i64 (hi u.b), .int .i64 (lo u.b), .int .i64 (hi u.c), .int .i64 (lo u.c), .int .i64 (hi u.d), .int .i64 (lo u.d)]) ∧ Below w.heap.size w w' ∧ In64 u.a ∧ In64 u.b ∧ In64 u.c ∧ In64 u.d := by
  go_enter Tryd.func96, Tryd.ntmps96
  go_wp2_with fail
  go_loopw [1] (fun i wr => ∃ j : Nat, j ≤ n ∧ i = .int .i64 ((n : Int) - (j : Int)) ∧ ∃ u : S4, Hid (u = rnds j v) ∧ Rx w.heap.size u w wr) (fun i _ => (intOf i).toNat)
  case atStart =>
    refine ⟨0, by omega, by simp, v, rfl, ?_⟩
    exact ⟨by go_simp, by go_simp, by go_simp, by go_simp, by go_simp, by go_simp, by go_simp, by go_simp, by go_simp, by go_simp, by go_simp, by go_simp, by go_simp, by go_simp, by go_simp, by go_simp, by go_simp, by go_simp, by go_simp, by go_simp, by go_simp, by go_simp, by go_simp, by go_simp, by go_simp, by go_simp, by go_simp, by go_simp, by go_simp, by go_simp, by go_simp, by go_simp, ((Below.refl _ _).alloc (Nat.le_refl _) _).alloc (by simp) _, by simp, ia, ib, ic, iD⟩
  case round =>
    obtain ⟨j, hj, rfl, u, hu, hR⟩ := hrel
    by_cases hlt : j < n
    · obtain ⟨v0, v1, v2, v3⟩ := u
      obtain ⟨iv0, iv1, iv2, iv3⟩ : Hid (In64 v0) ∧ Hid (In64 v1) ∧ Hid (In64 v2) ∧ Hid (In64 v3) := ⟨hR.ia, hR.ib, hR.ic, hR.id⟩
      obtain ⟨a1, e1⟩ : ∃ a1, Hid (a1 = add64 v0 v1) := ⟨_, rfl⟩
      have ia1 : Hid (In64 a1) := by rw [e1.out]; exact add64_bd _ _
      obtain ⟨b1, e2⟩ : ∃ b1, Hid (b1 = xor64 (rot64 13 v1) a1) := ⟨_, rfl⟩
      have ib1 : Hid (In64 b1) := by rw [e2.out]; exact xor64_bd _ _
      obtain ⟨a2, e3⟩ : ∃ a2, Hid (a2 = rot64 32 a1) := ⟨_, rfl⟩
      have ia2 : Hid (In64 a2) := by rw [e3.out]; exact rot64_bd _ _
      obtain ⟨c1, e4⟩ : ∃ c1, Hid (c1 = add64 v2 v3) := ⟨_, rfl⟩
      have ic1 : Hid (In64 c1) := by rw [e4.out]; exact add64_bd _ _
      obtain ⟨d1, e5⟩ : ∃ d1, Hid (d1 = xor64 (rot64 16 v3) c1) := ⟨_, rfl⟩
      have id1 : Hid (In64 d1) := by rw [e5.out]; exact xor64_bd _ _
      obtain ⟨a3, e6⟩ : ∃ a3, Hid (a3 = add64 a2 d1) := ⟨_, rfl⟩
      have ia3 : Hid (In64 a3) := by rw [e6.out]; exact add64_bd _ _
      obtain ⟨d2, e7⟩ : ∃ d2, Hid (d2 = xor64 (rot64 21 d1) a3) := ⟨_, rfl⟩
      have id2 : Hid (In64 d2) := by rw [e7.out]; exact xor64_bd _ _
      obtain ⟨c2, e8⟩ : ∃ c2, Hid (c2 = add64 c1 b1) := ⟨_, rfl⟩
      have ic2 : Hid (In64 c2) := by rw [e8.out]; exact add64_bd _ _
      obtain ⟨b2, e9⟩ : ∃ b2, Hid (b2 = xor64 (rot64 17 b1) c2) := ⟨_, rfl⟩
      have ib2 : Hid (In64 b2) := by rw [e9.out]; exact xor64_bd _ _
      obtain ⟨c3, e10⟩ : ∃ c3, Hid (c3 = rot64 32 c2) := ⟨_, rfl⟩
      have ic3 : Hid (In64 c3) := by rw [e10.out]; exact rot64_bd _ _
      have HU : Hid ((⟨a3, b2, c3, d2⟩ : S4) = rnds (j + 1) v) := by
        show _ = rnd (rnds j v)
        rw [← hu.out]
        have q1 := e1.out; have q2 := e2.out; have q3 := e3.out; have q4 := e4.out; have q5 := e5.out; have q6 := e6.out; have q7 := e7.out; have q8 := e8.out; have q9 := e9.out; have q10 := e10.out
        subst q1; subst q2; subst q3; subst q4; subst q5; subst q6; subst q7; subst q8; subst q9; subst q10
        rfl
      have HM : Hid (Rx w.heap.size ⟨v0, v1, v2, v3⟩ w wr) := hR
      obtain ⟨zc0, zc1, zc2, zc3, zc4, zc5, zc6, zc7, zf0, zf1, zf2, zf3, zf4, zf5, zf6, zf7, zr0, zr1, zr2, zr3, zr4, zr5, zr6, zr7, zg0, zg1, zg2, zg3, zg4, zg5, zg6, zg7, zhb, zsz, _, _, _, _⟩ := hR
      clear zhb hu ia ib ic iD
      have zs0 : w.heap.size < wr.heap.size := by omega
      go_upto_region 3 with fail
      go_cut [] from 9 to 14 (fun wx => Rx w.heap.size ⟨a1, v1, v2, v3⟩ w wx)
      case first =>
        go_wp2_with (go_at_call 116; refine (plus_any _ _ _ iv0 iv1).mono ?_; rintro e w1 ⟨rfl, hb1⟩; have hc1 : ∀ b o, b < wr.heap.size → w1.cell? ⟨b, o, none⟩ = wr.cell? ⟨b, o, none⟩ := (bcell hb1).1; have hf1 : ∀ b o, b < wr.heap.size → w1.frozen? ⟨b, o, none⟩ = wr.frozen? ⟨b, o, none⟩ := (bcell hb1).2; have hz1 : w.heap.size < w1.heap.size := Nat.lt_of_lt_of_le zs0 hb1.size)
        go_meet; rw [e1.out]; exact (HM.out.later hb1).set0 _ (by rw [← e1.out]; exact ia1)
      case rest =>
      clear HM zsz zs0 zc0 zc1 zc2 zc3 zc4 zc5 zc6 zc7 zf0 zf1 zf2 zf3 zf4 zf5 zf6 zf7 zr0 zr1 zr2 zr3 zr4 zr5 zr6 zr7 zg0 zg1 zg2 zg3 zg4 zg5 zg6 zg7
      have HM : Hid (Rx w.heap.size ⟨a1, v1, v2, v3⟩ w wc) := hcut
      obtain ⟨zc0, zc1, zc2, zc3, zc4, zc5, zc6, zc7, zf0, zf1, zf2, zf3, zf4, zf5, zf6, zf7, zr0, zr1, zr2, zr3, zr4, zr5, zr6, zr7, zg0, zg1, zg2, zg3, zg4, zg5, zg6, zg7, zhb, zsz, _, _, _, _⟩ := hcut
      clear zhb
      have zs0 : w.heap.size < wc.heap.size := by omega
      go_upto_region 4 with fail
      go_cut [] from 15 to 21 (fun wx => Rx w.heap.size ⟨a1, b1, v2, v3⟩ w wx)
      case first =>
        go_region_with (first | (go_at_call 117; refine (turned13 _ _ iv1).mono ?_; rintro e w1 ⟨rfl, hb1⟩; have hc1 : ∀ b o, b < wc.heap.size → w1.cell? ⟨b, o, none⟩ = wc.cell? ⟨b, o, none⟩ := (bcell hb1).1; have hf1 : ∀ b o, b < wc.heap.size → w1.frozen? ⟨b, o, none⟩ = wc.frozen? ⟨b, o, none⟩ := (bcell hb1).2; have hz1 : w.heap.size < w1.heap.size := Nat.lt_of_lt_of_le zs0 hb1.size) | (go_at_call 95; refine (either_any _ _ _ (rot64_bd _ _) ia1).mono ?_; rintro e w2 ⟨rfl, hb2⟩; obtain ⟨hc2, hf2⟩ := bcell hb2; have hz2 : w.heap.size < w2.heap.size := Nat.lt_of_lt_of_le hz1 hb2.size))
        all_goals (go_wp2_with fail; go_meet; rw [e2.out]; exact ((HM.out.drew.later hb1).later hb2).set1 _ (by rw [← e2.out]; exact ib1))
      case rest =>
      clear HM zsz zs0 zc0 zc1 zc2 zc3 zc4 zc5 zc6 zc7 zf0 zf1 zf2 zf3 zf4 zf5 zf6 zf7 zr0 zr1 zr2 zr3 zr4 zr5 zr6 zr7 zg0 zg1 zg2 zg3 zg4 zg5 zg6 zg7
      have HM : Hid (Rx w.heap.size ⟨a1, b1, v2, v3⟩ w wc) := hcut
      obtain ⟨zc0, zc1, zc2, zc3, zc4, zc5, zc6, zc7, zf0, zf1, zf2, zf3, zf4, zf5, zf6, zf7, zr0, zr1, zr2, zr3, zr4, zr5, zr6, zr7, zg0, zg1, zg2, zg3, zg4, zg5, zg6, zg7, zhb, zsz, _, _, _, _⟩ := hcut
      clear zhb
      have zs0 : w.heap.size < wc.heap.size := by omega
      go_upto_region 5 with fail
      go_cut [] from 22 to 25 (fun wx => Rx w.heap.size ⟨a2, b1, v2, v3⟩ w wx)
      case first =>
        go_wp2_with (go_at_call 117; refine (turned32 _ _ ia1).mono ?_; rintro e w1 ⟨rfl, hb1⟩; have hc1 : ∀ b o, b < wc.heap.size → w1.cell? ⟨b, o, none⟩ = wc.cell? ⟨b, o, none⟩ := (bcell hb1).1; have hf1 : ∀ b o, b < wc.heap.size → w1.frozen? ⟨b, o, none⟩ = wc.frozen? ⟨b, o, none⟩ := (bcell hb1).2; have hz1 : w.heap.size < w1.heap.size := Nat.lt_of_lt_of_le zs0 hb1.size)
        go_meet; rw [e3.out]; exact (HM.out.later hb1).set0 _ (by rw [← e3.out]; exact ia2)
      case rest =>
      clear HM zsz zs0 zc0 zc1 zc2 zc3 zc4 zc5 zc6 zc7 zf0 zf1 zf2 zf3 zf4 zf5 zf6 zf7 zr0 zr1 zr2 zr3 zr4 zr5 zr6 zr7 zg0 zg1 zg2 zg3 zg4 zg5 zg6 zg7
      have HM : Hid (Rx w.heap.size ⟨a2, b1, v2, v3⟩ w wc) := hcut
      obtain ⟨zc0, zc1, zc2, zc3, zc4, zc5, zc6, zc7, zf0, zf1, zf2, zf3, zf4, zf5, zf6, zf7, zr0, zr1, zr2, zr3, zr4, zr5, zr6, zr7, zg0, zg1, zg2, zg3, zg4, zg5, zg6, zg7, zhb, zsz, _, _, _, _⟩ := hcut
      clear zhb
      have zs0 : w.heap.size < wc.heap.size := by omega
      go_upto_region 6 with fail
      go_cut [] from 26 to 31 (fun wx => Rx w.heap.size ⟨a2, b1, c1, v3⟩ w wx)
      case first =>
        go_wp2_with (go_at_call 116; refine (plus_any _ _ _ iv2 iv3).mono ?_; rintro e w1 ⟨rfl, hb1⟩; have hc1 : ∀ b o, b < wc.heap.size → w1.cell? ⟨b, o, none⟩ = wc.cell? ⟨b, o, none⟩ := (bcell hb1).1; have hf1 : ∀ b o, b < wc.heap.size → w1.frozen? ⟨b, o, none⟩ = wc.frozen? ⟨b, o, none⟩ := (bcell hb1).2; have hz1 : w.heap.size < w1.heap.size := Nat.lt_of_lt_of_le zs0 hb1.size)
        go_meet; rw [e4.out]; exact (HM.out.later hb1).set2 _ (by rw [← e4.out]; exact ic1)
      case rest =>
      clear HM zsz zs0 zc0 zc1 zc2 zc3 zc4 zc5 zc6 zc7 zf0 zf1 zf2 zf3 zf4 zf5 zf6 zf7 zr0 zr1 zr2 zr3 zr4 zr5 zr6 zr7 zg0 zg1 zg2 zg3 zg4 zg5 zg6 zg7
      have HM : Hid (Rx w.heap.size ⟨a2, b1, c1, v3⟩ w wc) := hcut
      obtain ⟨zc0, zc1, zc2, zc3, zc4, zc5, zc6, zc7, zf0, zf1, zf2, zf3, zf4, zf5, zf6, zf7, zr0, zr1, zr2, zr3, zr4, zr5, zr6, zr7, zg0, zg1, zg2, zg3, zg4, zg5, zg6, zg7, zhb, zsz, _, _, _, _⟩ := hcut
      clear zhb
      have zs0 : w.heap.size < wc.heap.size := by omega
      go_upto_region 7 with fail
      go_cut [] from 32 to 38 (fun wx => Rx w.heap.size ⟨a2, b1, c1, d1⟩ w wx)
      case first =>
        go_region_with (first | (go_at_call 117; refine (turned16 _ _ iv3).mono ?_; rintro e w1 ⟨rfl, hb1⟩; have hc1 : ∀ b o, b < wc.heap.size → w1.cell? ⟨b, o, none⟩ = wc.cell? ⟨b, o, none⟩ := (bcell hb1).1; have hf1 : ∀ b o, b < wc.heap.size → w1.frozen? ⟨b, o, none⟩ = wc.frozen? ⟨b, o, none⟩ := (bcell hb1).2; have hz1 : w.heap.size < w1.heap.size := Nat.lt_of_lt_of_le zs0 hb1.size) | (go_at_call 95; refine (either_any _ _ _ (rot64_bd _ _) ic1).mono ?_; rintro e w2 ⟨rfl, hb2⟩; obtain ⟨hc2, hf2⟩ := bcell hb2; have hz2 : w.heap.size < w2.heap.size := Nat.lt_of_lt_of_le hz1 hb2.size))
        all_goals (go_wp2_with fail; go_meet; rw [e5.out]; exact ((HM.out.drew.later hb1).later hb2).set3 _ (by rw [← e5.out]; exact id1))
      case rest =>
      clear HM zsz zs0 zc0 zc1 zc2 zc3 zc4 zc5 zc6 zc7 zf0 zf1 zf2 zf3 zf4 zf5 zf6 zf7 zr0 zr1 zr2 zr3 zr4 zr5 zr6 zr7 zg0 zg1 zg2 zg3 zg4 zg5 zg6 zg7
      have HM : Hid (Rx w.heap.size ⟨a2, b1, c1, d1⟩ w wc) := hcut
      obtain ⟨zc0, zc1, zc2, zc3, zc4, zc5, zc6, zc7, zf0, zf1, zf2, zf3, zf4, zf5, zf6, zf7, zr0, zr1, zr2, zr3, zr4, zr5, zr6, zr7, zg0, zg1, zg2, zg3, zg4, zg5, zg6, zg7, zhb, zsz, _, _, _, _⟩ := hcut
      clear zhb
      have zs0 : w.heap.size < wc.heap.size := by omega
      go_upto_region 8 with fail
      go_cut [] from 39 to 44 (fun wx => Rx w.heap.size ⟨a3, b1, c1, d1⟩ w wx)
      case first =>
        go_wp2_with (go_at_call 116; refine (plus_any _ _ _ ia2 id1).mono ?_; rintro e w1 ⟨rfl, hb1⟩; have hc1 : ∀ b o, b < wc.heap.size → w1.cell? ⟨b, o, none⟩ = wc.cell? ⟨b, o, none⟩ := (bcell hb1).1; have hf1 : ∀ b o, b < wc.heap.size → w1.frozen? ⟨b, o, none⟩ = wc.frozen? ⟨b, o, none⟩ := (bcell hb1).2; have hz1 : w.heap.size < w1.heap.size := Nat.lt_of_lt_of_le zs0 hb1.size)
        go_meet; rw [e6.out]; exact (HM.out.later hb1).set0 _ (by rw [← e6.out]; exact ia3)
      case rest =>
      clear HM zsz zs0 zc0 zc1 zc2 zc3 zc4 zc5 zc6 zc7 zf0 zf1 zf2 zf3 zf4 zf5 zf6 zf7 zr0 zr1 zr2 zr3 zr4 zr5 zr6 zr7 zg0 zg1 zg2 zg3 zg4 zg5 zg6 zg7
      have HM : Hid (Rx w.heap.size ⟨a3, b1, c1, d1⟩ w wc) := hcut
      obtain ⟨zc0, zc1, zc2, zc3, zc4, zc5, zc6, zc7, zf0, zf1, zf2, zf3, zf4, zf5, zf6, zf7, zr0, zr1, zr2, zr3, zr4, zr5, zr6, zr7, zg0, zg1, zg2, zg3, zg4, zg5, zg6, zg7, zhb, zsz, _, _, _, _⟩ := hcut
      clear zhb
      have zs0 : w.heap.size < wc.heap.size := by omega
      go_upto_region 9 with fail
      go_cut [] from 45 to 51 (fun wx => Rx w.heap.size ⟨a3, b1, c1, d2⟩ w wx)
      case first =>
        go_region_with (first | (go_at_call 117; refine (turned21 _ _ id1).mono ?_; rintro e w1 ⟨rfl, hb1⟩; have hc1 : ∀ b o, b < wc.heap.size → w1.cell? ⟨b, o, none⟩ = wc.cell? ⟨b, o, none⟩ := (bcell hb1).1; have hf1 : ∀ b o, b < wc.heap.size → w1.frozen? ⟨b, o, none⟩ = wc.frozen? ⟨b, o, none⟩ := (bcell hb1).2; have hz1 : w.heap.size < w1.heap.size := Nat.lt_of_lt_of_le zs0 hb1.size) | (go_at_call 95; refine (either_any _ _ _ (rot64_bd _ _) ia3).mono ?_; rintro e w2 ⟨rfl, hb2⟩; obtain ⟨hc2, hf2⟩ := bcell hb2; have hz2 : w.heap.size < w2.heap.size := Nat.lt_of_lt_of_le hz1 hb2.size))
        all_goals (go_wp2_with fail; go_meet; rw [e7.out]; exact ((HM.out.drew.later hb1).later hb2).set3 _ (by rw [← e7.out]; exact id2))
      case rest =>
      clear HM zsz zs0 zc0 zc1 zc2 zc3 zc4 zc5 zc6 zc7 zf0 zf1 zf2 zf3 zf4 zf5 zf6 zf7 zr0 zr1 zr2 zr3 zr4 zr5 zr6 zr7 zg0 zg1 zg2 zg3 zg4 zg5 zg6 zg7
      have HM : Hid (Rx w.heap.size ⟨a3, b1, c1, d2⟩ w wc) := hcut
      obtain ⟨zc0, zc1, zc2, zc3, zc4, zc5, zc6, zc7, zf0, zf1, zf2, zf3, zf4, zf5, zf6, zf7, zr0, zr1, zr2, zr3, zr4, zr5, zr6, zr7, zg0, zg1, zg2, zg3, zg4, zg5, zg6, zg7, zhb, zsz, _, _, _, _⟩ := hcut
      clear zhb
      have zs0 : w.heap.size < wc.heap.size := by omega
      go_upto_region 10 with fail
      go_cut [] from 52 to 57 (fun wx => Rx w.heap.size ⟨a3, b1, c2, d2⟩ w wx)
      case first =>
        go_wp2_with (go_at_call 116; refine (plus_any _ _ _ ic1 ib1).mono ?_; rintro e w1 ⟨rfl, hb1⟩; have hc1 : ∀ b o, b < wc.heap.size → w1.cell? ⟨b, o, none⟩ = wc.cell? ⟨b, o, none⟩ := (bcell hb1).1; have hf1 : ∀ b o, b < wc.heap.size → w1.frozen? ⟨b, o, none⟩ = wc.frozen? ⟨b, o, none⟩ := (bcell hb1).2; have hz1 : w.heap.size < w1.heap.size := Nat.lt_of_lt_of_le zs0 hb1.size)
        go_meet; rw [e8.out]; exact (HM.out.later hb1).set2 _ (by rw [← e8.out]; exact ic2)
      case rest =>
      clear HM zsz zs0 zc0 zc1 zc2 zc3 zc4 zc5 zc6 zc7 zf0 zf1 zf2 zf3 zf4 zf5 zf6 zf7 zr0 zr1 zr2 zr3 zr4 zr5 zr6 zr7 zg0 zg1 zg2 zg3 zg4 zg5 zg6 zg7
      have HM : Hid (Rx w.heap.size ⟨a3, b1, c2, d2⟩ w wc) := hcut
      obtain ⟨zc0, zc1, zc2, zc3, zc4, zc5, zc6, zc7, zf0, zf1, zf2, zf3, zf4, zf5, zf6, zf7, zr0, zr1, zr2, zr3, zr4, zr5, zr6, zr7, zg0, zg1, zg2, zg3, zg4, zg5, zg6, zg7, zhb, zsz, _, _, _, _⟩ := hcut
      clear zhb
      have zs0 : w.heap.size < wc.heap.size := by omega
      go_upto_region 11 with fail
      go_cut [] from 58 to 64 (fun wx => Rx w.heap.size ⟨a3, b2, c2, d2⟩ w wx)
      case first =>
        go_region_with (first | (go_at_call 117; refine (turned17 _ _ ib1).mono ?_; rintro e w1 ⟨rfl, hb1⟩; have hc1 : ∀ b o, b < wc.heap.size → w1.cell? ⟨b, o, none⟩ = wc.cell? ⟨b, o, none⟩ := (bcell hb1).1; have hf1 : ∀ b o, b < wc.heap.size → w1.frozen? ⟨b, o, none⟩ = wc.frozen? ⟨b, o, none⟩ := (bcell hb1).2; have hz1 : w.heap.size < w1.heap.size := Nat.lt_of_lt_of_le zs0 hb1.size) | (go_at_call 95; refine (either_any _ _ _ (rot64_bd _ _) ic2).mono ?_; rintro e w2 ⟨rfl, hb2⟩; obtain ⟨hc2, hf2⟩ := bcell hb2; have hz2 : w.heap.size < w2.heap.size := Nat.lt_of_lt_of_le hz1 hb2.size))
        all_goals (go_wp2_with fail; go_meet; rw [e9.out]; exact ((HM.out.drew.later hb1).later hb2).set1 _ (by rw [← e9.out]; exact ib2))
      case rest =>
      clear HM zsz zs0 zc0 zc1 zc2 zc3 zc4 zc5 zc6 zc7 zf0 zf1 zf2 zf3 zf4 zf5 zf6 zf7 zr0 zr1 zr2 zr3 zr4 zr5 zr6 zr7 zg0 zg1 zg2 zg3 zg4 zg5 zg6 zg7
      have HM : Hid (Rx w.heap.size ⟨a3, b2, c2, d2⟩ w wc) := hcut
      obtain ⟨zc0, zc1, zc2, zc3, zc4, zc5, zc6, zc7, zf0, zf1, zf2, zf3, zf4, zf5, zf6, zf7, zr0, zr1, zr2, zr3, zr4, zr5, zr6, zr7, zg0, zg1, zg2, zg3, zg4, zg5, zg6, zg7, zhb, zsz, _, _, _, _⟩ := hcut
      clear zhb
      have zs0 : w.heap.size < wc.heap.size := by omega
      go_wp2_with (go_at_call 117; refine (turned32 _ _ ic2).mono ?_; rintro e w1 ⟨rfl, hb1⟩; have hc1 : ∀ b o, b < wc.heap.size → w1.cell? ⟨b, o, none⟩ = wc.cell? ⟨b, o, none⟩ := (bcell hb1).1; have hf1 : ∀ b o, b < wc.heap.size → w1.frozen? ⟨b, o, none⟩ = wc.frozen? ⟨b, o, none⟩ := (bcell hb1).2; have hz1 : w.heap.size < w1.heap.size := Nat.lt_of_lt_of_le zs0 hb1.size)
      go_roundw
      case rel =>
        refine ⟨j + 1, by omega, by go_num, ⟨a3, b2, c3, d2⟩, HU, ?_⟩
        rw [e10.out]; exact (HM.out.later hb1).set2 _ (by rw [← e10.out]; exact ic3)
      case measure => simp [intOf]; omega
    · have hR' := hR
      obtain ⟨zc0, zc1, zc2, zc3, zc4, zc5, zc6, zc7, zf0, zf1, zf2, zf3, zf4, zf5, zf6, zf7, zr0, zr1, zr2, zr3, zr4, zr5, zr6, zr7, zg0, zg1, zg2, zg3, zg4, zg5, zg6, zg7, zhb, zsz, _, _, _, _⟩ := hR
      have hjn : j = n := by omega
      subst hjn
      go_wp2
      refine bodyPost_ret (v := .agg #[.int .i64 (hi u.a), .int .i64 (lo u.a), .int .i64 (hi u.b), .int .i64 (lo u.b), .int .i64 (hi u.c), .int .i64 (lo u.c), .int .i64 (hi u.d), .int .i64 (lo u.d)]) (by simp [results, Tryd.results96, go_sem, zr0, zr1, zr2, zr3, zr4, zr5, zr6, zr7]) rfl ⟨u, hu.out, rfl, ?_, hR'.ia, hR'.ib, hR'.ic, hR'.id⟩
      repeat (refine Below.setCell ?_ (Nat.le_succ _) _)
      exact zhb
end Go.Proofs.YtphapknfkbgapaaDoor
