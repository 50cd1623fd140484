import Derived.Test.YtphapknfkbgapabDoorRows
import Derived.Test.YtphapknfkbgapabDoorPlain
import Derived.WalkKit
import Derived.WalkSpells
import Derived.WalkLawsBesides
import Derived.BigRegion
import Derived.Deep.RegionWith
import Derived.Deep.Cut
import Derived.Deep.CutRange
namespace Go.Proofs.YtphapknfkbgapabDoor
open Go.RowKit
set_option maxHeartbeats 400000 in
theorem turn_any (k x : Int) (hk : k = 13 ∨ k = 16 ∨ k = 17 ∨ k = 21 ∨ k = 32) (w : World) :
    Calls Tryd.prog 96 #[.int .u64 x, .int .u64 k] w fun e w' => e = .returned (.int .u64 (rot64 k x)) ∧ w' = w := by
  rcases hk with rfl | rfl | rfl | rfl | rfl
  all_goals
    go_enter Tryd.func96, Tryd.ntmps96
    go_wp2
    go_ret
    exact ⟨rfl, rfl⟩

/-- The four words lie in block b; below b all is as it was. -/
structure Mx (b : Nat) (v : S4) (w0 w : World) : Prop where
  c0 : w.cell? ⟨b, 0, none⟩ = some (.int .u64 v.a)
  c1 : w.cell? ⟨b, 1, none⟩ = some (.int .u64 v.b)
  c2 : w.cell? ⟨b, 2, none⟩ = some (.int .u64 v.c)
  c3 : w.cell? ⟨b, 3, none⟩ = some (.int .u64 v.d)
  f0 : w.frozen? ⟨b, 0, none⟩ = false
  f1 : w.frozen? ⟨b, 1, none⟩ = false
  f2 : w.frozen? ⟨b, 2, none⟩ = false
  f3 : w.frozen? ⟨b, 3, none⟩ = false
  bel : Below b w0 w

theorem Mx.set0 {b : Nat} {v : S4} {w0 w : World} (h : Mx b v w0 w) (x : Int) : Mx b ⟨x, v.b, v.c, v.d⟩ w0 (w.setCell ⟨b, 0, none⟩ (.int .u64 x)) := by
  obtain ⟨c0, c1, c2, c3, f0, f1, f2, f3, hb⟩ := h
  exact ⟨by go_simp, by go_simp, by go_simp, by go_simp, by go_simp, by go_simp, by go_simp, by go_simp, hb.setCell (Nat.le_refl _) _⟩
theorem Mx.drew {b : Nat} {v : S4} {w0 w : World} (h : Mx b v w0 w) : Mx b v w0 w.drew := by
  obtain ⟨c0, c1, c2, c3, f0, f1, f2, f3, hb⟩ := h
  exact ⟨by go_simp, by go_simp, by go_simp, by go_simp, by go_simp, by go_simp, by go_simp, by go_simp, hb.drew⟩
theorem Mx.set1 {b : Nat} {v : S4} {w0 w : World} (h : Mx b v w0 w) (x : Int) : Mx b ⟨v.a, x, v.c, v.d⟩ w0 (w.setCell ⟨b, 1, none⟩ (.int .u64 x)) := by
  obtain ⟨c0, c1, c2, c3, f0, f1, f2, f3, hb⟩ := h
  exact ⟨by go_simp, by go_simp, by go_simp, by go_simp, by go_simp, by go_simp, by go_simp, by go_simp, hb.setCell (Nat.le_refl _) _⟩
theorem Mx.set2 {b : Nat} {v : S4} {w0 w : World} (h : Mx b v w0 w) (x : Int) : Mx b ⟨v.a, v.b, x, v.d⟩ w0 (w.setCell ⟨b, 2, none⟩ (.int .u64 x)) := by
  obtain ⟨c0, c1, c2, c3, f0, f1, f2, f3, hb⟩ := h
  exact ⟨by go_simp, by go_simp, by go_simp, by go_simp, by go_simp, by go_simp, by go_simp, by go_simp, hb.setCell (Nat.le_refl _) _⟩
theorem Mx.set3 {b : Nat} {v : S4} {w0 w : World} (h : Mx b v w0 w) (x : Int) : Mx b ⟨v.a, v.b, v.c, x⟩ w0 (w.setCell ⟨b, 3, none⟩ (.int .u64 x)) := by
  obtain ⟨c0, c1, c2, c3, f0, f1, f2, f3, hb⟩ := h
  exact ⟨by go_simp, by go_simp, by go_simp, by go_simp, by go_simp, by go_simp, by go_simp, by go_simp, hb.setCell (Nat.le_refl _) _⟩

set_option maxRecDepth 100000 in
set_option maxHeartbeats 4000000 in
theorem round_core (b : Nat) (v0 v1 v2 v3 a1 b1 a2 c1 d1 a3 d2 c2 b2 c3 : Int)
    (e1 : Hid (a1 = add64 v0 v1)) (e2 : Hid (b1 = xor64 (rot64 13 v1) a1)) (e3 : Hid (a2 = rot64 32 a1)) (e4 : Hid (c1 = add64 v2 v3)) (e5 : Hid (d1 = xor64 (rot64 16 v3) c1))
    (e6 : Hid (a3 = add64 a2 d1)) (e7 : Hid (d2 = xor64 (rot64 21 d1) a3)) (e8 : Hid (c2 = add64 c1 b1)) (e9 : Hid (b2 = xor64 (rot64 17 b1) c2)) (e10 : Hid (c3 = rot64 32 c2))
    (w0 w : World) (h : Mx b ⟨v0, v1, v2, v3⟩ w0 w) :
    Calls Tryd.prog 93 #[.pointer (some ⟨b, 0, none⟩)] w fun e w' => e = .returned (.tuple #[]) ∧ Mx b ⟨a3, b2, c3, d2⟩ w0 w' := by
  have h' := h
  obtain ⟨g0, g1, g2, g3, f0, f1, f2, f3, hb⟩ := h'
  have HM : Hid (Mx b ⟨v0, v1, v2, v3⟩ w0 w) := h
  clear h hb
  go_enter Tryd.func93, Tryd.ntmps93
  go_upto_region 0 with fail
  go_cut [] from 2 to 12 (fun wc => Mx b ⟨a1, v1, v2, v3⟩ w0 wc)
  case first =>
    go_region
    all_goals (go_wp2_with fail; go_meet; rw [e1.out]; exact (HM.out.set0 _).drew)
  case rest =>
  clear HM g0 g1 g2 g3 f0 f1 f2 f3
  obtain ⟨g0, g1, g2, g3, f0, f1, f2, f3, hb⟩ := id hcut
  have HM : Hid (Mx b ⟨a1, v1, v2, v3⟩ w0 wc) := hcut
  clear hcut hb
  go_upto_region 1 with fail
  go_cut [] from 13 to 25 (fun wc => Mx b ⟨a1, b1, v2, v3⟩ w0 wc)
  case first =>
    go_region_with (go_at_call 96; refine (turn_any _ _ (by omega) _).mono ?_; rintro e w' ⟨rfl, rfl⟩)
    all_goals (go_wp2_with fail; go_meet; rw [e2.out]; exact (HM.out.set1 _).drew)
  case rest =>
  clear HM g0 g1 g2 g3 f0 f1 f2 f3
  obtain ⟨g0, g1, g2, g3, f0, f1, f2, f3, hb⟩ := id hcut
  have HM : Hid (Mx b ⟨a1, b1, v2, v3⟩ w0 wc) := hcut
  clear hcut hb
  go_upto_region 2 with fail
  go_cut [] from 26 to 33 (fun wc => Mx b ⟨a2, b1, v2, v3⟩ w0 wc)
  case first =>
    go_wp2_with (go_at_call 96; refine (turn_any _ _ (by omega) _).mono ?_; rintro e w' ⟨rfl, rfl⟩)
    go_meet; rw [e3.out]; exact HM.out.set0 _
  case rest =>
  clear HM g0 g1 g2 g3 f0 f1 f2 f3
  obtain ⟨g0, g1, g2, g3, f0, f1, f2, f3, hb⟩ := id hcut
  have HM : Hid (Mx b ⟨a2, b1, v2, v3⟩ w0 wc) := hcut
  clear hcut hb
  go_upto_region 3 with fail
  go_cut [] from 34 to 44 (fun wc => Mx b ⟨a2, b1, c1, v3⟩ w0 wc)
  case first =>
    go_region
    all_goals (go_wp2_with fail; go_meet; rw [e4.out]; exact (HM.out.set2 _).drew)
  case rest =>
  clear HM g0 g1 g2 g3 f0 f1 f2 f3
  obtain ⟨g0, g1, g2, g3, f0, f1, f2, f3, hb⟩ := id hcut
  have HM : Hid (Mx b ⟨a2, b1, c1, v3⟩ w0 wc) := hcut
  clear hcut hb
  go_upto_region 4 with fail
  go_cut [] from 45 to 57 (fun wc => Mx b ⟨a2, b1, c1, d1⟩ w0 wc)
  case first =>
    go_region_with (go_at_call 96; refine (turn_any _ _ (by omega) _).mono ?_; rintro e w' ⟨rfl, rfl⟩)
    all_goals (go_wp2_with fail; go_meet; rw [e5.out]; exact (HM.out.set3 _).drew)
  case rest =>
  clear HM g0 g1 g2 g3 f0 f1 f2 f3
  obtain ⟨g0, g1, g2, g3, f0, f1, f2, f3, hb⟩ := id hcut
  have HM : Hid (Mx b ⟨a2, b1, c1, d1⟩ w0 wc) := hcut
  clear hcut hb
  go_upto_region 5 with fail
  go_cut [] from 58 to 68 (fun wc => Mx b ⟨a3, b1, c1, d1⟩ w0 wc)
  case first =>
    go_region
    all_goals (go_wp2_with fail; go_meet; rw [e6.out]; exact (HM.out.set0 _).drew)
  case rest =>
  clear HM g0 g1 g2 g3 f0 f1 f2 f3
  obtain ⟨g0, g1, g2, g3, f0, f1, f2, f3, hb⟩ := id hcut
  have HM : Hid (Mx b ⟨a3, b1, c1, d1⟩ w0 wc) := hcut
  clear hcut hb
  go_upto_region 6 with fail
  go_cut [] from 69 to 81 (fun wc => Mx b ⟨a3, b1, c1, d2⟩ w0 wc)
  case first =>
    go_region_with (go_at_call 96; refine (turn_any _ _ (by omega) _).mono ?_; rintro e w' ⟨rfl, rfl⟩)
    all_goals (go_wp2_with fail; go_meet; rw [e7.out]; exact (HM.out.set3 _).drew)
  case rest =>
  clear HM g0 g1 g2 g3 f0 f1 f2 f3
  obtain ⟨g0, g1, g2, g3, f0, f1, f2, f3, hb⟩ := id hcut
  have HM : Hid (Mx b ⟨a3, b1, c1, d2⟩ w0 wc) := hcut
  clear hcut hb
  go_upto_region 7 with fail
  go_cut [] from 82 to 92 (fun wc => Mx b ⟨a3, b1, c2, d2⟩ w0 wc)
  case first =>
    go_region
    all_goals (go_wp2_with fail; go_meet; rw [e8.out]; exact (HM.out.set2 _).drew)
  case rest =>
  clear HM g0 g1 g2 g3 f0 f1 f2 f3
  obtain ⟨g0, g1, g2, g3, f0, f1, f2, f3, hb⟩ := id hcut
  have HM : Hid (Mx b ⟨a3, b1, c2, d2⟩ w0 wc) := hcut
  clear hcut hb
  go_upto_region 8 with fail
  go_cut [] from 93 to 105 (fun wc => Mx b ⟨a3, b2, c2, d2⟩ w0 wc)
  case first =>
    go_region_with (go_at_call 96; refine (turn_any _ _ (by omega) _).mono ?_; rintro e w' ⟨rfl, rfl⟩)
    all_goals (go_wp2_with fail; go_meet; rw [e9.out]; exact (HM.out.set1 _).drew)
  case rest =>
  clear HM g0 g1 g2 g3 f0 f1 f2 f3
  obtain ⟨g0, g1, g2, g3, f0, f1, f2, f3, hb⟩ := id hcut
  have HM : Hid (Mx b ⟨a3, b2, c2, d2⟩ w0 wc) := hcut
  clear hcut hb
  go_wp2_with (go_at_call 96; refine (turn_any _ _ (by omega) _).mono ?_; rintro e w' ⟨rfl, rfl⟩)
  go_end0
  exact ⟨rfl, by rw [e10.out]; exact HM.out.set2 _⟩
theorem round_any (b : Nat) (v : S4) (w0 w : World) (h : Mx b v w0 w) :
    Calls Tryd.prog 93 #[.pointer (some ⟨b, 0, none⟩)] w fun e w' => e = .returned (.tuple #[]) ∧ Mx b (rnd v) w0 w' :=
  round_core b v.a v.b v.c v.d _ _ _ _ _ _ _ _ _ _ rfl rfl rfl rfl rfl rfl rfl rfl rfl rfl w0 w h

end Go.Proofs.YtphapknfkbgapabDoor
