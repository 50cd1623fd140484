import Derived.Test.YtphapknfkbgapabDoorFirst
import Derived.Test.YtphapknfkbgapabDoorStirA
import Derived.Test.YtphapknfkbgapabDoorStirB
import Derived.Test.YtphapknfkbgapabDoorStirC
import Derived.Test.YtphapknfkbgapabDoorStirD
import Derived.Deep.MidRow
import Derived.Deep.RegionHeld3
import Derived.Deep.CutRange
namespace Go.Proofs.YtphapknfkbgapabDoor
open Go.RowKit

def arr16 (g : Nat → Int) : List Value := [.int .u32 (g 0), .int .u32 (g 1), .int .u32 (g 2), .int .u32 (g 3), .int .u32 (g 4), .int .u32 (g 5), .int .u32 (g 6), .int .u32 (g 7), .int .u32 (g 8), .int .u32 (g 9), .int .u32 (g 10), .int .u32 (g 11), .int .u32 (g 12), .int .u32 (g 13), .int .u32 (g 14), .int .u32 (g 15)]
theorem arr16_get (g : Nat → Int) (k : Nat) (hk : k < 16) : (arr16 g)[k]? = some (.int .u32 (g k)) := by
  rcases lt16 k hk with rfl | rfl | rfl | rfl | rfl | rfl | rfl | rfl | rfl | rfl | rfl | rfl | rfl | rfl | rfl | rfl
  all_goals rfl
theorem Wx.range {b : Nat} {g : Nat → Int} {w : World} (h : Wx b g w) : w.rangeAt b 0 (arr16 g) := fun j v hv => by
  have hj : j < 16 := (List.getElem?_eq_some_iff.1 hv).1
  rw [arr16_get g j hj] at hv
  rw [Nat.zero_add, h.c j hj, ← hv]
theorem Wx.there {b : Nat} {g : Nat → Int} {w : World} (h : Wx b g w) : w.there b 0 16 := fun j hj => by
  rw [Nat.zero_add]
  exact ⟨by rw [h.c j hj]; rfl, h.f j hj⟩
theorem Wx.ld {b : Nat} {g : Nat → Int} {w : World} (h : Wx b g w) : (Instr.loadAt 133 (.pointer (some ⟨b, 0, none⟩))).run Tryd.prog w = .ok (.agg #[.int .u32 (g 0), .int .u32 (g 1), .int .u32 (g 2), .int .u32 (g 3), .int .u32 (g 4), .int .u32 (g 5), .int .u32 (g 6), .int .u32 (g 7), .int .u32 (g 8), .int .u32 (g 9), .int .u32 (g 10), .int .u32 (g 11), .int .u32 (g 12), .int .u32 (g 13), .int .u32 (g 14), .int .u32 (g 15)]) w :=
  run_loadAt_mid (P := Tryd.prog) w b 0 133 (arr16 g) _ h.range Tryd.underlying133 rfl (by kernel_rfl)
theorem st16 (b : Nat) (g : Nat → Int) (w : World) (h : w.there b 0 16) : (Instr.storeAt 133 (.pointer (some ⟨b, 0, none⟩)) (.agg #[.int .u32 (g 0), .int .u32 (g 1), .int .u32 (g 2), .int .u32 (g 3), .int .u32 (g 4), .int .u32 (g 5), .int .u32 (g 6), .int .u32 (g 7), .int .u32 (g 8), .int .u32 (g 9), .int .u32 (g 10), .int .u32 (g 11), .int .u32 (g 12), .int .u32 (g 13), .int .u32 (g 14), .int .u32 (g 15)])).run Tryd.prog w = .ok () (w.setCells b 0 (arr16 g)) :=
  run_storeAt_mid (P := Tryd.prog) w b 0 133 (arr16 g).toArray h (by kernel_rfl) (by simp [arr16, Value.oneCell'])
theorem st16x (b : Nat) (w : World) (x0 x1 x2 x3 x4 x5 x6 x7 x8 x9 x10 x11 x12 x13 x14 x15 : Int) (h : w.there b 0 16) : (Instr.storeAt 133 (.pointer (some ⟨b, 0, none⟩)) (.agg #[.int .u32 x0, .int .u32 x1, .int .u32 x2, .int .u32 x3, .int .u32 x4, .int .u32 x5, .int .u32 x6, .int .u32 x7, .int .u32 x8, .int .u32 x9, .int .u32 x10, .int .u32 x11, .int .u32 x12, .int .u32 x13, .int .u32 x14, .int .u32 x15])).run Tryd.prog w = .ok () (w.setCells b 0 [.int .u32 x0, .int .u32 x1, .int .u32 x2, .int .u32 x3, .int .u32 x4, .int .u32 x5, .int .u32 x6, .int .u32 x7, .int .u32 x8, .int .u32 x9, .int .u32 x10, .int .u32 x11, .int .u32 x12, .int .u32 x13, .int .u32 x14, .int .u32 x15]) :=
  run_storeAt_mid (P := Tryd.prog) w b 0 133 ([.int .u32 x0, .int .u32 x1, .int .u32 x2, .int .u32 x3, .int .u32 x4, .int .u32 x5, .int .u32 x6, .int .u32 x7, .int .u32 x8, .int .u32 x9, .int .u32 x10, .int .u32 x11, .int .u32 x12, .int .u32 x13, .int .u32 x14, .int .u32 x15] : List Value).toArray h (by kernel_rfl) (by simp [Value.oneCell'])
theorem wx_setCells {b : Nat} {w : World} (g : Nat → Int) (h : w.there b 0 16) : Wx b g (w.setCells b 0 (arr16 g)) := by
  have hr := World.rangeAt_setCells_same w b 0 (arr16 g) h
  constructor
  · intro k hk
    have := hr k _ (arr16_get g k hk)
    rwa [Nat.zero_add] at this
  · intro k hk
    rw [World.frozen?_setCells]
    have := (h k hk).2
    rwa [Nat.zero_add] at this
theorem Wx.farAll {b b' : Nat} {g : Nat → Int} {w : World} (h : Wx b g w) (vs : List Value) (hn : b ≠ b') : Wx b g (w.setCells b' 0 vs) := by
  have hr := World.rangeAt_setCells_apart h.range b' 0 vs (Or.inl hn)
  constructor
  · intro k hk
    have := hr k _ (arr16_get g k hk)
    rwa [Nat.zero_add] at this
  · intro k hk
    rw [World.frozen?_setCells]
    exact h.f k hk
theorem setCells_below {B : Nat} {a : World} (b : Nat) (hb : B ≤ b) : ∀ (vs : List Value) (o : Nat) (w : World), Below B a w → Below B a (w.setCells b o vs)
  | [], _, _, h => h
  | v :: vs, o, w, h => setCells_below b hb vs (o + 1) (w.setCell ⟨b, o, none⟩ v) (h.setCell hb v)

/-- The table lies in block 0. -/
structure Fours (w : World) : Prop where
  t0 : w.cell? ⟨0, 0, none⟩ = some (.int .i64 0)
  t1 : w.cell? ⟨0, 1, none⟩ = some (.int .i64 4)
  t2 : w.cell? ⟨0, 2, none⟩ = some (.int .i64 8)
  t3 : w.cell? ⟨0, 3, none⟩ = some (.int .i64 12)
  t4 : w.cell? ⟨0, 4, none⟩ = some (.int .i64 1)
  t5 : w.cell? ⟨0, 5, none⟩ = some (.int .i64 5)
  t6 : w.cell? ⟨0, 6, none⟩ = some (.int .i64 9)
  t7 : w.cell? ⟨0, 7, none⟩ = some (.int .i64 13)
  t8 : w.cell? ⟨0, 8, none⟩ = some (.int .i64 2)
  t9 : w.cell? ⟨0, 9, none⟩ = some (.int .i64 6)
  t10 : w.cell? ⟨0, 10, none⟩ = some (.int .i64 10)
  t11 : w.cell? ⟨0, 11, none⟩ = some (.int .i64 14)
  t12 : w.cell? ⟨0, 12, none⟩ = some (.int .i64 3)
  t13 : w.cell? ⟨0, 13, none⟩ = some (.int .i64 7)
  t14 : w.cell? ⟨0, 14, none⟩ = some (.int .i64 11)
  t15 : w.cell? ⟨0, 15, none⟩ = some (.int .i64 15)
  t16 : w.cell? ⟨0, 16, none⟩ = some (.int .i64 0)
  t17 : w.cell? ⟨0, 17, none⟩ = some (.int .i64 5)
  t18 : w.cell? ⟨0, 18, none⟩ = some (.int .i64 10)
  t19 : w.cell? ⟨0, 19, none⟩ = some (.int .i64 15)
  t20 : w.cell? ⟨0, 20, none⟩ = some (.int .i64 1)
  t21 : w.cell? ⟨0, 21, none⟩ = some (.int .i64 6)
  t22 : w.cell? ⟨0, 22, none⟩ = some (.int .i64 11)
  t23 : w.cell? ⟨0, 23, none⟩ = some (.int .i64 12)
  t24 : w.cell? ⟨0, 24, none⟩ = some (.int .i64 2)
  t25 : w.cell? ⟨0, 25, none⟩ = some (.int .i64 7)
  t26 : w.cell? ⟨0, 26, none⟩ = some (.int .i64 8)
  t27 : w.cell? ⟨0, 27, none⟩ = some (.int .i64 13)
  t28 : w.cell? ⟨0, 28, none⟩ = some (.int .i64 3)
  t29 : w.cell? ⟨0, 29, none⟩ = some (.int .i64 4)
  t30 : w.cell? ⟨0, 30, none⟩ = some (.int .i64 9)
  t31 : w.cell? ⟨0, 31, none⟩ = some (.int .i64 14)

theorem Fours.later {w w1 : World} (h : Fours w) (k : Low 1 w w1) : Fours w1 := by
  obtain ⟨h0, h1, h2, h3, h4, h5, h6, h7, h8, h9, h10, h11, h12, h13, h14, h15, h16, h17, h18, h19, h20, h21, h22, h23, h24, h25, h26, h27, h28, h29, h30, h31⟩ := h
  exact ⟨(k.cell (p := ⟨0, 0, none⟩) Nat.one_pos).trans h0, (k.cell (p := ⟨0, 1, none⟩) Nat.one_pos).trans h1, (k.cell (p := ⟨0, 2, none⟩) Nat.one_pos).trans h2, (k.cell (p := ⟨0, 3, none⟩) Nat.one_pos).trans h3, (k.cell (p := ⟨0, 4, none⟩) Nat.one_pos).trans h4, (k.cell (p := ⟨0, 5, none⟩) Nat.one_pos).trans h5, (k.cell (p := ⟨0, 6, none⟩) Nat.one_pos).trans h6, (k.cell (p := ⟨0, 7, none⟩) Nat.one_pos).trans h7, (k.cell (p := ⟨0, 8, none⟩) Nat.one_pos).trans h8, (k.cell (p := ⟨0, 9, none⟩) Nat.one_pos).trans h9, (k.cell (p := ⟨0, 10, none⟩) Nat.one_pos).trans h10, (k.cell (p := ⟨0, 11, none⟩) Nat.one_pos).trans h11, (k.cell (p := ⟨0, 12, none⟩) Nat.one_pos).trans h12, (k.cell (p := ⟨0, 13, none⟩) Nat.one_pos).trans h13, (k.cell (p := ⟨0, 14, none⟩) Nat.one_pos).trans h14, (k.cell (p := ⟨0, 15, none⟩) Nat.one_pos).trans h15, (k.cell (p := ⟨0, 16, none⟩) Nat.one_pos).trans h16, (k.cell (p := ⟨0, 17, none⟩) Nat.one_pos).trans h17, (k.cell (p := ⟨0, 18, none⟩) Nat.one_pos).trans h18, (k.cell (p := ⟨0, 19, none⟩) Nat.one_pos).trans h19, (k.cell (p := ⟨0, 20, none⟩) Nat.one_pos).trans h20, (k.cell (p := ⟨0, 21, none⟩) Nat.one_pos).trans h21, (k.cell (p := ⟨0, 22, none⟩) Nat.one_pos).trans h22, (k.cell (p := ⟨0, 23, none⟩) Nat.one_pos).trans h23, (k.cell (p := ⟨0, 24, none⟩) Nat.one_pos).trans h24, (k.cell (p := ⟨0, 25, none⟩) Nat.one_pos).trans h25, (k.cell (p := ⟨0, 26, none⟩) Nat.one_pos).trans h26, (k.cell (p := ⟨0, 27, none⟩) Nat.one_pos).trans h27, (k.cell (p := ⟨0, 28, none⟩) Nat.one_pos).trans h28, (k.cell (p := ⟨0, 29, none⟩) Nat.one_pos).trans h29, (k.cell (p := ⟨0, 30, none⟩) Nat.one_pos).trans h30, (k.cell (p := ⟨0, 31, none⟩) Nat.one_pos).trans h31⟩

theorem wx_new (g : Nat → Int) (w : World) : Wx w.heap.size g (w.alloc (.cells #[.int .u32 (g 0), .int .u32 (g 1), .int .u32 (g 2), .int .u32 (g 3), .int .u32 (g 4), .int .u32 (g 5), .int .u32 (g 6), .int .u32 (g 7), .int .u32 (g 8), .int .u32 (g 9), .int .u32 (g 10), .int .u32 (g 11), .int .u32 (g 12), .int .u32 (g 13), .int .u32 (g 14), .int .u32 (g 15)] 133)) := by
  constructor
  · intro k hk
    rcases lt16 k hk with rfl | rfl | rfl | rfl | rfl | rfl | rfl | rfl | rfl | rfl | rfl | rfl | rfl | rfl | rfl | rfl
    all_goals go_simp
  · intro k hk
    go_simp

def fourL (j : Nat) : List Value :=
  match j with
  | 0 => [.int .i64 0, .int .i64 4, .int .i64 8, .int .i64 12]
  | 1 => [.int .i64 1, .int .i64 5, .int .i64 9, .int .i64 13]
  | 2 => [.int .i64 2, .int .i64 6, .int .i64 10, .int .i64 14]
  | 3 => [.int .i64 3, .int .i64 7, .int .i64 11, .int .i64 15]
  | 4 => [.int .i64 0, .int .i64 5, .int .i64 10, .int .i64 15]
  | 5 => [.int .i64 1, .int .i64 6, .int .i64 11, .int .i64 12]
  | 6 => [.int .i64 2, .int .i64 7, .int .i64 8, .int .i64 13]
  | _ => [.int .i64 3, .int .i64 4, .int .i64 9, .int .i64 14]
theorem lt8 (k : Nat) (h : k < 8) : k = 0 ∨ k = 1 ∨ k = 2 ∨ k = 3 ∨ k = 4 ∨ k = 5 ∨ k = 6 ∨ k = 7 := by omega
theorem Fours.range {w : World} (h : Fours w) (j : Nat) (hj : j < 8) : w.rangeAt 0 (4 * j) (fourL j) := by
  obtain ⟨h0, h1, h2, h3, h4, h5, h6, h7, h8, h9, h10, h11, h12, h13, h14, h15, h16, h17, h18, h19, h20, h21, h22, h23, h24, h25, h26, h27, h28, h29, h30, h31⟩ := h
  intro k v hv
  rcases lt8 j hj with rfl | rfl | rfl | rfl | rfl | rfl | rfl | rfl
  all_goals
    have hk : k < 4 := (List.getElem?_eq_some_iff.1 hv).1
    have hk' : k = 0 ∨ k = 1 ∨ k = 2 ∨ k = 3 := by omega
    rcases hk' with rfl | rfl | rfl | rfl
    all_goals (simp [fourL] at hv; subst hv; assumption)
theorem stir_all (j : Nat) (hj : j < 8) (g : Nat → Int) (w : World) :
    Calls Tryd.prog 94 #[.agg (arr16 g).toArray, .agg (fourL j).toArray] w fun e w' => e = .returned (.agg (arr16 (stirJ j g)).toArray) ∧ Below w.heap.size w w' := by
  unfold arr16 fourL
  rcases lt8 j hj with rfl | rfl | rfl | rfl | rfl | rfl | rfl | rfl
  · exact stir0_any g w
  · exact stir1_any g w
  · exact stir2_any g w
  · exact stir3_any g w
  · exact stir4_any g w
  · exact stir5_any g w
  · exact stir6_any g w
  · exact stir7_any g w

theorem arr16_one (g : Nat → Int) : (arr16 g).toArray.all (·.oneCell') = true := by simp [arr16, Value.oneCell']

theorem below_of_drew {w w1 : World} (h : Below w.drew.heap.size w.drew w1) : Below w.heap.size w w1 := ⟨h.os, h.tape, h.output, h.size, h.block⟩

set_option maxRecDepth 100000 in
set_option maxHeartbeats 1000000 in
theorem block_any (g : Nat → Int) (w : World) (hF : Fours w) (h1 : 1 ≤ w.heap.size) :
    Calls Tryd.prog 91 #[.agg #[.int .u32 (g 0), .int .u32 (g 1), .int .u32 (g 2), .int .u32 (g 3), .int .u32 (g 4), .int .u32 (g 5), .int .u32 (g 6), .int .u32 (g 7), .int .u32 (g 8), .int .u32 (g 9), .int .u32 (g 10), .int .u32 (g 11), .int .u32 (g 12), .int .u32 (g 13), .int .u32 (g 14), .int .u32 (g 15)]] w fun e w' => e = .returned (.string (blockOf g)) ∧ Below w.heap.size w w' := by
  have hld := (wx_new g w).ld
  have hw2 : Hid (Wx w.heap.size g ((w.alloc (.cells #[.int .u32 (g 0), .int .u32 (g 1), .int .u32 (g 2), .int .u32 (g 3), .int .u32 (g 4), .int .u32 (g 5), .int .u32 (g 6), .int .u32 (g 7), .int .u32 (g 8), .int .u32 (g 9), .int .u32 (g 10), .int .u32 (g 11), .int .u32 (g 12), .int .u32 (g 13), .int .u32 (g 14), .int .u32 (g 15)] 133)).alloc (.cells #[.int .u32 (g 0), .int .u32 (g 1), .int .u32 (g 2), .int .u32 (g 3), .int .u32 (g 4), .int .u32 (g 5), .int .u32 (g 6), .int .u32 (g 7), .int .u32 (g 8), .int .u32 (g 9), .int .u32 (g 10), .int .u32 (g 11), .int .u32 (g 12), .int .u32 (g 13), .int .u32 (g 14), .int .u32 (g 15)] 133))) := (wx_new g w).later ((Below.refl _ _).alloc (Nat.le_refl _) _) (by simp)
  have hw1 : Hid (Wx (w.heap.size + 1) g ((w.alloc (.cells #[.int .u32 (g 0), .int .u32 (g 1), .int .u32 (g 2), .int .u32 (g 3), .int .u32 (g 4), .int .u32 (g 5), .int .u32 (g 6), .int .u32 (g 7), .int .u32 (g 8), .int .u32 (g 9), .int .u32 (g 10), .int .u32 (g 11), .int .u32 (g 12), .int .u32 (g 13), .int .u32 (g 14), .int .u32 (g 15)] 133)).alloc (.cells #[.int .u32 (g 0), .int .u32 (g 1), .int .u32 (g 2), .int .u32 (g 3), .int .u32 (g 4), .int .u32 (g 5), .int .u32 (g 6), .int .u32 (g 7), .int .u32 (g 8), .int .u32 (g 9), .int .u32 (g 10), .int .u32 (g 11), .int .u32 (g 12), .int .u32 (g 13), .int .u32 (g 14), .int .u32 (g 15)] 133))) := by
    have q := wx_new g (w.alloc (.cells #[.int .u32 (g 0), .int .u32 (g 1), .int .u32 (g 2), .int .u32 (g 3), .int .u32 (g 4), .int .u32 (g 5), .int .u32 (g 6), .int .u32 (g 7), .int .u32 (g 8), .int .u32 (g 9), .int .u32 (g 10), .int .u32 (g 11), .int .u32 (g 12), .int .u32 (g 13), .int .u32 (g 14), .int .u32 (g 15)] 133))
    have hsz : (w.alloc (.cells #[.int .u32 (g 0), .int .u32 (g 1), .int .u32 (g 2), .int .u32 (g 3), .int .u32 (g 4), .int .u32 (g 5), .int .u32 (g 6), .int .u32 (g 7), .int .u32 (g 8), .int .u32 (g 9), .int .u32 (g 10), .int .u32 (g 11), .int .u32 (g 12), .int .u32 (g 13), .int .u32 (g 14), .int .u32 (g 15)] 133)).heap.size = w.heap.size + 1 := by simp
    rw [hsz] at q
    exact q
  have hB : Hid (Below w.heap.size w ((w.alloc (.cells #[.int .u32 (g 0), .int .u32 (g 1), .int .u32 (g 2), .int .u32 (g 3), .int .u32 (g 4), .int .u32 (g 5), .int .u32 (g 6), .int .u32 (g 7), .int .u32 (g 8), .int .u32 (g 9), .int .u32 (g 10), .int .u32 (g 11), .int .u32 (g 12), .int .u32 (g 13), .int .u32 (g 14), .int .u32 (g 15)] 133)).alloc (.cells #[.int .u32 (g 0), .int .u32 (g 1), .int .u32 (g 2), .int .u32 (g 3), .int .u32 (g 4), .int .u32 (g 5), .int .u32 (g 6), .int .u32 (g 7), .int .u32 (g 8), .int .u32 (g 9), .int .u32 (g 10), .int .u32 (g 11), .int .u32 (g 12), .int .u32 (g 13), .int .u32 (g 14), .int .u32 (g 15)] 133))) := ((Below.refl _ _).alloc (Nat.le_refl _) _).alloc (by simp) _
  have hs0 : w.heap.size + 1 < ((w.alloc (.cells #[.int .u32 (g 0), .int .u32 (g 1), .int .u32 (g 2), .int .u32 (g 3), .int .u32 (g 4), .int .u32 (g 5), .int .u32 (g 6), .int .u32 (g 7), .int .u32 (g 8), .int .u32 (g 9), .int .u32 (g 10), .int .u32 (g 11), .int .u32 (g 12), .int .u32 (g 13), .int .u32 (g 14), .int .u32 (g 15)] 133)).alloc (.cells #[.int .u32 (g 0), .int .u32 (g 1), .int .u32 (g 2), .int .u32 (g 3), .int .u32 (g 4), .int .u32 (g 5), .int .u32 (g 6), .int .u32 (g 7), .int .u32 (g 8), .int .u32 (g 9), .int .u32 (g 10), .int .u32 (g 11), .int .u32 (g 12), .int .u32 (g 13), .int .u32 (g 14), .int .u32 (g 15)] 133)).heap.size := by simp
  go_enter Tryd.func91, Tryd.ntmps91
  go_upto_region 3 with fail
  clear hld
  go_loopw [4, 5] (fun s4 _ wr => ∃ i : Nat, i ≤ 10 ∧ s4 = .int .i64 i ∧ Hid (Wx (w.heap.size + 1) (outer i g) wr) ∧ Hid (Wx w.heap.size g wr) ∧ Hid (Below w.heap.size w wr) ∧ w.heap.size + 1 < wr.heap.size) (fun s4 _ _ => 10 - (intOf s4).toNat)
  case atStart => exact ⟨0, by omega, rfl, hw1, hw2, hB, hs0⟩
  case round =>
    clear hw1 hw2 hB hs0
    obtain ⟨i, hi, rfl, hW, hV, hB, hs⟩ := hrel
    by_cases hlt : i < 10
    · have hdi : decide ((i : Int) < 10) = true := by simp; omega
      go_upto_region 6 with fail
      go_loopw [5] (fun s5 wx => ∃ j : Nat, j ≤ 8 ∧ s5 = .int .i64 j ∧ Hid (Wx (w.heap.size + 1) (inner j (outer i g)) wx) ∧ Hid (Wx w.heap.size g wx) ∧ Hid (Below w.heap.size w wx) ∧ w.heap.size + 1 < wx.heap.size) (fun s5 _ => 8 - (intOf s5).toNat)
      case atStart => exact ⟨0, by omega, rfl, hW, hV, hB, hs⟩
      case round =>
        clear hW hV hB hs
        obtain ⟨j, hj, rfl, hW, hV, hB, hs⟩ := hrel
        by_cases hlt2 : j < 8
        · have hF1 := hF.later ((Low.of hB.out).mono h1)
          obtain ⟨G, hG⟩ : ∃ G, Hid (G = inner j (outer i g)) := ⟨_, rfl⟩
          rw [← hG.out] at hW
          have hld := hW.out.ld
          have hs' : w.heap.size < wr.heap.size := by omega
          clear hld
          have hr : wr.rangeAt (w.heap.size + 1) 0 (arr16 G) := hW.out.range
          have hr4 : wr.rangeAt 0 (4 * j) (fourL j) := hF1.range j hlt2
          clear hF1
          have hsz4 : (Tryd.prog.info? 139).map (·.size) = some (fourL j).length := by rcases lt8 j hlt2 with rfl | rfl | rfl | rfl | rfl | rfl | rfl | rfl <;> kernel_rfl
          go_upto_region 8 with fail
          refine wp_region_any (by kernel_rfl) ?_
          (try (change wpAny _ _ _ _ _ _ _ (World.drew _)))
          refine wpAny_take (i := 1) (v := .int .i64 j) rfl (by kernel_rfl) (by kernel_rfl) (by kernel_rfl) (fun _ _ _ h => h) (Or.inl ⟨by rfl, fun w => by go_simp⟩) ?_
          refine wpAny_take (i := 2) (v := .pointer (some ⟨0, 4 * j, none⟩)) rfl (by kernel_rfl) (by kernel_rfl) (by kernel_rfl) (fun _ _ _ h => h) (Or.inl ⟨by rfl, fun w => by go_simp⟩) ?_
          refine wpAny_ready (rs := [0, 3]) (by kernel_rfl) (by simp) ?_
          refine AllReady.cons rfl (fun K hK => ?_) ?_
          · rw [if_pos (by rfl)]
            refine wp_load_mid 133 (.tmp 3) rfl (w.heap.size + 1) 0 rfl (arr16 G) _ hr Tryd.underlying133 rfl (by kernel_rfl) ?_
            refine hK _ _ ?_; clear hK K
            refine wpAny_ready (rs := [3]) (by kernel_rfl) (by simp) ?_
            refine AllReady.cons rfl (fun K hK => ?_) AllReady.nil
            rw [if_pos (by rfl)]
            refine wp_load_mid 139 (.tmp 19) rfl 0 (4 * j) rfl (fourL j) _ hr4 Tryd.underlying139 rfl hsz4 ?_
            refine hK _ _ ?_; clear hK K
            refine wpAny_ready (rs := [4]) (by kernel_rfl) (by simp) ?_
            refine AllReady.cons rfl (fun K hK => ?_) AllReady.nil
            go_simp
            refine (stir_all j hlt2 G _).mono ?_
            rintro e w1 ⟨rfl, hb1⟩
            refine hK _ _ ?_; clear hK K
            have hb2 : Below wr.heap.size wr w1 := below_of_drew hb1
            have hth : w1.there (w.heap.size + 1) 0 16 := (hW.out.later hb2 hs).there
            refine wpAny_ready (rs := [5]) (by kernel_rfl) (by simp) ?_
            refine AllReady.cons rfl (fun K hK => ?_) AllReady.nil
            rw [if_pos (by rfl)]
            refine wp_store_mid 133 (.tmp 3) (.tmp 21) rfl (w.heap.size + 1) 0 (arr16 (stirJ j G)).toArray rfl rfl hth (by kernel_rfl) (arr16_one _) ?_
            refine hK _ _ ?_; clear hK K
            refine wpAny_done (by kernel_rfl) ?_ _
            clear hr hr4 hsz4
            go_wp2_with fail
            go_roundw
            case rel =>
              refine ⟨j + 1, by omega, by go_num, ?_, ?_, ?_, ?_⟩
              · show Wx _ (stirJ j (inner j (outer i g))) _
                rw [← hG.out]
                exact wx_setCells _ hth
              · exact (hV.out.later hb2 hs').farAll _ (by omega)
              · exact setCells_below _ (Nat.le_succ _) _ _ _ (hB.out.trans (hb2.mono (by omega)))
              · have q := (setCells_below (B := w.heap.size) (a := w1) (w.heap.size + 1) (Nat.le_succ _) (arr16 (stirJ j G)) 0 w1 (Below.refl _ _)).size
                have q2 := hb2.size
                exact Nat.lt_of_lt_of_le (Nat.lt_of_lt_of_le hs q2) q
            case measure => simp [intOf]; omega
          refine AllReady.cons rfl (fun K hK => ?_) ?_
          · rw [if_pos (by rfl)]
            refine wp_load_mid 139 (.tmp 19) rfl 0 (4 * j) rfl (fourL j) _ hr4 Tryd.underlying139 rfl hsz4 ?_
            refine hK _ _ ?_; clear hK K
            refine wpAny_ready (rs := [0]) (by kernel_rfl) (by simp) ?_
            refine AllReady.cons rfl (fun K hK => ?_) AllReady.nil
            rw [if_pos (by rfl)]
            refine wp_load_mid 133 (.tmp 3) rfl (w.heap.size + 1) 0 rfl (arr16 G) _ hr Tryd.underlying133 rfl (by kernel_rfl) ?_
            refine hK _ _ ?_; clear hK K
            refine wpAny_ready (rs := [4]) (by kernel_rfl) (by simp) ?_
            refine AllReady.cons rfl (fun K hK => ?_) AllReady.nil
            go_simp
            refine (stir_all j hlt2 G _).mono ?_
            rintro e w1 ⟨rfl, hb1⟩
            refine hK _ _ ?_; clear hK K
            have hb2 : Below wr.heap.size wr w1 := below_of_drew hb1
            have hth : w1.there (w.heap.size + 1) 0 16 := (hW.out.later hb2 hs).there
            refine wpAny_ready (rs := [5]) (by kernel_rfl) (by simp) ?_
            refine AllReady.cons rfl (fun K hK => ?_) AllReady.nil
            rw [if_pos (by rfl)]
            refine wp_store_mid 133 (.tmp 3) (.tmp 21) rfl (w.heap.size + 1) 0 (arr16 (stirJ j G)).toArray rfl rfl hth (by kernel_rfl) (arr16_one _) ?_
            refine hK _ _ ?_; clear hK K
            refine wpAny_done (by kernel_rfl) ?_ _
            clear hr hr4 hsz4
            go_wp2_with fail
            go_roundw
            case rel =>
              refine ⟨j + 1, by omega, by go_num, ?_, ?_, ?_, ?_⟩
              · show Wx _ (stirJ j (inner j (outer i g))) _
                rw [← hG.out]
                exact wx_setCells _ hth
              · exact (hV.out.later hb2 hs').farAll _ (by omega)
              · exact setCells_below _ (Nat.le_succ _) _ _ _ (hB.out.trans (hb2.mono (by omega)))
              · have q := (setCells_below (B := w.heap.size) (a := w1) (w.heap.size + 1) (Nat.le_succ _) (arr16 (stirJ j G)) 0 w1 (Below.refl _ _)).size
                have q2 := hb2.size
                exact Nat.lt_of_lt_of_le (Nat.lt_of_lt_of_le hs q2) q
            case measure => simp [intOf]; omega
          exact AllReady.nil
        · go_wp2_with fail
          go_roundw
          case rel =>
            have e8 : j = 8 := by omega
            subst e8
            exact ⟨i + 1, by omega, by go_num, hW, hV, hB, hs⟩
          case measure => simp [intOf]; omega
    · have hdi : decide ((i : Int) < 10) = false := by simp; omega
      have hc1 := hW.out.c
      have hc2 := hV.out.c
      obtain ⟨t, ht⟩ : ∃ t, Hid (t = outer i g) := ⟨_, rfl⟩
      rw [← ht.out] at hW hc1
      have hi10 : Hid (i = 10) := by (show _ = _; omega)
      have hs' : w.heap.size < wr.heap.size := by omega
      go_upto_region 11 with fail
      go_loopw [6, 7] (fun s6 s7 wx => ∃ k : Nat, k ≤ 16 ∧ s7 = .int .i64 k ∧ s6 = .string (outTo t g k) ∧ Hid (Wx (w.heap.size + 1) t wx) ∧ Hid (Wx w.heap.size g wx) ∧ Hid (Below w.heap.size w wx) ∧ w.heap.size + 1 < wx.heap.size) (fun _ s7 _ => 16 - (intOf s7).toNat)
      case atStart => exact ⟨0, by omega, rfl, rfl, hW, hV, hB, hs⟩
      case round =>
        clear hW hV hB hs hc1 hc2 hs'
        obtain ⟨k, hk, rfl, rfl, hW, hV, hB, hs⟩ := hrel
        have hs' : w.heap.size < wr.heap.size := by omega
        by_cases hlt3 : k < 16
        · have hc1 := hW.out.c k hlt3
          have hc2 := hV.out.c k hlt3
          have hsz := outTo_size t g k
          have hsz2 : (outTo t g k).size ≤ 64 := by omega
          have HSZ : Hid ((outTo t g k).size = 4 * k) := hsz
          clear hsz
          have ha0 : (0 : Int) ≤ add32 (t k) (g k) ∧ add32 (t k) (g k) < 4294967296 := by unfold add32; omega
          have hA : Hid ((t k + g k) % 4294967296 = add32 (t k) (g k)) := rfl
          have hw4 := wr32_size
          have hq1 : (9223372036854775807 < (outTo t g k).size + 4) = False := by (simp only [eq_iff_iff, iff_false]; omega)
          go_upto_region 13 with fail
          go_region_held3 (fun W => W.cell? ⟨w.heap.size + 1, k, none⟩ = some (.int .u32 (t k)) ∧ W.cell? ⟨w.heap.size, k, none⟩ = some (.int .u32 (g k))) (go_keep)
            (first | (go_at_call 95; refine (write32_any _ _ ?_ ?_).mono ?_; (exact ha0.1); (exact ha0.2); rintro e w1 ⟨rfl, hb1⟩; have hb2 : Below wr.heap.size wr w1 := below_of_drew hb1; have hk1 := (bcell hb2).1))
          go_wp2_with fail
          go_roundw
          case rel =>
            exact ⟨k + 1, by omega, by go_num, rfl, hW.out.later hb2 hs, hV.out.later hb2 hs', hB.out.trans (hb2.mono (by omega)), Nat.lt_of_lt_of_le hs hb2.size⟩
          case measure => simp [intOf]; omega
        · go_wp2_with fail
          go_ret
          refine ⟨?_, hB.out⟩
          have e16 : k = 16 := by omega
          subst e16
          rw [ht.out, hi10.out]
          rfl
end Go.Proofs.YtphapknfkbgapabDoor
