import Derived.Test.YtphapknfkbgapabDoorStirT
namespace Go.Proofs.YtphapknfkbgapabDoor
open Go.RowKit
set_option maxRecDepth 100000 in
set_option maxHeartbeats 2000000 in
theorem stir0_core (x0 x1 x2 x3 x4 x5 x6 x7 x8 x9 x10 x11 x12 x13 x14 x15 a1 d1 c1 b1 a2 d2 c2 b2 : Int) (w : World)
    (h1 : (x0 + x4) % 4294967296 = a1) (h2 : rot32 16 (bits .xor .u32 x12 a1) = d1) (h3 : (x8 + d1) % 4294967296 = c1) (h4 : rot32 12 (bits .xor .u32 x4 c1) = b1)
    (h5 : (a1 + b1) % 4294967296 = a2) (h6 : rot32 8 (bits .xor .u32 d1 a2) = d2) (h7 : (c1 + d2) % 4294967296 = c2) (h8 : rot32 7 (bits .xor .u32 b1 c2) = b2) :
    Calls Tryd.prog 94 #[.agg #[.int .u32 x0, .int .u32 x1, .int .u32 x2, .int .u32 x3, .int .u32 x4, .int .u32 x5, .int .u32 x6, .int .u32 x7, .int .u32 x8, .int .u32 x9, .int .u32 x10, .int .u32 x11, .int .u32 x12, .int .u32 x13, .int .u32 x14, .int .u32 x15], .agg #[.int .i64 0, .int .i64 4, .int .i64 8, .int .i64 12]] w fun e w' => e = .returned (.agg #[.int .u32 a2, .int .u32 x1, .int .u32 x2, .int .u32 x3, .int .u32 b2, .int .u32 x5, .int .u32 x6, .int .u32 x7, .int .u32 c2, .int .u32 x9, .int .u32 x10, .int .u32 x11, .int .u32 d2, .int .u32 x13, .int .u32 x14, .int .u32 x15]) ∧ Below w.heap.size w w' := by
  go_enter Tryd.func94, Tryd.ntmps94
  go_wp2_with (go_at_call 97; refine (turn32_any _ _ (by omega) _).mono ?_; rintro e w' ⟨rfl, rfl⟩)
  refine bodyPost_ret (v := .agg #[.int .u32 a2, .int .u32 x1, .int .u32 x2, .int .u32 x3, .int .u32 b2, .int .u32 x5, .int .u32 x6, .int .u32 x7, .int .u32 c2, .int .u32 x9, .int .u32 x10, .int .u32 x11, .int .u32 d2, .int .u32 x13, .int .u32 x14, .int .u32 x15]) (by simp [results, Tryd.results94, go_sem]) rfl ⟨rfl, ?_⟩
  repeat (first | exact Below.refl _ _ | refine Below.setCell ?_ (by simp) _ | refine Below.alloc ?_ (by simp; omega) _ | refine Below.alloc ?_ (by simp) _)
theorem stir0_any (g : Nat → Int) (w : World) :
    Calls Tryd.prog 94 #[.agg #[.int .u32 (g 0), .int .u32 (g 1), .int .u32 (g 2), .int .u32 (g 3), .int .u32 (g 4), .int .u32 (g 5), .int .u32 (g 6), .int .u32 (g 7), .int .u32 (g 8), .int .u32 (g 9), .int .u32 (g 10), .int .u32 (g 11), .int .u32 (g 12), .int .u32 (g 13), .int .u32 (g 14), .int .u32 (g 15)], .agg #[.int .i64 0, .int .i64 4, .int .i64 8, .int .i64 12]] w fun e w' => e = .returned (.agg #[.int .u32 (stirJ 0 g 0), .int .u32 (stirJ 0 g 1), .int .u32 (stirJ 0 g 2), .int .u32 (stirJ 0 g 3), .int .u32 (stirJ 0 g 4), .int .u32 (stirJ 0 g 5), .int .u32 (stirJ 0 g 6), .int .u32 (stirJ 0 g 7), .int .u32 (stirJ 0 g 8), .int .u32 (stirJ 0 g 9), .int .u32 (stirJ 0 g 10), .int .u32 (stirJ 0 g 11), .int .u32 (stirJ 0 g 12), .int .u32 (stirJ 0 g 13), .int .u32 (stirJ 0 g 14), .int .u32 (stirJ 0 g 15)]) ∧ Below w.heap.size w w' :=
  stir0_core (g 0) (g 1) (g 2) (g 3) (g 4) (g 5) (g 6) (g 7) (g 8) (g 9) (g 10) (g 11) (g 12) (g 13) (g 14) (g 15) _ _ _ _ _ _ _ _ w rfl rfl rfl rfl rfl rfl rfl rfl
set_option maxRecDepth 100000 in
set_option maxHeartbeats 2000000 in
theorem stir1_core (x0 x1 x2 x3 x4 x5 x6 x7 x8 x9 x10 x11 x12 x13 x14 x15 a1 d1 c1 b1 a2 d2 c2 b2 : Int) (w : World)
    (h1 : (x1 + x5) % 4294967296 = a1) (h2 : rot32 16 (bits .xor .u32 x13 a1) = d1) (h3 : (x9 + d1) % 4294967296 = c1) (h4 : rot32 12 (bits .xor .u32 x5 c1) = b1)
    (h5 : (a1 + b1) % 4294967296 = a2) (h6 : rot32 8 (bits .xor .u32 d1 a2) = d2) (h7 : (c1 + d2) % 4294967296 = c2) (h8 : rot32 7 (bits .xor .u32 b1 c2) = b2) :
    Calls Tryd.prog 94 #[.agg #[.int .u32 x0, .int .u32 x1, .int .u32 x2, .int .u32 x3, .int .u32 x4, .int .u32 x5, .int .u32 x6, .int .u32 x7, .int .u32 x8, .int .u32 x9, .int .u32 x10, .int .u32 x11, .int .u32 x12, .int .u32 x13, .int .u32 x14, .int .u32 x15], .agg #[.int .i64 1, .int .i64 5, .int .i64 9, .int .i64 13]] w fun e w' => e = .returned (.agg #[.int .u32 x0, .int .u32 a2, .int .u32 x2, .int .u32 x3, .int .u32 x4, .int .u32 b2, .int .u32 x6, .int .u32 x7, .int .u32 x8, .int .u32 c2, .int .u32 x10, .int .u32 x11, .int .u32 x12, .int .u32 d2, .int .u32 x14, .int .u32 x15]) ∧ Below w.heap.size w w' := by
  go_enter Tryd.func94, Tryd.ntmps94
  go_wp2_with (go_at_call 97; refine (turn32_any _ _ (by omega) _).mono ?_; rintro e w' ⟨rfl, rfl⟩)
  refine bodyPost_ret (v := .agg #[.int .u32 x0, .int .u32 a2, .int .u32 x2, .int .u32 x3, .int .u32 x4, .int .u32 b2, .int .u32 x6, .int .u32 x7, .int .u32 x8, .int .u32 c2, .int .u32 x10, .int .u32 x11, .int .u32 x12, .int .u32 d2, .int .u32 x14, .int .u32 x15]) (by simp [results, Tryd.results94, go_sem]) rfl ⟨rfl, ?_⟩
  repeat (first | exact Below.refl _ _ | refine Below.setCell ?_ (by simp) _ | refine Below.alloc ?_ (by simp; omega) _ | refine Below.alloc ?_ (by simp) _)
theorem stir1_any (g : Nat → Int) (w : World) :
    Calls Tryd.prog 94 #[.agg #[.int .u32 (g 0), .int .u32 (g 1), .int .u32 (g 2), .int .u32 (g 3), .int .u32 (g 4), .int .u32 (g 5), .int .u32 (g 6), .int .u32 (g 7), .int .u32 (g 8), .int .u32 (g 9), .int .u32 (g 10), .int .u32 (g 11), .int .u32 (g 12), .int .u32 (g 13), .int .u32 (g 14), .int .u32 (g 15)], .agg #[.int .i64 1, .int .i64 5, .int .i64 9, .int .i64 13]] w fun e w' => e = .returned (.agg #[.int .u32 (stirJ 1 g 0), .int .u32 (stirJ 1 g 1), .int .u32 (stirJ 1 g 2), .int .u32 (stirJ 1 g 3), .int .u32 (stirJ 1 g 4), .int .u32 (stirJ 1 g 5), .int .u32 (stirJ 1 g 6), .int .u32 (stirJ 1 g 7), .int .u32 (stirJ 1 g 8), .int .u32 (stirJ 1 g 9), .int .u32 (stirJ 1 g 10), .int .u32 (stirJ 1 g 11), .int .u32 (stirJ 1 g 12), .int .u32 (stirJ 1 g 13), .int .u32 (stirJ 1 g 14), .int .u32 (stirJ 1 g 15)]) ∧ Below w.heap.size w w' :=
  stir1_core (g 0) (g 1) (g 2) (g 3) (g 4) (g 5) (g 6) (g 7) (g 8) (g 9) (g 10) (g 11) (g 12) (g 13) (g 14) (g 15) _ _ _ _ _ _ _ _ w rfl rfl rfl rfl rfl rfl rfl rfl
end Go.Proofs.YtphapknfkbgapabDoor
