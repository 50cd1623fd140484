import Derived.Test.YtphapknfkbgapaaGreatDoorLawOToLawQ
import Derived.Test.YtphapknfkbgapaaGreatDoorLawEToRefK
import Derived.Test.YtphapknfkbgapaaGreatDoorPRepToPO
import Derived.Test.YtphapknfkbgapaaGreatDoorTurGToTelB
import Derived.Test.YtphapknfkbgapaaGreatDoorPIToPK
namespace Go.Proofs.YtphapknfkbgapaaGreatDoor
open Go.RowKit

/-! others, and Fetch: the acts of meddlers and pods. -/

variable {w w' : World} {G : Nat → Prop} {bw bx br : Nat} {X X' : PS} {Y Y' : RS} {outs : List LOut}
set_option maxRecDepth 100000 in
set_option maxHeartbeats 1000000 in
theorem others13 (w : World) (s n q : Int) (p t : ByteArray) (on : Bool) (v : Int) (h : J w G bw bx br X Y outs) (hp : PUni 49 [.string p, .int .i64 n] X (.int .i64 v) X') (hr : RUni 50 [.string p, .int .i64 n] Y (.int .i64 v) Y') :
    Calls Tryz.prog 17 #[.pointer (some ⟨bw, 0, none⟩), .agg #[.int .i64 13, .int .i64 s, .int .i64 n, .int .i64 q, .string p, .string t, .bool on]] w fun e w' => e = .returned (.bool true) ∧ J w' G bw bx br X' Y' outs ∧ Kept (fun k => ¬ G k) w w' := by
  have HJ := hid h
  have HP := hid hp
  have HR := hid hr
  clear h hp hr
  go_enter Tryz.func17, Tryz.ntmps17
  go_upto_region 5 with fail
  go_name_world V hV
  have JV : Hid (J V (fun k => G k ∨ k = w.heap.size) bw bx br X Y outs) := by
    show J V _ bw bx br X Y outs
    rw [← hV]; exact HJ.out.box _
  have KV : Hid (Kept (fun k => ¬ G k) w V) := by
    show Kept _ w V
    rw [← hV]; exact ((Low.refl _ w).alloc (Nat.le_refl _) _).keptF _
  have BV : Blk V w.heap.size 32 (actL 13 s n q p t on) := by rw [← hV]; exact Blk.new w 32 (actL 13 s n q p t on)
  obtain ⟨c0, c1, lb⟩ := JV.out.ptrs
  have m2 : V.cell? ⟨w.heap.size, 2, none⟩ = some (.int .i64 n) := BV.cell 2
  have m4 : V.cell? ⟨w.heap.size, 4, none⟩ = some (.string p) := BV.cell 4
  clear hV BV
  go_region_held3 (fun W' => W'.cell? ⟨bw, 0, none⟩ = some (.pointer (some ⟨bx, 0, none⟩)) ∧ W'.cell? ⟨w.heap.size, 2, none⟩ = some (.int .i64 n) ∧ W'.cell? ⟨w.heap.size, 4, none⟩ = some (.string p)) (first | assumption | go_keep)
    (first | (go_at_call 49; refine (JV.out.drew.callX HP.out).mono ?_; rintro e y1 ⟨rfl, j1, k1⟩; have S1 : y1.cell? ⟨bw, 0, none⟩ = some (.pointer (some ⟨bx, 0, none⟩)) ∧ y1.cell? ⟨w.heap.size, 2, none⟩ = some (.int .i64 n) ∧ y1.cell? ⟨w.heap.size, 4, none⟩ = some (.string p) := ⟨j1.ptrs.1, k1.cell m2 (fun f => f (Or.inr rfl)), k1.cell m4 (fun f => f (Or.inr rfl))⟩; have J1 := hid j1; have K1 := hid k1; clear j1 k1))
  have d1 : y1.cell? ⟨bw, 1, none⟩ = some (.pointer (some ⟨br, 0, none⟩)) := J1.out.ptrs.2.1
  have n2 : y1.cell? ⟨w.heap.size, 2, none⟩ = some (.int .i64 n) := S1.2.1
  have n4 : y1.cell? ⟨w.heap.size, 4, none⟩ = some (.string p) := S1.2.2
  have lb1 : bw < y1.heap.size := J1.out.ptrs.2.2
  clear S1 c0 c1 m2 m4 lb
  go_upto_region 6 with fail
  go_region_held3 (fun W' => W'.cell? ⟨bw, 1, none⟩ = some (.pointer (some ⟨br, 0, none⟩)) ∧ W'.cell? ⟨w.heap.size, 2, none⟩ = some (.int .i64 n) ∧ W'.cell? ⟨w.heap.size, 4, none⟩ = some (.string p)) (first | assumption | go_keep)
    (first | (go_at_call 50; refine (J1.out.drew.callR HR.out).mono ?_; rintro e y2 ⟨rfl, j2, k2⟩; have S2 : y2.cell? ⟨bw, 1, none⟩ = some (.pointer (some ⟨br, 0, none⟩)) ∧ y2.cell? ⟨w.heap.size, 2, none⟩ = some (.int .i64 n) ∧ y2.cell? ⟨w.heap.size, 4, none⟩ = some (.string p) := ⟨j2.ptrs.2.1, k2.cell n2 (fun f => f (Or.inr rfl)), k2.cell n4 (fun f => f (Or.inr rfl))⟩; have J2 := hid j2; have K2 := hid k2; clear j2 k2))
  clear S2
  go_wp2_with fail
  go_ret
  exact ⟨rfl, J2.out.weak (fun _ g => Or.inl g) HJ.out.g0, keptG KV.out K1.out K2.out⟩
set_option maxRecDepth 100000 in
set_option maxHeartbeats 1000000 in
theorem others14 (w : World) (s n q : Int) (p t : ByteArray) (on : Bool) (v : Int) (h : J w G bw bx br X Y outs) (hp : PUni 51 [.int .i64 s, .int .i64 n] X (.int .i64 v) X') (hr : RUni 52 [.int .i64 s, .int .i64 n] Y (.int .i64 v) Y') :
    Calls Tryz.prog 17 #[.pointer (some ⟨bw, 0, none⟩), .agg #[.int .i64 14, .int .i64 s, .int .i64 n, .int .i64 q, .string p, .string t, .bool on]] w fun e w' => e = .returned (.bool true) ∧ J w' G bw bx br X' Y' outs ∧ Kept (fun k => ¬ G k) w w' := by
  have HJ := hid h
  have HP := hid hp
  have HR := hid hr
  clear h hp hr
  go_enter Tryz.func17, Tryz.ntmps17
  go_upto_region 8 with fail
  go_name_world V hV
  have JV : Hid (J V (fun k => G k ∨ k = w.heap.size) bw bx br X Y outs) := by
    show J V _ bw bx br X Y outs
    rw [← hV]; exact HJ.out.box _
  have KV : Hid (Kept (fun k => ¬ G k) w V) := by
    show Kept _ w V
    rw [← hV]; exact ((Low.refl _ w).alloc (Nat.le_refl _) _).keptF _
  have BV : Blk V w.heap.size 32 (actL 14 s n q p t on) := by rw [← hV]; exact Blk.new w 32 (actL 14 s n q p t on)
  obtain ⟨c0, c1, lb⟩ := JV.out.ptrs
  have m1 : V.cell? ⟨w.heap.size, 1, none⟩ = some (.int .i64 s) := BV.cell 1
  have m2 : V.cell? ⟨w.heap.size, 2, none⟩ = some (.int .i64 n) := BV.cell 2
  clear hV BV
  go_region_held3 (fun W' => W'.cell? ⟨bw, 0, none⟩ = some (.pointer (some ⟨bx, 0, none⟩)) ∧ W'.cell? ⟨w.heap.size, 1, none⟩ = some (.int .i64 s) ∧ W'.cell? ⟨w.heap.size, 2, none⟩ = some (.int .i64 n)) (first | assumption | go_keep)
    (first | (go_at_call 51; refine (JV.out.drew.callX HP.out).mono ?_; rintro e y1 ⟨rfl, j1, k1⟩; have S1 : y1.cell? ⟨bw, 0, none⟩ = some (.pointer (some ⟨bx, 0, none⟩)) ∧ y1.cell? ⟨w.heap.size, 1, none⟩ = some (.int .i64 s) ∧ y1.cell? ⟨w.heap.size, 2, none⟩ = some (.int .i64 n) := ⟨j1.ptrs.1, k1.cell m1 (fun f => f (Or.inr rfl)), k1.cell m2 (fun f => f (Or.inr rfl))⟩; have J1 := hid j1; have K1 := hid k1; clear j1 k1))
  have d1 : y1.cell? ⟨bw, 1, none⟩ = some (.pointer (some ⟨br, 0, none⟩)) := J1.out.ptrs.2.1
  have n1 : y1.cell? ⟨w.heap.size, 1, none⟩ = some (.int .i64 s) := S1.2.1
  have n2 : y1.cell? ⟨w.heap.size, 2, none⟩ = some (.int .i64 n) := S1.2.2
  have lb1 : bw < y1.heap.size := J1.out.ptrs.2.2
  clear S1 c0 c1 m1 m2 lb
  go_upto_region 9 with fail
  go_region_held3 (fun W' => W'.cell? ⟨bw, 1, none⟩ = some (.pointer (some ⟨br, 0, none⟩)) ∧ W'.cell? ⟨w.heap.size, 1, none⟩ = some (.int .i64 s) ∧ W'.cell? ⟨w.heap.size, 2, none⟩ = some (.int .i64 n)) (first | assumption | go_keep)
    (first | (go_at_call 52; refine (J1.out.drew.callR HR.out).mono ?_; rintro e y2 ⟨rfl, j2, k2⟩; have S2 : y2.cell? ⟨bw, 1, none⟩ = some (.pointer (some ⟨br, 0, none⟩)) ∧ y2.cell? ⟨w.heap.size, 1, none⟩ = some (.int .i64 s) ∧ y2.cell? ⟨w.heap.size, 2, none⟩ = some (.int .i64 n) := ⟨j2.ptrs.2.1, k2.cell n1 (fun f => f (Or.inr rfl)), k2.cell n2 (fun f => f (Or.inr rfl))⟩; have J2 := hid j2; have K2 := hid k2; clear j2 k2))
  clear S2
  go_wp2_with fail
  go_ret
  exact ⟨rfl, J2.out.weak (fun _ g => Or.inl g) HJ.out.g0, keptG KV.out K1.out K2.out⟩
set_option maxRecDepth 100000 in
set_option maxHeartbeats 1000000 in
theorem others15 (w : World) (s n q : Int) (p t : ByteArray) (on : Bool) (v : Int) (h : J w G bw bx br X Y outs) (hp : PUni 53 [.int .i64 s, .string p, .bool on] X (.int .i64 v) X') (hr : RUni 54 [.int .i64 s, .string p, .bool on] Y (.int .i64 v) Y') :
    Calls Tryz.prog 17 #[.pointer (some ⟨bw, 0, none⟩), .agg #[.int .i64 15, .int .i64 s, .int .i64 n, .int .i64 q, .string p, .string t, .bool on]] w fun e w' => e = .returned (.bool true) ∧ J w' G bw bx br X' Y' outs ∧ Kept (fun k => ¬ G k) w w' := by
  have HJ := hid h
  have HP := hid hp
  have HR := hid hr
  clear h hp hr
  go_enter Tryz.func17, Tryz.ntmps17
  go_upto_region 11 with fail
  go_name_world V hV
  have JV : Hid (J V (fun k => G k ∨ k = w.heap.size) bw bx br X Y outs) := by
    show J V _ bw bx br X Y outs
    rw [← hV]; exact HJ.out.box _
  have KV : Hid (Kept (fun k => ¬ G k) w V) := by
    show Kept _ w V
    rw [← hV]; exact ((Low.refl _ w).alloc (Nat.le_refl _) _).keptF _
  have BV : Blk V w.heap.size 32 (actL 15 s n q p t on) := by rw [← hV]; exact Blk.new w 32 (actL 15 s n q p t on)
  obtain ⟨c0, c1, lb⟩ := JV.out.ptrs
  have m1 : V.cell? ⟨w.heap.size, 1, none⟩ = some (.int .i64 s) := BV.cell 1
  have m4 : V.cell? ⟨w.heap.size, 4, none⟩ = some (.string p) := BV.cell 4
  have m6 : V.cell? ⟨w.heap.size, 6, none⟩ = some (.bool on) := BV.cell 6
  clear hV BV
  go_region_held3 (fun W' => W'.cell? ⟨bw, 0, none⟩ = some (.pointer (some ⟨bx, 0, none⟩)) ∧ W'.cell? ⟨w.heap.size, 1, none⟩ = some (.int .i64 s) ∧ W'.cell? ⟨w.heap.size, 4, none⟩ = some (.string p) ∧ W'.cell? ⟨w.heap.size, 6, none⟩ = some (.bool on)) (first | assumption | go_keep)
    (first | (go_at_call 53; refine (JV.out.drew.callX HP.out).mono ?_; rintro e y1 ⟨rfl, j1, k1⟩; have S1 : y1.cell? ⟨bw, 0, none⟩ = some (.pointer (some ⟨bx, 0, none⟩)) ∧ y1.cell? ⟨w.heap.size, 1, none⟩ = some (.int .i64 s) ∧ y1.cell? ⟨w.heap.size, 4, none⟩ = some (.string p) ∧ y1.cell? ⟨w.heap.size, 6, none⟩ = some (.bool on) := ⟨j1.ptrs.1, k1.cell m1 (fun f => f (Or.inr rfl)), k1.cell m4 (fun f => f (Or.inr rfl)), k1.cell m6 (fun f => f (Or.inr rfl))⟩; have J1 := hid j1; have K1 := hid k1; clear j1 k1))
  have d1 : y1.cell? ⟨bw, 1, none⟩ = some (.pointer (some ⟨br, 0, none⟩)) := J1.out.ptrs.2.1
  have n1 : y1.cell? ⟨w.heap.size, 1, none⟩ = some (.int .i64 s) := S1.2.1
  have n4 : y1.cell? ⟨w.heap.size, 4, none⟩ = some (.string p) := S1.2.2.1
  have n6 : y1.cell? ⟨w.heap.size, 6, none⟩ = some (.bool on) := S1.2.2.2
  have lb1 : bw < y1.heap.size := J1.out.ptrs.2.2
  clear S1 c0 c1 m1 m4 m6 lb
  go_upto_region 12 with fail
  go_region_held3 (fun W' => W'.cell? ⟨bw, 1, none⟩ = some (.pointer (some ⟨br, 0, none⟩)) ∧ W'.cell? ⟨w.heap.size, 1, none⟩ = some (.int .i64 s) ∧ W'.cell? ⟨w.heap.size, 4, none⟩ = some (.string p) ∧ W'.cell? ⟨w.heap.size, 6, none⟩ = some (.bool on)) (first | assumption | go_keep)
    (first | (go_at_call 54; refine (J1.out.drew.callR HR.out).mono ?_; rintro e y2 ⟨rfl, j2, k2⟩; have S2 : y2.cell? ⟨bw, 1, none⟩ = some (.pointer (some ⟨br, 0, none⟩)) ∧ y2.cell? ⟨w.heap.size, 1, none⟩ = some (.int .i64 s) ∧ y2.cell? ⟨w.heap.size, 4, none⟩ = some (.string p) ∧ y2.cell? ⟨w.heap.size, 6, none⟩ = some (.bool on) := ⟨j2.ptrs.2.1, k2.cell n1 (fun f => f (Or.inr rfl)), k2.cell n4 (fun f => f (Or.inr rfl)), k2.cell n6 (fun f => f (Or.inr rfl))⟩; have J2 := hid j2; have K2 := hid k2; clear j2 k2))
  clear S2
  go_wp2_with fail
  go_ret
  exact ⟨rfl, J2.out.weak (fun _ g => Or.inl g) HJ.out.g0, keptG KV.out K1.out K2.out⟩
set_option maxRecDepth 100000 in
set_option maxHeartbeats 1000000 in
theorem serve16 (w : World) (s n q : Int) (p t : ByteArray) (on : Bool) (A : ByteArray) (e : Int) (h : J w G bw bx br X Y outs) (hp : PUni 35 [.int .i64 s, .int .i64 n, .string p] X (.tuple #[.string A, .int .i64 e]) X') (hr : RUni 36 [.int .i64 s, .int .i64 n, .string p] Y (.tuple #[.string A, .int .i64 e]) Y') :
    Calls Tryz.prog 15 #[.pointer (some ⟨bw, 0, none⟩), .agg #[.int .i64 16, .int .i64 s, .int .i64 n, .int .i64 q, .string p, .string t, .bool on]] w fun e w' => e = .returned (.bool true) ∧ J w' G bw bx br X' Y' outs ∧ Kept (fun k => ¬ G k) w w' := by
  have HJ := hid h
  have HP := hid hp
  have HR := hid hr
  have qA : (A.toList == A.toList) = true := beq_self_eq_true _
  clear h hp hr
  go_enter Tryz.func15, Tryz.ntmps15
  go_upto_region 28 with fail
  go_name_world V hV
  have JV : Hid (J V (fun k => G k ∨ k = w.heap.size) bw bx br X Y outs) := by
    show J V _ bw bx br X Y outs
    rw [← hV]; exact HJ.out.box _
  have KV : Hid (Kept (fun k => ¬ G k) w V) := by
    show Kept _ w V
    rw [← hV]; exact ((Low.refl _ w).alloc (Nat.le_refl _) _).keptF _
  have BV : Blk V w.heap.size 32 (actL 16 s n q p t on) := by rw [← hV]; exact Blk.new w 32 (actL 16 s n q p t on)
  obtain ⟨c0, c1, lb⟩ := JV.out.ptrs
  have m1 : V.cell? ⟨w.heap.size, 1, none⟩ = some (.int .i64 s) := BV.cell 1
  have m2 : V.cell? ⟨w.heap.size, 2, none⟩ = some (.int .i64 n) := BV.cell 2
  have m4 : V.cell? ⟨w.heap.size, 4, none⟩ = some (.string p) := BV.cell 4
  clear hV BV
  go_region_held3 (fun W' => W'.cell? ⟨bw, 0, none⟩ = some (.pointer (some ⟨bx, 0, none⟩)) ∧ W'.cell? ⟨w.heap.size, 1, none⟩ = some (.int .i64 s) ∧ W'.cell? ⟨w.heap.size, 2, none⟩ = some (.int .i64 n) ∧ W'.cell? ⟨w.heap.size, 4, none⟩ = some (.string p)) (first | assumption | go_keep)
    (first | (go_at_call 35; refine (JV.out.drew.callX HP.out).mono ?_; rintro e y1 ⟨rfl, j1, k1⟩; have S1 : y1.cell? ⟨bw, 0, none⟩ = some (.pointer (some ⟨bx, 0, none⟩)) ∧ y1.cell? ⟨w.heap.size, 1, none⟩ = some (.int .i64 s) ∧ y1.cell? ⟨w.heap.size, 2, none⟩ = some (.int .i64 n) ∧ y1.cell? ⟨w.heap.size, 4, none⟩ = some (.string p) := ⟨j1.ptrs.1, k1.cell m1 (fun f => f (Or.inr rfl)), k1.cell m2 (fun f => f (Or.inr rfl)), k1.cell m4 (fun f => f (Or.inr rfl))⟩; have J1 := hid j1; have K1 := hid k1; clear j1 k1))
  have d1 : y1.cell? ⟨bw, 1, none⟩ = some (.pointer (some ⟨br, 0, none⟩)) := J1.out.ptrs.2.1
  have n1 : y1.cell? ⟨w.heap.size, 1, none⟩ = some (.int .i64 s) := S1.2.1
  have n2 : y1.cell? ⟨w.heap.size, 2, none⟩ = some (.int .i64 n) := S1.2.2.1
  have n4 : y1.cell? ⟨w.heap.size, 4, none⟩ = some (.string p) := S1.2.2.2
  have lb1 : bw < y1.heap.size := J1.out.ptrs.2.2
  clear S1 c0 c1 m1 m2 m4 lb
  go_upto_region 29 with fail
  go_region_held3 (fun W' => W'.cell? ⟨bw, 1, none⟩ = some (.pointer (some ⟨br, 0, none⟩)) ∧ W'.cell? ⟨w.heap.size, 1, none⟩ = some (.int .i64 s) ∧ W'.cell? ⟨w.heap.size, 2, none⟩ = some (.int .i64 n) ∧ W'.cell? ⟨w.heap.size, 4, none⟩ = some (.string p)) (first | assumption | go_keep)
    (first | (go_at_call 36; refine (J1.out.drew.callR HR.out).mono ?_; rintro e y2 ⟨rfl, j2, k2⟩; have S2 : y2.cell? ⟨bw, 1, none⟩ = some (.pointer (some ⟨br, 0, none⟩)) ∧ y2.cell? ⟨w.heap.size, 1, none⟩ = some (.int .i64 s) ∧ y2.cell? ⟨w.heap.size, 2, none⟩ = some (.int .i64 n) ∧ y2.cell? ⟨w.heap.size, 4, none⟩ = some (.string p) := ⟨j2.ptrs.2.1, k2.cell n1 (fun f => f (Or.inr rfl)), k2.cell n2 (fun f => f (Or.inr rfl)), k2.cell n4 (fun f => f (Or.inr rfl))⟩; have J2 := hid j2; have K2 := hid k2; clear j2 k2))
  clear S2
  go_wp2_with fail
  go_ret
  exact ⟨rfl, J2.out.weak (fun _ g => Or.inl g) HJ.out.g0, keptG KV.out K1.out K2.out⟩
end Go.Proofs.YtphapknfkbgapaaGreatDoor
namespace Go.Proofs.YtphapknfkbgapaaGreatDoor
open Go.RowKit

/-! The law over any relation that every call keeps: all acts. -/

variable {R : Nat → PS → RS → Prop} {w w' : World} {G : Nat → Prop} {bw bx br : Nat} {n : Nat}
structure Sides4 (R : Nat → PS → RS → Prop) : Prop where
  sides : Sides R
  plant : ∀ (n : Nat) (X : PS) (Y : RS) (p : ByteArray) (m : Int), n ≤ 2000000 → R n X Y → p.size ≤ maxLen → ∃ v : Int, PairR R 49 50 [.string p, .int .i64 m] X Y n (.int .i64 v)
  place : ∀ (n : Nat) (X : PS) (Y : RS) (s m : Int), n ≤ 2000000 → R n X Y → ∃ v : Int, PairR R 51 52 [.int .i64 s, .int .i64 m] X Y n (.int .i64 v)
  refer : ∀ (n : Nat) (X : PS) (Y : RS) (s : Int) (p : ByteArray) (on : Bool), n ≤ 2000000 → R n X Y → p.size ≤ maxLen → ∃ v : Int, PairR R 53 54 [.int .i64 s, .string p, .bool on] X Y n (.int .i64 v)
  fetch : ∀ (n : Nat) (X : PS) (Y : RS) (s m : Int) (p : ByteArray), n ≤ 2000000 → R n X Y → ∃ (A : ByteArray) (e : Int), PairR R 35 36 [.int .i64 s, .int .i64 m, .string p] X Y n (.tuple #[.string A, .int .i64 e])
theorem rothers13 (hS : Sides4 R) (w : World) (s m q : Int) (p t : ByteArray) (on : Bool) (h : GoodR R w G bw bx br n) (hn : n ≤ 2000000) (hp : p.size ≤ maxLen) :
    Calls Tryz.prog 17 #[.pointer (some ⟨bw, 0, none⟩), .agg #[.int .i64 13, .int .i64 s, .int .i64 m, .int .i64 q, .string p, .string t, .bool on]] w fun e w' => e = .returned (.bool true) ∧ GoodR R w' G bw bx br (n + 1) ∧ Kept (fun k => ¬ G k) w w' := by
  obtain ⟨X, Y, outs, j, r, o⟩ := h
  obtain ⟨v, hpr⟩ := hS.plant n X Y p m hn r hp
  exact goodR_of o hpr (fun X' Y' h1 h2 => others13 w s m q p t on v j h1 h2)
theorem rothers14 (hS : Sides4 R) (w : World) (s m q : Int) (p t : ByteArray) (on : Bool) (h : GoodR R w G bw bx br n) (hn : n ≤ 2000000) :
    Calls Tryz.prog 17 #[.pointer (some ⟨bw, 0, none⟩), .agg #[.int .i64 14, .int .i64 s, .int .i64 m, .int .i64 q, .string p, .string t, .bool on]] w fun e w' => e = .returned (.bool true) ∧ GoodR R w' G bw bx br (n + 1) ∧ Kept (fun k => ¬ G k) w w' := by
  obtain ⟨X, Y, outs, j, r, o⟩ := h
  obtain ⟨v, hpr⟩ := hS.place n X Y s m hn r
  exact goodR_of o hpr (fun X' Y' h1 h2 => others14 w s m q p t on v j h1 h2)
theorem rothers15 (hS : Sides4 R) (w : World) (s m q : Int) (p t : ByteArray) (on : Bool) (h : GoodR R w G bw bx br n) (hn : n ≤ 2000000) (hp : p.size ≤ maxLen) :
    Calls Tryz.prog 17 #[.pointer (some ⟨bw, 0, none⟩), .agg #[.int .i64 15, .int .i64 s, .int .i64 m, .int .i64 q, .string p, .string t, .bool on]] w fun e w' => e = .returned (.bool true) ∧ GoodR R w' G bw bx br (n + 1) ∧ Kept (fun k => ¬ G k) w w' := by
  obtain ⟨X, Y, outs, j, r, o⟩ := h
  obtain ⟨v, hpr⟩ := hS.refer n X Y s p on hn r hp
  exact goodR_of o hpr (fun X' Y' h1 h2 => others15 w s m q p t on v j h1 h2)
theorem rserve16 (hS : Sides4 R) (w : World) (s m q : Int) (p t : ByteArray) (on : Bool) (h : GoodR R w G bw bx br n) (hn : n ≤ 2000000) :
    Calls Tryz.prog 15 #[.pointer (some ⟨bw, 0, none⟩), .agg #[.int .i64 16, .int .i64 s, .int .i64 m, .int .i64 q, .string p, .string t, .bool on]] w fun e w' => e = .returned (.bool true) ∧ GoodR R w' G bw bx br (n + 1) ∧ Kept (fun k => ¬ G k) w w' := by
  obtain ⟨X, Y, outs, j, r, o⟩ := h
  obtain ⟨A, e, hpr⟩ := hS.fetch n X Y s m p hn r
  exact goodR_of o hpr (fun X' Y' h1 h2 => serve16 w s m q p t on A e j h1 h2)
set_option maxRecDepth 100000 in
set_option maxHeartbeats 1000000 in
theorem ract13 (hS : Sides4 R) (w : World) (s m q : Int) (p t : ByteArray) (on : Bool) (h : GoodR R w G bw bx br n) (hn : n ≤ 2000000) (hp : p.size ≤ maxLen) :
    Calls Tryz.prog 9 #[.pointer (some ⟨bw, 0, none⟩), .agg #[.int .i64 13, .int .i64 s, .int .i64 m, .int .i64 q, .string p, .string t, .bool on]] w fun e w' => e = .returned (.bool true) ∧ GoodR R w' G bw bx br (n + 1) ∧ Kept (fun k => ¬ G k) w w' := by
  have HS := hid hS
  have HG := hid h
  clear h hS
  have GV : Hid (GoodR R (w.alloc (.cells (actL 13 s m q p t on).toArray 32)) (fun k => G k ∨ k = w.heap.size) bw bx br n) := HG.out.box _
  have RV : Hid ((w.alloc (.cells (actL 13 s m q p t on).toArray 32)).rangeAt w.heap.size 0 (actL 13 s m q p t on)) := (Blk.new w 32 (actL 13 s m q p t on)).whole
  go_enter Tryz.func9, Tryz.ntmps9
  go_wp2_with (first | ((with_reducible refine ld32 _ w.heap.size 0 13 s m q p t on ?_ RV.out ?_); rfl) | (go_at_call 17; refine (rothers13 HS.out _ s m q p t on GV.out hn hp).mono ?_; rintro e y1 ⟨rfl, j1, k1⟩; have J1 := hid j1; have K1 := hid k1; clear j1 k1))
  go_ret
  exact ⟨rfl, J1.out.weak (fun _ g => Or.inl g) HG.out.g0, kept_box K1.out⟩
set_option maxRecDepth 100000 in
set_option maxHeartbeats 1000000 in
theorem ract14 (hS : Sides4 R) (w : World) (s m q : Int) (p t : ByteArray) (on : Bool) (h : GoodR R w G bw bx br n) (hn : n ≤ 2000000) :
    Calls Tryz.prog 9 #[.pointer (some ⟨bw, 0, none⟩), .agg #[.int .i64 14, .int .i64 s, .int .i64 m, .int .i64 q, .string p, .string t, .bool on]] w fun e w' => e = .returned (.bool true) ∧ GoodR R w' G bw bx br (n + 1) ∧ Kept (fun k => ¬ G k) w w' := by
  have HS := hid hS
  have HG := hid h
  clear h hS
  have GV : Hid (GoodR R (w.alloc (.cells (actL 14 s m q p t on).toArray 32)) (fun k => G k ∨ k = w.heap.size) bw bx br n) := HG.out.box _
  have RV : Hid ((w.alloc (.cells (actL 14 s m q p t on).toArray 32)).rangeAt w.heap.size 0 (actL 14 s m q p t on)) := (Blk.new w 32 (actL 14 s m q p t on)).whole
  go_enter Tryz.func9, Tryz.ntmps9
  go_wp2_with (first | ((with_reducible refine ld32 _ w.heap.size 0 14 s m q p t on ?_ RV.out ?_); rfl) | (go_at_call 17; refine (rothers14 HS.out _ s m q p t on GV.out hn).mono ?_; rintro e y1 ⟨rfl, j1, k1⟩; have J1 := hid j1; have K1 := hid k1; clear j1 k1))
  go_ret
  exact ⟨rfl, J1.out.weak (fun _ g => Or.inl g) HG.out.g0, kept_box K1.out⟩
set_option maxRecDepth 100000 in
set_option maxHeartbeats 1000000 in
theorem ract15 (hS : Sides4 R) (w : World) (s m q : Int) (p t : ByteArray) (on : Bool) (h : GoodR R w G bw bx br n) (hn : n ≤ 2000000) (hp : p.size ≤ maxLen) :
    Calls Tryz.prog 9 #[.pointer (some ⟨bw, 0, none⟩), .agg #[.int .i64 15, .int .i64 s, .int .i64 m, .int .i64 q, .string p, .string t, .bool on]] w fun e w' => e = .returned (.bool true) ∧ GoodR R w' G bw bx br (n + 1) ∧ Kept (fun k => ¬ G k) w w' := by
  have HS := hid hS
  have HG := hid h
  clear h hS
  have GV : Hid (GoodR R (w.alloc (.cells (actL 15 s m q p t on).toArray 32)) (fun k => G k ∨ k = w.heap.size) bw bx br n) := HG.out.box _
  have RV : Hid ((w.alloc (.cells (actL 15 s m q p t on).toArray 32)).rangeAt w.heap.size 0 (actL 15 s m q p t on)) := (Blk.new w 32 (actL 15 s m q p t on)).whole
  go_enter Tryz.func9, Tryz.ntmps9
  go_wp2_with (first | ((with_reducible refine ld32 _ w.heap.size 0 15 s m q p t on ?_ RV.out ?_); rfl) | (go_at_call 17; refine (rothers15 HS.out _ s m q p t on GV.out hn hp).mono ?_; rintro e y1 ⟨rfl, j1, k1⟩; have J1 := hid j1; have K1 := hid k1; clear j1 k1))
  go_ret
  exact ⟨rfl, J1.out.weak (fun _ g => Or.inl g) HG.out.g0, kept_box K1.out⟩
set_option maxRecDepth 100000 in
set_option maxHeartbeats 1000000 in
theorem ract16 (hS : Sides4 R) (w : World) (s m q : Int) (p t : ByteArray) (on : Bool) (h : GoodR R w G bw bx br n) (hn : n ≤ 2000000) :
    Calls Tryz.prog 9 #[.pointer (some ⟨bw, 0, none⟩), .agg #[.int .i64 16, .int .i64 s, .int .i64 m, .int .i64 q, .string p, .string t, .bool on]] w fun e w' => e = .returned (.bool true) ∧ GoodR R w' G bw bx br (n + 1) ∧ Kept (fun k => ¬ G k) w w' := by
  have HS := hid hS
  have HG := hid h
  clear h hS
  have GV : Hid (GoodR R (w.alloc (.cells (actL 16 s m q p t on).toArray 32)) (fun k => G k ∨ k = w.heap.size) bw bx br n) := HG.out.box _
  have RV : Hid ((w.alloc (.cells (actL 16 s m q p t on).toArray 32)).rangeAt w.heap.size 0 (actL 16 s m q p t on)) := (Blk.new w 32 (actL 16 s m q p t on)).whole
  go_enter Tryz.func9, Tryz.ntmps9
  go_wp2_with (first | ((with_reducible refine ld32 _ w.heap.size 0 16 s m q p t on ?_ RV.out ?_); rfl) | (go_at_call 15; refine (rserve16 HS.out _ s m q p t on GV.out hn).mono ?_; rintro e y1 ⟨rfl, j1, k1⟩; have J1 := hid j1; have K1 := hid k1; clear j1 k1))
  go_ret
  exact ⟨rfl, J1.out.weak (fun _ g => Or.inl g) HG.out.g0, kept_box K1.out⟩
/-- Every act. -/
theorem ract_all (hS : Sides4 R) (w : World) (k s m q : Int) (p t : ByteArray) (on : Bool) (h : GoodR R w G bw bx br n) (hn : n ≤ 2000000) (hp : p.size ≤ maxLen) (hq : t.size ≤ maxLen) :
    Calls Tryz.prog 9 #[.pointer (some ⟨bw, 0, none⟩), .agg #[.int .i64 k, .int .i64 s, .int .i64 m, .int .i64 q, .string p, .string t, .bool on]] w fun e w' => e = .returned (.bool true) ∧ GoodR R w' G bw bx br (n + 1) ∧ Kept (fun k => ¬ G k) w w' := by
  by_cases hk : k < 13 ∨ 16 < k
  · exact ract_any hS.sides w k s m q p t on h hn hp hq hk
  · have : k = 13 ∨ k = 14 ∨ k = 15 ∨ k = 16 := by omega
    rcases this with rfl | rfl | rfl | rfl
    · exact ract13 hS w s m q p t on h hn hp
    · exact ract14 hS w s m q p t on h hn
    · exact ract15 hS w s m q p t on h hn hp
    · exact ract16 hS w s m q p t on h hn
set_option maxRecDepth 100000 in
set_option maxHeartbeats 1000000 in
theorem fits_all (w : World) (k s n q : Int) (p t : ByteArray) (on : Bool) :
    Calls Tryz.prog 12 #[.agg #[.int .i64 k, .int .i64 s, .int .i64 n, .int .i64 q, .string p, .string t, .bool on], .int .i64 3] w fun e w' => e = .returned (.bool true) ∧ Low w.heap.size w w' := by
  by_cases hk : k < 8 ∨ 16 < k
  · exact fits_serve w k s n q p t on hk 3
  · have : k = 8 ∨ k = 9 ∨ k = 10 ∨ k = 11 ∨ k = 12 ∨ k = 13 ∨ k = 14 ∨ k = 15 ∨ k = 16 := by omega
    clear hk
    rcases this with rfl | rfl | rfl | rfl | rfl | rfl | rfl | rfl | rfl
    all_goals
      go_enter Tryz.func12, Tryz.ntmps12
      go_wp2
      go_ret
      exact ⟨rfl, (Low.refl _ w).alloc (Nat.le_refl _) _⟩
set_option maxRecDepth 100000 in
set_option maxHeartbeats 2000000 in
theorem plays_all {R : Nat → PS → RS → Prop} (hS : Sides4 R) (w : World) (m : Nat) (room : Int) (key : ByteArray) (a : Option Addr) (cap : Nat) (acts : List Deed) (h : cfgOk (m : Int) room key = true) (hR : R 0 (PS.new m room key) (RS.new m room key)) (hs : Script w a acts) (hn : acts.length ≤ 1048576) (hf : Fours w) (h0 : 0 < w.heap.size) :
    Calls Tryz.prog 7 #[.agg #[.int .i64 (m : Int), .int .i64 room, .string key], .slice a acts.length cap, .int .i64 3] w fun e w' => e = .returned (.bool true) ∧ Low w.heap.size w w' := by
  have HC := hid h
  have HSI := hid hS
  have HR0 := hid hR
  have HS := hid hs
  have HF := hid hf
  have HN := hid hn
  have H0 := hid h0
  clear h hs hf hn h0 hS hR
  go_enter Tryz.func7, Tryz.ntmps7
  go_upto_region 4 with (go_at_call 8; refine (made_yes _ m room key HC.out).mono ?_; rintro e y1 ⟨bw, bx, br, Fx, Fr, Fw, rfl, l1, x1, r1, o1, d1, d2, d3⟩; have LA : Hid (Low w.heap.size w y1) := ((Low.refl _ w).alloc (Nat.le_refl _) _).trans (l1.mono (by simp)); have GA : Hid (GoodR R y1 (fun k => k < w.heap.size) bw bx br 0) := goodR_new HR0.out LA.out x1 r1 o1 (fun k f => ⟨Nat.le_trans (by simp) (d1 k f).1, (d1 k f).2⟩) (fun k f => ⟨Nat.le_trans (by simp) (d2 k f).1, (d2 k f).2⟩) (fun k f => Nat.le_trans (by simp) (d3 k f)) (fun _ hk => hk) H0.out HF.out; clear l1 x1 r1 o1 d1 d2 d3)
  go_wp2_with fail
  go_loopg [8, 9] acts.length (fun left ov iv wr => ∃ i : Nat, left = acts.length - i ∧ i ≤ acts.length ∧ ov = .bool true ∧ iv = .int .i64 (i : Int) ∧ Hid (GoodR R wr (fun k => k < w.heap.size) bw bx br i) ∧ Hid (Kept (fun k => ¬ k < w.heap.size) w wr))
  case atStart => exact ⟨0, rfl, Nat.zero_le _, rfl, rfl, GA.out, LA.out.keptF _⟩
  case round =>
    obtain ⟨i, hgk, hi, rfl, rfl, HG, HK⟩ := hrel
    have HGK := hid hgk
    clear hgk
    by_cases h3 : i < acts.length
    · have q1 : decide ((i : Int) < (acts.length : Int)) = true := by simp; omega
      have il : (i : Int) < (acts.length : Int) := by omega
      obtain ⟨d, hd⟩ : ∃ d, acts[i]? = some d := ⟨_, List.getElem?_eq_getElem h3⟩
      obtain ⟨b, o, ha, hb, hc⟩ := HS.out.1 (by omega)
      subst ha
      have SZ := hid (HS.out.2 d (List.mem_of_getElem? hd))
      have HB := hid hb
      have R0 : Hid (w.rangeAt b (o + i * 7) (actL d.k d.s d.m d.q d.p d.t d.on)) := hc i d hd
      have RV : Hid (wr.rangeAt b (o + i * 7) (actL d.k d.s d.m d.q d.p d.t d.on)) := range_kept HK.out HB.out R0.out
      clear hc hd hb
      go_wp2_with (first | ((with_reducible refine ld32 _ b (o + i * 7) d.k d.s d.m d.q d.p d.t d.on ?_ RV.out ?_); rfl) | ((with_reducible refine ld32 _ b (o + i * 7) d.k d.s d.m d.q d.p d.t d.on ?_ R1.out ?_); rfl) | (go_at_call 12; refine (fits_all _ d.k d.s d.m d.q d.p d.t d.on).mono ?_; rintro e z1 ⟨rfl, l1⟩; have K1 : Hid (Kept (fun k => ¬ k < w.heap.size) w z1) := kept_and HK.out (l1.keptF _); have G1 : Hid (GoodR R z1 (fun k => k < w.heap.size) bw bx br i) := HG.out.low l1; have R1 : Hid (z1.rangeAt b (o + i * 7) (actL d.k d.s d.m d.q d.p d.t d.on)) := range_kept K1.out HB.out R0.out; clear l1) | (go_at_call 9; refine (ract_all HSI.out _ d.k d.s d.m d.q d.p d.t d.on G1.out (by have := HN.out; omega) SZ.out.1 SZ.out.2).mono ?_; rintro e z2 ⟨rfl, g2, k2⟩; have G2 := hid g2; have K2 : Hid (Kept (fun k => ¬ k < w.heap.size) w z2) := kept_and K1.out k2; clear g2 k2) | (go_at_call 10; refine (rlooks _ G2.out (by have := HN.out; omega)).mono ?_; rintro e z3 ⟨rfl, g3, k3⟩; have G3 := hid g3; have K3 : Hid (Kept (fun k => ¬ k < w.heap.size) w z3) := kept_and K2.out k3; clear g3 k3))
      go_roundg (acts.length - (i + 1))
      case rel => exact ⟨i + 1, rfl, by omega, rfl, by have := HN.out; simp; unfold wrap64; omega, G3.out, K3.out⟩
      case measure => have := HGK.out; omega
    · have q1 : decide ((i : Int) < (acts.length : Int)) = false := by simp; omega
      go_wp2_with (go_at_call 11; refine (rlast_any HSI.out.sides _ HG.out (by have := HN.out; omega)).mono ?_; rintro e z1 ⟨rfl, g1, k1⟩; have K1 : Hid (Kept (fun k => ¬ k < w.heap.size) w z1) := kept_and HK.out k1; clear g1 k1)
      go_ret
      exact ⟨rfl, K1.out.os, K1.out.output, K1.out.size, fun k hk => K1.out.block k hk (fun f => f hk)⟩
/-! All. -/
set_option maxRecDepth 100000 in
set_option maxHeartbeats 1000000 in
theorem all_of (w : World) (servers room : Int) (key : ByteArray) (a : Option Addr) (n cap : Nat)
    (h : ∀ V, Low w.heap.size w V → 0 < V.heap.size → Calls Tryz.prog 7 #[.agg #[.int .i64 servers, .int .i64 room, .string key], .slice a n cap, .int .i64 3] V fun e w' => e = .returned (.bool true) ∧ Low V.heap.size V w') :
    Calls Tryz.prog 5 #[.agg #[.int .i64 servers, .int .i64 room, .string key], .slice a n cap] w fun e w' => e = .returned (.bool true) ∧ Low w.heap.size w w' := by
  have HH := hid h
  clear h
  go_enter Tryz.func5, Tryz.ntmps5
  go_wp2_with (go_at_call 7; refine (HH.out _ ((Low.refl _ w).alloc (Nat.le_refl _) _) (by simp)).mono ?_; rintro e y1 ⟨rfl, l1⟩; have L1 : Hid (Low w.heap.size w y1) := ((Low.refl _ w).alloc (Nat.le_refl _) _).trans (l1.mono (by simp)); clear l1)
  go_ret
  exact ⟨rfl, L1.out⟩
theorem all_walk {R : Nat → PS → RS → Prop} (hS : Sides4 R) (hR : ∀ (m : Nat) (room : Int) (key : ByteArray), cfgOk (m : Int) room key = true → R 0 (PS.new m room key) (RS.new m room key)) (w : World) (servers room : Int) (key : ByteArray) (a : Option Addr) (cap : Nat) (acts : List Deed) (hs : Script w a acts) (hn : acts.length ≤ 1048576) (hf : Fours w) (h1 : 1 ≤ w.heap.size) :
    Calls Tryz.prog 5 #[.agg #[.int .i64 servers, .int .i64 room, .string key], .slice a acts.length cap] w fun e w' => e = .returned (.bool true) ∧ Low w.heap.size w w' := by
  refine all_of w servers room key a acts.length cap fun V l h0 => ?_
  cases hc : cfgOk servers room key
  · exact plays_no V servers room key _ 3 hc
  · obtain ⟨m, rfl⟩ : ∃ m : Nat, servers = (m : Int) := ⟨servers.toNat, by
      simp only [cfgOk, Bool.and_eq_true, decide_eq_true_eq] at hc
      omega⟩
    exact plays_all hS V m room key a cap acts hc (hR m room key hc) (hs.low l) hn (fours_at hf (l.block 0 (by omega)) l.os l.output l.size) h0
end Go.Proofs.YtphapknfkbgapaaGreatDoor
namespace Go.Proofs.YtphapknfkbgapaaGreatDoor
open Go.RowKit

variable {F : Nat → Prop} {b : Nat} {X : PS}
/-! Meddling: the program's kept, Plant. -/
/-- What the program finds of a revision. -/
def keptE (l : List Ent) (rev : Int) : Ent := (l.find? (fun e => e.rev == rev)).getD Ent.zero
set_option maxRecDepth 100000 in
set_option maxHeartbeats 400000 in
theorem kept_any (w : World) (rev : Int) (h : XIn w F b X) (hn : X.entries.length ≤ 1000) :
    Calls Tryz.prog 94 #[.pointer (some ⟨b, 0, none⟩), .int .i64 rev] w fun e w' =>
      e = .returned (.agg (keptE X.entries rev).cells.toArray) ∧ Low w.heap.size w w' := by
  have HR := hid h
  clear h
  go_enter Tryz.func94, Tryz.ntmps94
  go_wp2
  go_name_world W hW
  have BW : Hid (Blk W w.heap.size 50 Ent.zero.cells) := by
    show Blk W _ _ _
    rw [← hW]; exact Blk.new w 50 Ent.zero.cells
  have LW : Hid (Low w.heap.size w W) := by
    show Low _ _ _
    rw [← hW]; exact (Low.refl _ w).alloc (Nat.le_refl _) _
  have XW : Hid (XIn W F b X) := HR.out.low LW.out
  clear hW
  obtain ⟨a, cap, hc, hel⟩ := xin_entries XW.out
  rw [List.length_map] at hc
  go_loopg [5] X.entries.length (fun left iv wr => ∃ i : Nat, left = X.entries.length - i ∧ i ≤ X.entries.length ∧ iv = .int .i64 (i : Int) ∧ W = wr ∧ Hid ((X.entries.take i).find? (fun e => e.rev == rev) = none))
  case atStart => exact ⟨0, rfl, Nat.zero_le _, rfl, rfl, rfl⟩
  case round =>
    obtain ⟨i, hgk, hi, rfl, rfl, HI⟩ := hrel
    have HGK := hid hgk
    clear hgk
    by_cases h1 : i < X.entries.length
    · have q1 : decide ((i : Int) < (X.entries.length : Int)) = true := by simp; omega
      have il : (i : Int) < (X.entries.length : Int) := by omega
      obtain ⟨k, hk2⟩ : ∃ k, X.entries[i]? = some k := ⟨_, List.getElem?_eq_getElem h1⟩
      obtain ⟨g, rfl, hg, hcs, _⟩ := hel i k.cells (by rw [List.getElem?_map, hk2]; rfl)
      have c1 : W.cell? ⟨g, i * 6 + 1, none⟩ = some (.int .i64 k.rev) := hcs 1 (by omega)
      have HC : Hid (W.rangeAt g (i * 6) k.cells) := range_of hcs (fun _ _ e => ⟨(List.getElem?_eq_some_iff.1 e).1, e⟩)
      have HT := hid (take_snoc hk2)
      have HK := hid hk2
      clear hcs hk2 hel
      cases q3 : (k.rev == rev)
      · go_wp2_with fail
        go_roundg (X.entries.length - (i + 1))
        case rel => exact ⟨i + 1, rfl, by omega, by simp, rfl, by show _ = _; rw [HT.out, List.find?_append, HI.out]; simp [q3]⟩
        case measure => have := HGK.out; omega
      · go_wp2_with (first | ((with_reducible refine ld50 (.tmp 30) g (i * 6) k ?_ HC.out ?_); rfl) | ((with_reducible refine st50 (.tmp 4) (.tmp 31) w.heap.size Ent.zero k ?_ ?_ BW.out ?_); rfl; rfl; intro w1 b1 k1 s1; have B1 := hid b1; have K1 := hid k1; have S1 := hid s1; clear b1 k1 s1))
        (try simp only [Exit.inBlock, Exit.then])
        refine bodyPost_ret (results_cell rfl w.heap.size k.cells _ rfl B1.out.whole Tryz.underlying50 rfl (sz50 _)) rfl ?_
        have hE : keptE X.entries rev = k := by
          unfold keptE
          have e : X.entries = X.entries.take (i + 1) ++ X.entries.drop (i + 1) := (List.take_append_drop _ _).symm
          rw [e, HT.out, List.find?_append, List.find?_append, HI.out]
          simp [q3]
        rw [hE]
        exact ⟨rfl, low_set LW.out K1.out (Nat.le_refl _) LW.out.size⟩
    · have q1 : decide ((i : Int) < (X.entries.length : Int)) = false := by simp; omega
      have HTK : Hid (X.entries.take i = X.entries) := List.take_of_length_le (by omega)
      have hE : Hid (keptE X.entries rev = Ent.zero) := by
        show _ = _
        unfold keptE
        have := HI.out
        rw [HTK.out] at this
        rw [this]; rfl
      clear hel
      go_wp2_with ((with_reducible refine st50 (.tmp 4) (.tmp 32) w.heap.size Ent.zero Ent.zero ?_ ?_ BW.out ?_); rfl; rfl; intro w1 b1 k1 s1; have B1 := hid b1; have K1 := hid k1; have S1 := hid s1; clear b1 k1 s1)
      (try simp only [Exit.inBlock, Exit.then])
      refine bodyPost_ret (results_cell rfl w.heap.size Ent.zero.cells _ rfl B1.out.whole Tryz.underlying50 rfl (sz50 _)) rfl ?_
      rw [hE.out]
      exact ⟨rfl, low_set LW.out K1.out (Nat.le_refl _) LW.out.size⟩
theorem pPlant_op (w : World) (name : ByteArray) (rev : Int) (hp : name.size ≤ maxLen) (hq : isPath name = false) :
    Calls Tryz.prog 49 #[.pointer (some ⟨b, 0, none⟩), .string name, .int .i64 rev] w fun e w' => e = .returned (.int .i64 7) ∧ w' = w := by
  have HP := hid hp
  have HQ := hid hq
  clear hp hq
  go_enter Tryz.func49, Tryz.ntmps49
  go_wp2_with (go_at_call 93; refine (pisPath_any _ _ HP.out).mono ?_; rw [HQ.out]; rintro e y1 ⟨rfl, hy⟩; obtain rfl := hy.symm)
  go_ret
  exact ⟨rfl, rfl⟩
set_option maxRecDepth 100000 in
set_option maxHeartbeats 1000000 in
theorem pPlant_none (w : World) (name : ByteArray) (rev : Int) (h : XIn w F b X) (hp : name.size ≤ maxLen) (hq : isPath name = true) (hn : X.entries.length ≤ 1000) (hz : ((keptE X.entries rev).rev == 0 || (keptE X.entries rev).gone) = true) :
    Calls Tryz.prog 49 #[.pointer (some ⟨b, 0, none⟩), .string name, .int .i64 rev] w fun e w' => e = .returned (.int .i64 12) ∧ Low w.heap.size w w' := by
  have HR := hid h
  have HP := hid hp
  have HQ := hid hq
  obtain ⟨E, hE⟩ : ∃ E, keptE X.entries rev = E := ⟨_, rfl⟩
  rw [hE] at hz
  have HE := hid hE
  clear h hE hp hq
  cases h0 : (E.rev == 0)
  · have hg : E.gone = true := by simpa [h0] using hz
    clear hz
    go_enter Tryz.func49, Tryz.ntmps49
    go_wp2_with (first | (go_at_call 93; refine (pisPath_any _ _ HP.out).mono ?_; rw [HQ.out]; rintro e y1 ⟨rfl, hy⟩; obtain rfl := hy.symm) | (go_at_call 94; refine (kept_any _ _ HR.out hn).mono ?_; rw [HE.out]; rintro e y1 ⟨rfl, l1⟩; have L1 := hid l1; clear l1) | ((with_reducible refine st50 (.tmp 7) (.tmp 13) y1.heap.size Ent.zero E ?_ ?_ ?_ ?_); rfl; rfl; exact (Blk.new y1 50 Ent.zero.cells); intro W b2 k2 s2; have m5 : W.cell? ⟨y1.heap.size, 5, none⟩ = some (.bool E.gone) := b2.cell 5; have m1 : W.cell? ⟨y1.heap.size, 1, none⟩ = some (.int .i64 E.rev) := b2.cell 1; have LW : Hid (Low w.heap.size w W) := low_set (L1.out.alloc L1.out.size _) k2 L1.out.size (by have := L1.out.size; simp; omega); clear b2 k2 s2))
    go_ret
    exact ⟨rfl, LW.out⟩
  · clear hz
    go_enter Tryz.func49, Tryz.ntmps49
    go_wp2_with (first | (go_at_call 93; refine (pisPath_any _ _ HP.out).mono ?_; rw [HQ.out]; rintro e y1 ⟨rfl, hy⟩; obtain rfl := hy.symm) | (go_at_call 94; refine (kept_any _ _ HR.out hn).mono ?_; rw [HE.out]; rintro e y1 ⟨rfl, l1⟩; have L1 := hid l1; clear l1) | ((with_reducible refine st50 (.tmp 7) (.tmp 13) y1.heap.size Ent.zero E ?_ ?_ ?_ ?_); rfl; rfl; exact (Blk.new y1 50 Ent.zero.cells); intro W b2 k2 s2; have m5 : W.cell? ⟨y1.heap.size, 5, none⟩ = some (.bool E.gone) := b2.cell 5; have m1 : W.cell? ⟨y1.heap.size, 1, none⟩ = some (.int .i64 E.rev) := b2.cell 1; have LW : Hid (Low w.heap.size w W) := low_set (L1.out.alloc L1.out.size _) k2 L1.out.size (by have := L1.out.size; simp; omega); clear b2 k2 s2))
    go_ret
    exact ⟨rfl, LW.out⟩
set_option maxRecDepth 100000 in
set_option maxHeartbeats 1000000 in
theorem pPlant_full (w : World) (name : ByteArray) (rev : Int) (E : Ent) (h : XIn w F b X) (hp : name.size ≤ maxLen) (hq : isPath name = true) (hn : X.entries.length ≤ 1000) (hE : keptE X.entries rev = E) (h0 : (E.rev == 0) = false) (hg : E.gone = false) (hf : pFull X = true) :
    Calls Tryz.prog 49 #[.pointer (some ⟨b, 0, none⟩), .string name, .int .i64 rev] w fun e w' => e = .returned (.int .i64 11) ∧ Low w.heap.size w w' := by
  have HR := hid h
  have HP := hid hp
  have HQ := hid hq
  have HE := hid hE
  have HF := hid hf
  clear h hE hp hq hf
  go_enter Tryz.func49, Tryz.ntmps49
  go_wp2_with (first | (go_at_call 93; refine (pisPath_any _ _ HP.out).mono ?_; rw [HQ.out]; rintro e y1 ⟨rfl, hy⟩; obtain rfl := hy.symm) | (go_at_call 94; refine (kept_any _ _ HR.out hn).mono ?_; rw [HE.out]; rintro e y1 ⟨rfl, l1⟩; have L1 := hid l1; clear l1) | ((with_reducible refine st50 (.tmp 7) (.tmp 13) y1.heap.size Ent.zero E ?_ ?_ ?_ ?_); rfl; rfl; exact (Blk.new y1 50 Ent.zero.cells); intro W b2 k2 s2; have m5 : W.cell? ⟨y1.heap.size, 5, none⟩ = some (.bool E.gone) := b2.cell 5; have m1 : W.cell? ⟨y1.heap.size, 1, none⟩ = some (.int .i64 E.rev) := b2.cell 1; have LW : Hid (Low w.heap.size w W) := low_set (L1.out.alloc L1.out.size _) k2 L1.out.size (by have := L1.out.size; simp; omega); clear b2 k2 s2) | (go_at_call 86; refine (pfull_any _ (by exact HR.out.low LW.out)).mono ?_; rw [HF.out]; rintro e y2 ⟨rfl, l2⟩; have L2 : Hid (Low w.heap.size w y2) := LW.out.trans (l2.mono LW.out.size); clear l2))
  go_ret
  exact ⟨rfl, L2.out⟩
def PS.plant (X : PS) (name : ByteArray) (e : Ent) : PS := { X.add { e with path := name } with turn := if X.turn == 3 then 2 else X.turn }
set_option maxRecDepth 100000 in
set_option maxHeartbeats 1000000 in
theorem pPlant_yes (w : World) (name : ByteArray) (rev : Int) (E : Ent) (h : XIn w F b X) (hp : name.size ≤ maxLen) (hq : isPath name = true) (hn : X.entries.length ≤ 1000) (hE : keptE X.entries rev = E) (h0 : (E.rev == 0) = false) (hg : E.gone = false) (hf : pFull X = false) (hr : 0 ≤ X.rev ∧ X.rev ≤ 1000000000000) :
    Calls Tryz.prog 49 #[.pointer (some ⟨b, 0, none⟩), .string name, .int .i64 rev] w fun e w' => e = .returned (.int .i64 0) ∧ XIn w' (grow F w w') b (X.plant name E) ∧ Kept F w w' := by
  have HR := hid h
  have HP := hid hp
  have HQ := hid hq
  have HE := hid hE
  have HF := hid hf
  have HRR := hid hr
  clear h hE hp hq hf hr
  go_enter Tryz.func49, Tryz.ntmps49
  go_upto_region 8 with (first | (go_at_call 93; refine (pisPath_any _ _ HP.out).mono ?_; rw [HQ.out]; rintro e y1 ⟨rfl, hy⟩; obtain rfl := hy.symm) | (go_at_call 94; refine (kept_any _ _ HR.out hn).mono ?_; rw [HE.out]; rintro e y1 ⟨rfl, l1⟩; have L1 := hid l1; clear l1) | ((with_reducible refine st50 (.tmp 7) (.tmp 13) y1.heap.size Ent.zero E ?_ ?_ ?_ ?_); rfl; rfl; exact (Blk.new y1 50 Ent.zero.cells); intro W b2 k2 s2; have B2 := hid b2; have m5 : W.cell? ⟨y1.heap.size, 5, none⟩ = some (.bool E.gone) := b2.cell 5; have m1 : W.cell? ⟨y1.heap.size, 1, none⟩ = some (.int .i64 E.rev) := b2.cell 1; have LW : Hid (Low w.heap.size w W) := low_set (L1.out.alloc L1.out.size _) k2 L1.out.size (by have := L1.out.size; simp; omega); clear b2 k2 s2) | (go_at_call 86; refine (pfull_any _ (by exact HR.out.low LW.out)).mono ?_; rw [HF.out]; rintro e y2 ⟨rfl, l2⟩; have L2 : Hid (Low w.heap.size w y2) := LW.out.trans (l2.mono LW.out.size); have B3 : Hid (Blk y2 y1.heap.size 50 E.cells) := B2.out.low l2 B2.out.lt; clear l2 m5 m1))
  have m0 : y2.cell? ⟨y1.heap.size, 0, none⟩ = some (.string E.path) := B3.out.cell 0
  have f0 := B3.out.frozen 0
  have lM := B3.out.lt
  go_upto_region 9 with fail
  go_name_world V hV
  obtain ⟨E2, hE2⟩ : ∃ E2 : Ent, E2 = { E with path := name } := ⟨_, rfl⟩
  have BV : Hid (Blk V y1.heap.size 50 E2.cells) := by
    show Blk V _ _ _
    rw [← hV, hE2]; exact B3.out.set 0 (.string name)
  have LV : Hid (Low w.heap.size w V) := by
    show Low _ _ _
    rw [← hV]; exact L2.out.setCell L1.out.size _
  have XV : Hid (XIn V F b X) := HR.out.low LV.out
  have HEQ := hid hE2
  clear hV hE2 m0 f0 lM
  go_upto_region 10 with (first | ((with_reducible refine ld50 (.tmp 7) y1.heap.size 0 E2 ?_ BV.out.whole ?_); rfl) | (go_at_call 68; refine (add_any _ E2 XV.out hn HRR.out).mono ?_; rintro e y5 ⟨rfl, r5, k5⟩; have R5 := hid r5; have K5 := hid k5; clear r5 k5))
  have KF : Hid (Kept F w y5) := LV.out.kept.trans K5.out (fun _ f => f.elim) (fun _ _ f => f)
  have XG : Hid (XIn y5 (grow F w y5) b (X.add E2)) := XIn.more R5.out (fun k hk => hk.imp id (fun e => by have := LV.out.size; exact ⟨by omega, e.2⟩)) (fun k hk => hk.elim (fun e => R5.out.below k (Or.inl e)) (fun e => e.2))
  have c4 : y5.cell? ⟨b, 4, none⟩ = some (.int .i64 X.turn) := xin_turn (X := X.add E2) XG.out
  have f4 := XG.out.frozen 4
  have lb := XG.out.lt
  cases qt : (X.turn == 3)
  · go_wp2_with fail
    go_ret
    refine ⟨rfl, ?_, KF.out⟩
    unfold PS.plant
    rw [qt]
    have := XG.out
    rw [HEQ.out] at this
    exact this
  · go_wp2_with fail
    go_ret
    refine ⟨rfl, ?_, KF.out.trans ((setCell_kept y5 ⟨b, 4, none⟩ _).mono (G := F) (fun q _ e => by rw [show q = b from e]; exact HR.out.inF)) (fun _ f => f) (fun _ _ f => f)⟩
    unfold PS.plant
    rw [qt]
    have := xin_set_turn XG.out 2
    rw [HEQ.out] at this
    exact XIn.more this (fun k hk => hk.imp id (fun e => ⟨e.1, by simpa using e.2⟩)) (fun k hk => hk.elim (fun e => by simpa using XG.out.below k (Or.inl e)) (fun e => e.2))
end Go.Proofs.YtphapknfkbgapaaGreatDoor
namespace Go.Proofs.YtphapknfkbgapaaGreatDoor
open Go.RowKit

/-! Pods: the program's Place, Refer. -/
variable {F : Nat → Prop} {b : Nat} {X : PS}
def isPodB (n : Int) : Bool := decide (0 ≤ n) && decide (n < 8)
def isNodeB (n : Int) : Bool := decide (0 ≤ n) && decide (n < 4)
theorem isPod_any (w : World) (n : Int) : Calls Tryz.prog 96 #[.int .i64 n] w fun e w' => e = .returned (.bool (isPodB n)) ∧ w' = w := by
  cases q : decide (0 ≤ n)
  all_goals
    go_enter Tryz.func96, Tryz.ntmps96
    go_wp2
    go_ret
    exact ⟨by simp [isPodB, q], rfl⟩
theorem isNode_any (w : World) (n : Int) : Calls Tryz.prog 76 #[.int .i64 n] w fun e w' => e = .returned (.bool (isNodeB n)) ∧ w' = w := by
  cases q : decide (0 ≤ n)
  all_goals
    go_enter Tryz.func76, Tryz.ntmps76
    go_wp2
    go_ret
    exact ⟨by simp [isNodeB, q], rfl⟩
theorem pPlace_arg (w : World) (pod node : Int) (h : badPlace pod node = true) :
    Calls Tryz.prog 51 #[.pointer (some ⟨b, 0, none⟩), .int .i64 pod, .int .i64 node] w fun e w' => e = .returned (.int .i64 2) ∧ w' = w := by
  cases hp : isPodB pod
  · have HP := hid hp
    clear h
    go_enter Tryz.func51, Tryz.ntmps51
    go_wp2_with (go_at_call 96; refine (isPod_any _ _).mono ?_; rw [HP.out]; rintro e y1 ⟨rfl, hy⟩; obtain rfl := hy.symm)
    go_ret
    exact ⟨rfl, rfl⟩
  · have HP := hid hp
    have hn1 : (node != -1) = true := by
      unfold badPlace at h; unfold isPodB at hp; simp at h hp ⊢; omega
    have hn2 : isNodeB node = false := by
      unfold badPlace at h; unfold isPodB at hp; unfold isNodeB
      rw [Bool.and_eq_false_iff]
      simp at h hp ⊢; omega
    have HN := hid hn2
    clear h hn2 hp
    go_enter Tryz.func51, Tryz.ntmps51
    go_wp2_with (first | (go_at_call 96; refine (isPod_any _ _).mono ?_; rw [HP.out]; rintro e y1 ⟨rfl, hy⟩; obtain rfl := hy.symm) | (go_at_call 76; refine (isNode_any _ _).mono ?_; rw [HN.out]; rintro e y1 ⟨rfl, hy⟩; obtain rfl := hy.symm))
    go_ret
    exact ⟨rfl, rfl⟩
def PS.place (X : PS) (pod : Nat) (node : Int) : PS := { X with pods := setPod X.pods pod { X.pods pod with node := node } }
theorem xset_kept0 {w : World} (h : XIn w F b X) (i : Nat) (v : Value) : Kept F w (w.setCell ⟨b, i, none⟩ v) := (setCell_kept w ⟨b, i, none⟩ v).mono (fun q _ e => by rw [show q = b from e]; exact h.inF)
theorem pPlace_yes (w : World) (pod : Nat) (node : Int) (h : XIn w F b X) (hp : pod < 8) (h1 : -1 ≤ node) (h2 : node < 4) :
    Calls Tryz.prog 51 #[.pointer (some ⟨b, 0, none⟩), .int .i64 (pod : Int), .int .i64 node] w fun e w' => e = .returned (.int .i64 0) ∧ XIn w' F b (X.place pod node) ∧ Kept F w w' := by
  have HP : Hid (isPodB (pod : Int) = true) := by show _ = _; unfold isPodB; simp; omega
  have HR := hid h
  have c := xin_node h hp
  have f := h.frozen (10 + pod * 2)
  have lb := h.lt
  have il : (pod : Int) < 8 := by omega
  have HP8 := hid hp
  cases hn : (node != -1)
  · clear h h1 h2 hp
    go_enter Tryz.func51, Tryz.ntmps51
    go_wp2_with (go_at_call 96; refine (isPod_any _ _).mono ?_; rw [HP.out]; rintro e y1 ⟨rfl, hy⟩; obtain rfl := hy.symm)
    go_ret
    exact ⟨rfl, xin_setNode HR.out HP8.out node, xset_kept0 HR.out _ _⟩
  · have HN : Hid (isNodeB node = true) := by show _ = _; unfold isNodeB; simp at hn ⊢; omega
    clear h h1 h2 hp
    go_enter Tryz.func51, Tryz.ntmps51
    go_wp2_with (first | (go_at_call 96; refine (isPod_any _ _).mono ?_; rw [HP.out]; rintro e y1 ⟨rfl, hy⟩; obtain rfl := hy.symm) | (go_at_call 76; refine (isNode_any _ _).mono ?_; rw [HN.out]; rintro e y1 ⟨rfl, hy⟩; obtain rfl := hy.symm))
    go_ret
    exact ⟨rfl, xin_setNode HR.out HP8.out node, xset_kept0 HR.out _ _⟩
end Go.Proofs.YtphapknfkbgapaaGreatDoor
namespace Go.Proofs.YtphapknfkbgapaaGreatDoor
open Go.RowKit

variable {F : Nat → Prop} {b : Nat} {X : PS}
/-- A slice of texts. -/
def Texts (w : World) (a : Option Addr) (l : List ByteArray) : Prop := ∀ (i : Nat) (p : ByteArray), l[i]? = some p → ∃ g, a = some ⟨g, 0, none⟩ ∧ g < w.heap.size ∧ w.cell? ⟨g, i, none⟩ = some (.string p)
theorem Texts.low {w w' : World} {a : Option Addr} {l : List ByteArray} (h : Texts w a l) (k : Low w.heap.size w w') : Texts w' a l := fun i p hp => by
  obtain ⟨g, rfl, hg, hc⟩ := h i p hp
  exact ⟨g, rfl, Nat.lt_of_lt_of_le hg k.size, (k.cell hg).trans hc⟩
theorem xin_texts {w : World} {i : Nat} (h : XIn w F b X) (hi : i < 8) : ∃ a cap, w.cell? ⟨b, 11 + i * 2, none⟩ = some (.slice a (X.pods i).needs.length cap) ∧ Texts w a (X.pods i).needs := by
  obtain ⟨a, cap, hc, hel⟩ := xin_needs h hi
  rw [List.length_map] at hc
  refine ⟨a, cap, hc, fun j p hp => ?_⟩
  obtain ⟨g, rfl, hg, hcs, _⟩ := hel j (str p) (by rw [List.getElem?_map, hp]; rfl)
  have := hcs 0 (by omega)
  rw [Nat.mul_one, Nat.add_zero] at this
  exact ⟨g, rfl, hg, this⟩
def withoutOf (l : List ByteArray) (name : ByteArray) : List ByteArray := l.filter (fun p => !(p.toList == name.toList))
theorem without_snoc (l : List ByteArray) (q p : ByteArray) : withoutOf (l ++ [q]) p = if (q.toList == p.toList) then withoutOf l p else withoutOf l p ++ [q] := by
  unfold withoutOf
  rw [List.filter_append]
  cases h : (q.toList == p.toList) <;> simp [h]
theorem without_le (l : List ByteArray) (p : ByteArray) : (withoutOf l p).length ≤ l.length := List.length_filter_le _ _
theorem info9 : (Tryz.prog.info? 9).map (fun i => (i.zero, i.size, i.bytes)) = some (some (.string ⟨#[]⟩), 1, 16) := by kernel_rfl
theorem str_one (p : ByteArray) : ∀ v ∈ str p, v.oneCell' = true := by simp [str, Value.oneCell']
set_option maxRecDepth 100000 in
set_option maxHeartbeats 1000000 in
theorem without_any (w : World) (a : Option Addr) (l : List ByteArray) (cap : Nat) (p : ByteArray) (hl : l.length ≤ 1000) (ht : Texts w a l) :
    Calls Tryz.prog 97 #[.slice a l.length cap, .string p] w fun e w' => ∃ v, e = .returned v ∧ Low w.heap.size w w' ∧ w'.ownsRow 0 9 1 v (withoutOf l p).length ((withoutOf l p).flatMap str) ∧ ∀ k, v.ownBlock = some k → w.heap.size ≤ k := by
  have HT := hid ht
  have HL := hid hl
  clear ht hl
  go_enter Tryz.func97, Tryz.ntmps97
  go_wp2_with fail
  go_loopg [5, 6] l.length (fun left v iv wr => ∃ i : Nat, left = l.length - i ∧ i ≤ l.length ∧ iv = .int .i64 (i : Int) ∧ Hid (Low w.heap.size w wr ∧ wr.ownsRow 0 9 1 v (withoutOf (l.take i) p).length ((withoutOf (l.take i) p).flatMap str) ∧ ∀ k, v.ownBlock = some k → w.heap.size ≤ k))
  case atStart =>
    refine ⟨0, rfl, Nat.zero_le _, rfl, (Low.refl _ w).alloc (Nat.le_refl _) _, ⟨rfl, Or.inr ⟨w.heap.size, 0, #[], rfl, Nat.zero_le _, heap_alloc_new w _, Nat.le_refl _, by decide, rfl, rfl⟩⟩, fun k hk => ?_⟩
    obtain rfl : w.heap.size = k := Option.some.inj hk
    exact Nat.le_refl _
  case round v =>
    obtain ⟨i, hgk, hi, rfl, HI⟩ := hrel
    have HGK := hid hgk
    clear hgk
    by_cases h3 : i < l.length
    · have q3 : decide ((i : Int) < (l.length : Int)) = true := by simp; omega
      have il : (i : Int) < (l.length : Int) := by omega
      obtain ⟨q, hq⟩ : ∃ q, l[i]? = some q := ⟨_, List.getElem?_eq_getElem h3⟩
      obtain ⟨g, rfl, hg, hc⟩ := (HT.out.low HI.out.1) i q hq
      have HTK := hid (take_snoc hq)
      have HS := hid (without_snoc (l.take i) q p)
      have HZ : Hid ((withoutOf (l.take i) p).length + 1 ≤ 1000000000) := by
        show _ ≤ _
        have := without_le (l.take i) p
        have := HL.out
        simp at *
        omega
      clear hq
      cases qn : (q.toList == p.toList)
      · have qn2 : (q.toList != p.toList) = true := by rw [bne, qn]; rfl
        go_wp2_with (at_builtin; refine wpList_append_mine _ rfl (.tmp 20) (.tmp 25) 59 rfl 9 _ 1 16 Tryz.underlying59 info9 rfl (by omega) _ _ _ rfl (HI.out.2.1.alloc _) ⟨wr.heap.size, 0, none⟩ 1 1 (str q) rfl rfl (news_new wr (str q) 9) (str_one q) ⟨HZ.out, by omega⟩ ?_; intro v' w1 o1 k1 p1; have O1 := hid o1; have K1 := hid k1; have P1 := hid p1; clear o1 k1 p1)
        go_roundg (l.length - (i + 1))
        case rel =>
          obtain ⟨l1, b1⟩ := append_low HI.out.1 HI.out.2.2 K1.out P1.out
          refine ⟨i + 1, rfl, by omega, by have := HL.out; simp; unfold wrap64; omega, l1, ?_, b1⟩
          rw [HTK.out, HS.out, qn, if_neg (by simp), List.length_append, flat_snoc]
          exact O1.out
        case measure => have := HGK.out; omega
      · have qn2 : (q.toList != p.toList) = false := by rw [bne, qn]; rfl
        go_wp2_with fail
        go_roundg (l.length - (i + 1))
        case rel =>
          refine ⟨i + 1, rfl, by omega, by have := HL.out; simp; unfold wrap64; omega, HI.out.1, ?_, HI.out.2.2⟩
          rw [HTK.out, HS.out, qn]
          exact HI.out.2.1
        case measure => have := HGK.out; omega
    · have q3 : decide ((i : Int) < (l.length : Int)) = false := by simp; omega
      have HTK : Hid (l.take i = l) := List.take_of_length_le (by omega)
      obtain ⟨a10, cap10, hv10, _, _⟩ := ownsRow_view HI.out.2.1
      subst hv10
      go_wp2_with fail
      go_ret
      have hI := HI.out
      rw [HTK.out] at hI
      exact ⟨_, by rw [HTK.out]; rfl, hI.1, hI.2.1, hI.2.2⟩
end Go.Proofs.YtphapknfkbgapaaGreatDoor
