import Derived.Test.YtnjkpghchgjbaaaGreatDoorRelEToLawH
namespace Go.Proofs.YtnjkpghchgjbaaaGreatDoor
open Go.RowKit

variable {w w' : World} {G : Nat → Prop} {bw bx br : Nat} {X X' : PS} {Y Y' : RS} {outs : List LOut}
theorem J.drew (h : J w G bw bx br X Y outs) : J w.drew G bw bx br X Y outs := h.low (Low.refl _ w).drew
theorem J.g0 (h : J w G bw bx br X Y outs) : G 0 := by
  obtain ⟨Fx, Fr, Fw, H, h⟩ := h
  exact h.g0
theorem keptG {M : Nat} {V y1 y2 : World} (k : Kept (fun q => ¬ G q) w V) (k1 : Kept (fun q => ¬ (G q ∨ q = M)) V.drew y1) (k2 : Kept (fun q => ¬ (G q ∨ q = M)) y1.drew y2) : Kept (fun q => ¬ G q) w y2 :=
  (k.trans k1.of_drew (H := fun q => ¬ G q) (fun _ f => f) (fun _ _ f g => f (Or.inl g))).trans k2.of_drew (fun _ f => f) (fun _ _ f g => f (Or.inl g))
def actL (k s n q : Int) (p t : ByteArray) (on : Bool) : List Value := [.int .i64 k, .int .i64 s, .int .i64 n, .int .i64 q, .string p, .string t, .bool on]
set_option maxRecDepth 100000 in
set_option maxHeartbeats 1000000 in
theorem serve1 (w : World) (s n q : Int) (p t : ByteArray) (on : Bool) (v : Int) (h : J w G bw bx br X Y outs) (hp : PUni 22 [.int .i64 s] X (.int .i64 v) X') (hr : RUni 23 [.int .i64 s] Y (.int .i64 v) Y') :
    Calls Tryz.prog 15 #[.pointer (some ⟨bw, 0, none⟩), .agg #[.int .i64 1, .int .i64 s, .int .i64 n, .int .i64 q, .string p, .string t, .bool on]] w fun e w' => e = .returned (.bool true) ∧ J w' G bw bx br X' Y' outs ∧ Kept (fun k => ¬ G k) w w' := by
  have HJ := hid h
  have HP := hid hp
  have HR := hid hr
  clear h hp hr
  go_enter Tryz.func15, Tryz.ntmps15
  go_upto_region 9 with fail
  go_name_world V hV
  have JV : Hid (J V (fun k => G k ∨ k = w.heap.size) bw bx br X Y outs) := by
    show J V _ bw bx br X Y outs
    rw [← hV]; exact HJ.out.box _
  have KV : Hid (Kept (fun k => ¬ G k) w V) := by
    show Kept _ w V
    rw [← hV]; exact ((Low.refl _ w).alloc (Nat.le_refl _) _).keptF _
  have BV : Blk V w.heap.size 32 (actL 1 s n q p t on) := by rw [← hV]; exact Blk.new w 32 (actL 1 s n q p t on)
  obtain ⟨c0, c1, lb⟩ := JV.out.ptrs
  have m1 : V.cell? ⟨w.heap.size, 1, none⟩ = some (.int .i64 s) := BV.cell 1
  clear hV BV
  go_region_held3 (fun W' => W'.cell? ⟨bw, 0, none⟩ = some (.pointer (some ⟨bx, 0, none⟩)) ∧ W'.cell? ⟨w.heap.size, 1, none⟩ = some (.int .i64 s)) (first | assumption | go_keep)
    (first | (go_at_call 22; refine (JV.out.drew.callX HP.out).mono ?_; rintro e y1 ⟨rfl, j1, k1⟩; have S1 : y1.cell? ⟨bw, 0, none⟩ = some (.pointer (some ⟨bx, 0, none⟩)) ∧ y1.cell? ⟨w.heap.size, 1, none⟩ = some (.int .i64 s) := ⟨j1.ptrs.1, k1.cell m1 (fun f => f (Or.inr rfl))⟩; have J1 := hid j1; have K1 := hid k1; clear j1 k1))
  have d1 : y1.cell? ⟨bw, 1, none⟩ = some (.pointer (some ⟨br, 0, none⟩)) := J1.out.ptrs.2.1
  have n1 : y1.cell? ⟨w.heap.size, 1, none⟩ = some (.int .i64 s) := S1.2
  have lb1 : bw < y1.heap.size := J1.out.ptrs.2.2
  clear S1 c0 c1 m1 lb
  go_upto_region 10 with fail
  go_region_held3 (fun W' => W'.cell? ⟨bw, 1, none⟩ = some (.pointer (some ⟨br, 0, none⟩)) ∧ W'.cell? ⟨w.heap.size, 1, none⟩ = some (.int .i64 s)) (first | assumption | go_keep)
    (first | (go_at_call 23; refine (J1.out.drew.callR HR.out).mono ?_; rintro e y2 ⟨rfl, j2, k2⟩; have S2 : y2.cell? ⟨bw, 1, none⟩ = some (.pointer (some ⟨br, 0, none⟩)) ∧ y2.cell? ⟨w.heap.size, 1, none⟩ = some (.int .i64 s) := ⟨j2.ptrs.2.1, k2.cell n1 (fun f => f (Or.inr rfl))⟩; have J2 := hid j2; have K2 := hid k2; clear j2 k2))
  clear S2
  go_wp2_with fail
  go_ret
  exact ⟨rfl, J2.out.weak (fun _ g => Or.inl g) HJ.out.g0, keptG KV.out K1.out K2.out⟩
set_option maxRecDepth 100000 in
set_option maxHeartbeats 1000000 in
theorem serve2 (w : World) (s n q : Int) (p t : ByteArray) (on : Bool) (v : Int) (h : J w G bw bx br X Y outs) (hp : PUni 24 [.int .i64 s] X (.int .i64 v) X') (hr : RUni 25 [.int .i64 s] Y (.int .i64 v) Y') :
    Calls Tryz.prog 15 #[.pointer (some ⟨bw, 0, none⟩), .agg #[.int .i64 2, .int .i64 s, .int .i64 n, .int .i64 q, .string p, .string t, .bool on]] w fun e w' => e = .returned (.bool true) ∧ J w' G bw bx br X' Y' outs ∧ Kept (fun k => ¬ G k) w w' := by
  have HJ := hid h
  have HP := hid hp
  have HR := hid hr
  clear h hp hr
  go_enter Tryz.func15, Tryz.ntmps15
  go_upto_region 12 with fail
  go_name_world V hV
  have JV : Hid (J V (fun k => G k ∨ k = w.heap.size) bw bx br X Y outs) := by
    show J V _ bw bx br X Y outs
    rw [← hV]; exact HJ.out.box _
  have KV : Hid (Kept (fun k => ¬ G k) w V) := by
    show Kept _ w V
    rw [← hV]; exact ((Low.refl _ w).alloc (Nat.le_refl _) _).keptF _
  have BV : Blk V w.heap.size 32 (actL 2 s n q p t on) := by rw [← hV]; exact Blk.new w 32 (actL 2 s n q p t on)
  obtain ⟨c0, c1, lb⟩ := JV.out.ptrs
  have m1 : V.cell? ⟨w.heap.size, 1, none⟩ = some (.int .i64 s) := BV.cell 1
  clear hV BV
  go_region_held3 (fun W' => W'.cell? ⟨bw, 0, none⟩ = some (.pointer (some ⟨bx, 0, none⟩)) ∧ W'.cell? ⟨w.heap.size, 1, none⟩ = some (.int .i64 s)) (first | assumption | go_keep)
    (first | (go_at_call 24; refine (JV.out.drew.callX HP.out).mono ?_; rintro e y1 ⟨rfl, j1, k1⟩; have S1 : y1.cell? ⟨bw, 0, none⟩ = some (.pointer (some ⟨bx, 0, none⟩)) ∧ y1.cell? ⟨w.heap.size, 1, none⟩ = some (.int .i64 s) := ⟨j1.ptrs.1, k1.cell m1 (fun f => f (Or.inr rfl))⟩; have J1 := hid j1; have K1 := hid k1; clear j1 k1))
  have d1 : y1.cell? ⟨bw, 1, none⟩ = some (.pointer (some ⟨br, 0, none⟩)) := J1.out.ptrs.2.1
  have n1 : y1.cell? ⟨w.heap.size, 1, none⟩ = some (.int .i64 s) := S1.2
  have lb1 : bw < y1.heap.size := J1.out.ptrs.2.2
  clear S1 c0 c1 m1 lb
  go_upto_region 13 with fail
  go_region_held3 (fun W' => W'.cell? ⟨bw, 1, none⟩ = some (.pointer (some ⟨br, 0, none⟩)) ∧ W'.cell? ⟨w.heap.size, 1, none⟩ = some (.int .i64 s)) (first | assumption | go_keep)
    (first | (go_at_call 25; refine (J1.out.drew.callR HR.out).mono ?_; rintro e y2 ⟨rfl, j2, k2⟩; have S2 : y2.cell? ⟨bw, 1, none⟩ = some (.pointer (some ⟨br, 0, none⟩)) ∧ y2.cell? ⟨w.heap.size, 1, none⟩ = some (.int .i64 s) := ⟨j2.ptrs.2.1, k2.cell n1 (fun f => f (Or.inr rfl))⟩; have J2 := hid j2; have K2 := hid k2; clear j2 k2))
  clear S2
  go_wp2_with fail
  go_ret
  exact ⟨rfl, J2.out.weak (fun _ g => Or.inl g) HJ.out.g0, keptG KV.out K1.out K2.out⟩
set_option maxRecDepth 100000 in
set_option maxHeartbeats 1000000 in
theorem serve4 (w : World) (s n q : Int) (p t : ByteArray) (on : Bool) (v e : Int) (h : J w G bw bx br X Y outs) (hp : PUni 28 [.int .i64 s] X (.tuple #[.int .i64 v, .int .i64 e]) X') (hr : RUni 29 [.int .i64 s] Y (.tuple #[.int .i64 v, .int .i64 e]) Y') :
    Calls Tryz.prog 15 #[.pointer (some ⟨bw, 0, none⟩), .agg #[.int .i64 4, .int .i64 s, .int .i64 n, .int .i64 q, .string p, .string t, .bool on]] w fun e w' => e = .returned (.bool true) ∧ J w' G bw bx br X' Y' outs ∧ Kept (fun k => ¬ G k) w w' := by
  have HJ := hid h
  have HP := hid hp
  have HR := hid hr
  clear h hp hr
  go_enter Tryz.func15, Tryz.ntmps15
  go_upto_region 19 with fail
  go_name_world V hV
  have JV : Hid (J V (fun k => G k ∨ k = w.heap.size) bw bx br X Y outs) := by
    show J V _ bw bx br X Y outs
    rw [← hV]; exact HJ.out.box _
  have KV : Hid (Kept (fun k => ¬ G k) w V) := by
    show Kept _ w V
    rw [← hV]; exact ((Low.refl _ w).alloc (Nat.le_refl _) _).keptF _
  have BV : Blk V w.heap.size 32 (actL 4 s n q p t on) := by rw [← hV]; exact Blk.new w 32 (actL 4 s n q p t on)
  obtain ⟨c0, c1, lb⟩ := JV.out.ptrs
  have m1 : V.cell? ⟨w.heap.size, 1, none⟩ = some (.int .i64 s) := BV.cell 1
  clear hV BV
  go_region_held3 (fun W' => W'.cell? ⟨bw, 0, none⟩ = some (.pointer (some ⟨bx, 0, none⟩)) ∧ W'.cell? ⟨w.heap.size, 1, none⟩ = some (.int .i64 s)) (first | assumption | go_keep)
    (first | (go_at_call 28; refine (JV.out.drew.callX HP.out).mono ?_; rintro e y1 ⟨rfl, j1, k1⟩; have S1 : y1.cell? ⟨bw, 0, none⟩ = some (.pointer (some ⟨bx, 0, none⟩)) ∧ y1.cell? ⟨w.heap.size, 1, none⟩ = some (.int .i64 s) := ⟨j1.ptrs.1, k1.cell m1 (fun f => f (Or.inr rfl))⟩; have J1 := hid j1; have K1 := hid k1; clear j1 k1))
  have d1 : y1.cell? ⟨bw, 1, none⟩ = some (.pointer (some ⟨br, 0, none⟩)) := J1.out.ptrs.2.1
  have n1 : y1.cell? ⟨w.heap.size, 1, none⟩ = some (.int .i64 s) := S1.2
  have lb1 : bw < y1.heap.size := J1.out.ptrs.2.2
  clear S1 c0 c1 m1 lb
  go_upto_region 20 with fail
  go_region_held3 (fun W' => W'.cell? ⟨bw, 1, none⟩ = some (.pointer (some ⟨br, 0, none⟩)) ∧ W'.cell? ⟨w.heap.size, 1, none⟩ = some (.int .i64 s)) (first | assumption | go_keep)
    (first | (go_at_call 29; refine (J1.out.drew.callR HR.out).mono ?_; rintro e y2 ⟨rfl, j2, k2⟩; have S2 : y2.cell? ⟨bw, 1, none⟩ = some (.pointer (some ⟨br, 0, none⟩)) ∧ y2.cell? ⟨w.heap.size, 1, none⟩ = some (.int .i64 s) := ⟨j2.ptrs.2.1, k2.cell n1 (fun f => f (Or.inr rfl))⟩; have J2 := hid j2; have K2 := hid k2; clear j2 k2))
  clear S2
  go_wp2_with fail
  go_ret
  exact ⟨rfl, J2.out.weak (fun _ g => Or.inl g) HJ.out.g0, keptG KV.out K1.out K2.out⟩
set_option maxRecDepth 100000 in
set_option maxHeartbeats 1000000 in
theorem serve5 (w : World) (s n q : Int) (p t : ByteArray) (on : Bool) (A : ByteArray) (v e : Int) (h : J w G bw bx br X Y outs) (hp : PUni 30 [.int .i64 s, .string p] X (.tuple #[.string A, .int .i64 v, .int .i64 e]) X') (hr : RUni 31 [.int .i64 s, .string p] Y (.tuple #[.string A, .int .i64 v, .int .i64 e]) Y') :
    Calls Tryz.prog 15 #[.pointer (some ⟨bw, 0, none⟩), .agg #[.int .i64 5, .int .i64 s, .int .i64 n, .int .i64 q, .string p, .string t, .bool on]] w fun e w' => e = .returned (.bool true) ∧ J w' G bw bx br X' Y' outs ∧ Kept (fun k => ¬ G k) w w' := by
  have HJ := hid h
  have HP := hid hp
  have HR := hid hr
  have qA : (A.toList == A.toList) = true := beq_self_eq_true _
  clear h hp hr
  go_enter Tryz.func15, Tryz.ntmps15
  go_upto_region 22 with fail
  go_name_world V hV
  have JV : Hid (J V (fun k => G k ∨ k = w.heap.size) bw bx br X Y outs) := by
    show J V _ bw bx br X Y outs
    rw [← hV]; exact HJ.out.box _
  have KV : Hid (Kept (fun k => ¬ G k) w V) := by
    show Kept _ w V
    rw [← hV]; exact ((Low.refl _ w).alloc (Nat.le_refl _) _).keptF _
  have BV : Blk V w.heap.size 32 (actL 5 s n q p t on) := by rw [← hV]; exact Blk.new w 32 (actL 5 s n q p t on)
  obtain ⟨c0, c1, lb⟩ := JV.out.ptrs
  have m1 : V.cell? ⟨w.heap.size, 1, none⟩ = some (.int .i64 s) := BV.cell 1
  have m4 : V.cell? ⟨w.heap.size, 4, none⟩ = some (.string p) := BV.cell 4
  clear hV BV
  go_region_held3 (fun W' => W'.cell? ⟨bw, 0, none⟩ = some (.pointer (some ⟨bx, 0, none⟩)) ∧ W'.cell? ⟨w.heap.size, 1, none⟩ = some (.int .i64 s) ∧ W'.cell? ⟨w.heap.size, 4, none⟩ = some (.string p)) (first | assumption | go_keep)
    (first | (go_at_call 30; refine (JV.out.drew.callX HP.out).mono ?_; rintro e y1 ⟨rfl, j1, k1⟩; have S1 : y1.cell? ⟨bw, 0, none⟩ = some (.pointer (some ⟨bx, 0, none⟩)) ∧ y1.cell? ⟨w.heap.size, 1, none⟩ = some (.int .i64 s) ∧ y1.cell? ⟨w.heap.size, 4, none⟩ = some (.string p) := ⟨j1.ptrs.1, k1.cell m1 (fun f => f (Or.inr rfl)), k1.cell m4 (fun f => f (Or.inr rfl))⟩; have J1 := hid j1; have K1 := hid k1; clear j1 k1))
  have d1 : y1.cell? ⟨bw, 1, none⟩ = some (.pointer (some ⟨br, 0, none⟩)) := J1.out.ptrs.2.1
  have n1 : y1.cell? ⟨w.heap.size, 1, none⟩ = some (.int .i64 s) := S1.2.1
  have n4 : y1.cell? ⟨w.heap.size, 4, none⟩ = some (.string p) := S1.2.2
  have lb1 : bw < y1.heap.size := J1.out.ptrs.2.2
  clear S1 c0 c1 m1 m4 lb
  go_upto_region 23 with fail
  go_region_held3 (fun W' => W'.cell? ⟨bw, 1, none⟩ = some (.pointer (some ⟨br, 0, none⟩)) ∧ W'.cell? ⟨w.heap.size, 1, none⟩ = some (.int .i64 s) ∧ W'.cell? ⟨w.heap.size, 4, none⟩ = some (.string p)) (first | assumption | go_keep)
    (first | (go_at_call 31; refine (J1.out.drew.callR HR.out).mono ?_; rintro e y2 ⟨rfl, j2, k2⟩; have S2 : y2.cell? ⟨bw, 1, none⟩ = some (.pointer (some ⟨br, 0, none⟩)) ∧ y2.cell? ⟨w.heap.size, 1, none⟩ = some (.int .i64 s) ∧ y2.cell? ⟨w.heap.size, 4, none⟩ = some (.string p) := ⟨j2.ptrs.2.1, k2.cell n1 (fun f => f (Or.inr rfl)), k2.cell n4 (fun f => f (Or.inr rfl))⟩; have J2 := hid j2; have K2 := hid k2; clear j2 k2))
  clear S2
  go_wp2_with fail
  go_ret
  exact ⟨rfl, J2.out.weak (fun _ g => Or.inl g) HJ.out.g0, keptG KV.out K1.out K2.out⟩
set_option maxRecDepth 100000 in
set_option maxHeartbeats 1000000 in
theorem serve6 (w : World) (s n q : Int) (p t : ByteArray) (on : Bool) (A : ByteArray) (v e : Int) (h : J w G bw bx br X Y outs) (hp : PUni 32 [.int .i64 s, .string p, .int .i64 n] X (.tuple #[.string A, .int .i64 v, .int .i64 e]) X') (hr : RUni 33 [.int .i64 s, .string p, .int .i64 n] Y (.tuple #[.string A, .int .i64 v, .int .i64 e]) Y') :
    Calls Tryz.prog 15 #[.pointer (some ⟨bw, 0, none⟩), .agg #[.int .i64 6, .int .i64 s, .int .i64 n, .int .i64 q, .string p, .string t, .bool on]] w fun e w' => e = .returned (.bool true) ∧ J w' G bw bx br X' Y' outs ∧ Kept (fun k => ¬ G k) w w' := by
  have HJ := hid h
  have HP := hid hp
  have HR := hid hr
  have qA : (A.toList == A.toList) = true := beq_self_eq_true _
  clear h hp hr
  go_enter Tryz.func15, Tryz.ntmps15
  go_upto_region 25 with fail
  go_name_world V hV
  have JV : Hid (J V (fun k => G k ∨ k = w.heap.size) bw bx br X Y outs) := by
    show J V _ bw bx br X Y outs
    rw [← hV]; exact HJ.out.box _
  have KV : Hid (Kept (fun k => ¬ G k) w V) := by
    show Kept _ w V
    rw [← hV]; exact ((Low.refl _ w).alloc (Nat.le_refl _) _).keptF _
  have BV : Blk V w.heap.size 32 (actL 6 s n q p t on) := by rw [← hV]; exact Blk.new w 32 (actL 6 s n q p t on)
  obtain ⟨c0, c1, lb⟩ := JV.out.ptrs
  have m1 : V.cell? ⟨w.heap.size, 1, none⟩ = some (.int .i64 s) := BV.cell 1
  have m2 : V.cell? ⟨w.heap.size, 2, none⟩ = some (.int .i64 n) := BV.cell 2
  have m4 : V.cell? ⟨w.heap.size, 4, none⟩ = some (.string p) := BV.cell 4
  clear hV BV
  go_region_held3 (fun W' => W'.cell? ⟨bw, 0, none⟩ = some (.pointer (some ⟨bx, 0, none⟩)) ∧ W'.cell? ⟨w.heap.size, 1, none⟩ = some (.int .i64 s) ∧ W'.cell? ⟨w.heap.size, 2, none⟩ = some (.int .i64 n) ∧ W'.cell? ⟨w.heap.size, 4, none⟩ = some (.string p)) (first | assumption | go_keep)
    (first | (go_at_call 32; refine (JV.out.drew.callX HP.out).mono ?_; rintro e y1 ⟨rfl, j1, k1⟩; have S1 : y1.cell? ⟨bw, 0, none⟩ = some (.pointer (some ⟨bx, 0, none⟩)) ∧ y1.cell? ⟨w.heap.size, 1, none⟩ = some (.int .i64 s) ∧ y1.cell? ⟨w.heap.size, 2, none⟩ = some (.int .i64 n) ∧ y1.cell? ⟨w.heap.size, 4, none⟩ = some (.string p) := ⟨j1.ptrs.1, k1.cell m1 (fun f => f (Or.inr rfl)), k1.cell m2 (fun f => f (Or.inr rfl)), k1.cell m4 (fun f => f (Or.inr rfl))⟩; have J1 := hid j1; have K1 := hid k1; clear j1 k1))
  have d1 : y1.cell? ⟨bw, 1, none⟩ = some (.pointer (some ⟨br, 0, none⟩)) := J1.out.ptrs.2.1
  have n1 : y1.cell? ⟨w.heap.size, 1, none⟩ = some (.int .i64 s) := S1.2.1
  have n2 : y1.cell? ⟨w.heap.size, 2, none⟩ = some (.int .i64 n) := S1.2.2.1
  have n4 : y1.cell? ⟨w.heap.size, 4, none⟩ = some (.string p) := S1.2.2.2
  have lb1 : bw < y1.heap.size := J1.out.ptrs.2.2
  clear S1 c0 c1 m1 m2 m4 lb
  go_upto_region 26 with fail
  go_region_held3 (fun W' => W'.cell? ⟨bw, 1, none⟩ = some (.pointer (some ⟨br, 0, none⟩)) ∧ W'.cell? ⟨w.heap.size, 1, none⟩ = some (.int .i64 s) ∧ W'.cell? ⟨w.heap.size, 2, none⟩ = some (.int .i64 n) ∧ W'.cell? ⟨w.heap.size, 4, none⟩ = some (.string p)) (first | assumption | go_keep)
    (first | (go_at_call 33; refine (J1.out.drew.callR HR.out).mono ?_; rintro e y2 ⟨rfl, j2, k2⟩; have S2 : y2.cell? ⟨bw, 1, none⟩ = some (.pointer (some ⟨br, 0, none⟩)) ∧ y2.cell? ⟨w.heap.size, 1, none⟩ = some (.int .i64 s) ∧ y2.cell? ⟨w.heap.size, 2, none⟩ = some (.int .i64 n) ∧ y2.cell? ⟨w.heap.size, 4, none⟩ = some (.string p) := ⟨j2.ptrs.2.1, k2.cell n1 (fun f => f (Or.inr rfl)), k2.cell n2 (fun f => f (Or.inr rfl)), k2.cell n4 (fun f => f (Or.inr rfl))⟩; have J2 := hid j2; have K2 := hid k2; clear j2 k2))
  clear S2
  go_wp2_with fail
  go_ret
  exact ⟨rfl, J2.out.weak (fun _ g => Or.inl g) HJ.out.g0, keptG KV.out K1.out K2.out⟩
set_option maxRecDepth 100000 in
set_option maxHeartbeats 1000000 in
theorem keys7 (w : World) (s n q : Int) (p t : ByteArray) (on : Bool) (v : Int) (h : J w G bw bx br X Y outs) (hp : PUni 36 [.int .i64 n] X (.int .i64 v) X') (hr : RUni 37 [.int .i64 n] Y (.int .i64 v) Y') :
    Calls Tryz.prog 16 #[.pointer (some ⟨bw, 0, none⟩), .agg #[.int .i64 7, .int .i64 s, .int .i64 n, .int .i64 q, .string p, .string t, .bool on]] w fun e w' => e = .returned (.bool true) ∧ J w' G bw bx br X' Y' outs ∧ Kept (fun k => ¬ G k) w w' := by
  have HJ := hid h
  have HP := hid hp
  have HR := hid hr
  clear h hp hr
  go_enter Tryz.func16, Tryz.ntmps16
  go_upto_region 7 with fail
  go_name_world V hV
  have JV : Hid (J V (fun k => G k ∨ k = w.heap.size) bw bx br X Y outs) := by
    show J V _ bw bx br X Y outs
    rw [← hV]; exact HJ.out.box _
  have KV : Hid (Kept (fun k => ¬ G k) w V) := by
    show Kept _ w V
    rw [← hV]; exact ((Low.refl _ w).alloc (Nat.le_refl _) _).keptF _
  have BV : Blk V w.heap.size 32 (actL 7 s n q p t on) := by rw [← hV]; exact Blk.new w 32 (actL 7 s n q p t on)
  obtain ⟨c0, c1, lb⟩ := JV.out.ptrs
  have m2 : V.cell? ⟨w.heap.size, 2, none⟩ = some (.int .i64 n) := BV.cell 2
  clear hV BV
  go_region_held3 (fun W' => W'.cell? ⟨bw, 0, none⟩ = some (.pointer (some ⟨bx, 0, none⟩)) ∧ W'.cell? ⟨w.heap.size, 2, none⟩ = some (.int .i64 n)) (first | assumption | go_keep)
    (first | (go_at_call 36; refine (JV.out.drew.callX HP.out).mono ?_; rintro e y1 ⟨rfl, j1, k1⟩; have S1 : y1.cell? ⟨bw, 0, none⟩ = some (.pointer (some ⟨bx, 0, none⟩)) ∧ y1.cell? ⟨w.heap.size, 2, none⟩ = some (.int .i64 n) := ⟨j1.ptrs.1, k1.cell m2 (fun f => f (Or.inr rfl))⟩; have J1 := hid j1; have K1 := hid k1; clear j1 k1))
  have d1 : y1.cell? ⟨bw, 1, none⟩ = some (.pointer (some ⟨br, 0, none⟩)) := J1.out.ptrs.2.1
  have n2 : y1.cell? ⟨w.heap.size, 2, none⟩ = some (.int .i64 n) := S1.2
  have lb1 : bw < y1.heap.size := J1.out.ptrs.2.2
  clear S1 c0 c1 m2 lb
  go_upto_region 8 with fail
  go_region_held3 (fun W' => W'.cell? ⟨bw, 1, none⟩ = some (.pointer (some ⟨br, 0, none⟩)) ∧ W'.cell? ⟨w.heap.size, 2, none⟩ = some (.int .i64 n)) (first | assumption | go_keep)
    (first | (go_at_call 37; refine (J1.out.drew.callR HR.out).mono ?_; rintro e y2 ⟨rfl, j2, k2⟩; have S2 : y2.cell? ⟨bw, 1, none⟩ = some (.pointer (some ⟨br, 0, none⟩)) ∧ y2.cell? ⟨w.heap.size, 2, none⟩ = some (.int .i64 n) := ⟨j2.ptrs.2.1, k2.cell n2 (fun f => f (Or.inr rfl))⟩; have J2 := hid j2; have K2 := hid k2; clear j2 k2))
  clear S2
  go_wp2_with fail
  go_ret
  exact ⟨rfl, J2.out.weak (fun _ g => Or.inl g) HJ.out.g0, keptG KV.out K1.out K2.out⟩
end Go.Proofs.YtnjkpghchgjbaaaGreatDoor
