import Derived.Test.YtphapknfkbgapaaGreatDoorRelEToLawK
import Derived.Test.YtphapknfkbgapaaGreatDoorLawLToLawN
namespace Go.Proofs.YtphapknfkbgapaaGreatDoor
open Go.RowKit

/-! keys, of the acts that turn the key. -/

variable {w w' : World} {G : Nat → Prop} {bw bx br : Nat} {X X' : PS} {Y Y' : RS} {outs : List LOut}
set_option maxRecDepth 100000 in
set_option maxHeartbeats 1000000 in
theorem keys8 (w : World) (s n q : Int) (p t : ByteArray) (on : Bool) (v e : Int) (h : J w G bw bx br X Y outs) (hp : PUni 39 [.string t] X (.tuple #[.int .i64 v, .int .i64 e]) X') (hr : RUni 40 [.string t] Y (.tuple #[.int .i64 v, .int .i64 e]) Y') :
    Calls Tryz.prog 16 #[.pointer (some ⟨bw, 0, none⟩), .agg #[.int .i64 8, .int .i64 s, .int .i64 n, .int .i64 q, .string p, .string t, .bool on]] w fun e w' => e = .returned (.bool true) ∧ J w' G bw bx br X' Y' outs ∧ Kept (fun k => ¬ G k) w w' := by
  have HJ := hid h
  have HP := hid hp
  have HR := hid hr
  clear h hp hr
  go_enter Tryz.func16, Tryz.ntmps16
  go_upto_region 10 with fail
  go_name_world V hV
  have JV : Hid (J V (fun k => G k ∨ k = w.heap.size) bw bx br X Y outs) := by
    show J V _ bw bx br X Y outs
    rw [← hV]; exact HJ.out.box _
  have KV : Hid (Kept (fun k => ¬ G k) w V) := by
    show Kept _ w V
    rw [← hV]; exact ((Low.refl _ w).alloc (Nat.le_refl _) _).keptF _
  have BV : Blk V w.heap.size 32 (actL 8 s n q p t on) := by rw [← hV]; exact Blk.new w 32 (actL 8 s n q p t on)
  obtain ⟨c0, c1, lb⟩ := JV.out.ptrs
  have m5 : V.cell? ⟨w.heap.size, 5, none⟩ = some (.string t) := BV.cell 5
  clear hV BV
  go_region_held3 (fun W' => W'.cell? ⟨bw, 0, none⟩ = some (.pointer (some ⟨bx, 0, none⟩)) ∧ W'.cell? ⟨w.heap.size, 5, none⟩ = some (.string t)) (first | assumption | go_keep)
    (first | (go_at_call 39; refine (JV.out.drew.callX HP.out).mono ?_; rintro e y1 ⟨rfl, j1, k1⟩; have S1 : y1.cell? ⟨bw, 0, none⟩ = some (.pointer (some ⟨bx, 0, none⟩)) ∧ y1.cell? ⟨w.heap.size, 5, none⟩ = some (.string t) := ⟨j1.ptrs.1, k1.cell m5 (fun f => f (Or.inr rfl))⟩; have J1 := hid j1; have K1 := hid k1; clear j1 k1))
  have d1 : y1.cell? ⟨bw, 1, none⟩ = some (.pointer (some ⟨br, 0, none⟩)) := J1.out.ptrs.2.1
  have n5 : y1.cell? ⟨w.heap.size, 5, none⟩ = some (.string t) := S1.2
  have lb1 : bw < y1.heap.size := J1.out.ptrs.2.2
  clear S1 c0 c1 m5 lb
  go_upto_region 11 with fail
  go_region_held3 (fun W' => W'.cell? ⟨bw, 1, none⟩ = some (.pointer (some ⟨br, 0, none⟩)) ∧ W'.cell? ⟨w.heap.size, 5, none⟩ = some (.string t)) (first | assumption | go_keep)
    (first | (go_at_call 40; refine (J1.out.drew.callR HR.out).mono ?_; rintro e y2 ⟨rfl, j2, k2⟩; have S2 : y2.cell? ⟨bw, 1, none⟩ = some (.pointer (some ⟨br, 0, none⟩)) ∧ y2.cell? ⟨w.heap.size, 5, none⟩ = some (.string t) := ⟨j2.ptrs.2.1, k2.cell n5 (fun f => f (Or.inr rfl))⟩; have J2 := hid j2; have K2 := hid k2; clear j2 k2))
  clear S2
  go_wp2_with fail
  go_ret
  exact ⟨rfl, J2.out.weak (fun _ g => Or.inl g) HJ.out.g0, keptG KV.out K1.out K2.out⟩
set_option maxRecDepth 100000 in
set_option maxHeartbeats 1000000 in
theorem keys10 (w : World) (s n q : Int) (p t : ByteArray) (on : Bool) (v e : Int) (h : J w G bw bx br X Y outs) (hp : PUni 43 [.int .i64 n] X (.tuple #[.int .i64 v, .int .i64 e]) X') (hr : RUni 44 [.int .i64 n] Y (.tuple #[.int .i64 v, .int .i64 e]) Y') :
    Calls Tryz.prog 16 #[.pointer (some ⟨bw, 0, none⟩), .agg #[.int .i64 10, .int .i64 s, .int .i64 n, .int .i64 q, .string p, .string t, .bool on]] w fun e w' => e = .returned (.bool true) ∧ J w' G bw bx br X' Y' outs ∧ Kept (fun k => ¬ G k) w w' := by
  have HJ := hid h
  have HP := hid hp
  have HR := hid hr
  clear h hp hr
  go_enter Tryz.func16, Tryz.ntmps16
  go_upto_region 16 with fail
  go_name_world V hV
  have JV : Hid (J V (fun k => G k ∨ k = w.heap.size) bw bx br X Y outs) := by
    show J V _ bw bx br X Y outs
    rw [← hV]; exact HJ.out.box _
  have KV : Hid (Kept (fun k => ¬ G k) w V) := by
    show Kept _ w V
    rw [← hV]; exact ((Low.refl _ w).alloc (Nat.le_refl _) _).keptF _
  have BV : Blk V w.heap.size 32 (actL 10 s n q p t on) := by rw [← hV]; exact Blk.new w 32 (actL 10 s n q p t on)
  obtain ⟨c0, c1, lb⟩ := JV.out.ptrs
  have m2 : V.cell? ⟨w.heap.size, 2, none⟩ = some (.int .i64 n) := BV.cell 2
  clear hV BV
  go_region_held3 (fun W' => W'.cell? ⟨bw, 0, none⟩ = some (.pointer (some ⟨bx, 0, none⟩)) ∧ W'.cell? ⟨w.heap.size, 2, none⟩ = some (.int .i64 n)) (first | assumption | go_keep)
    (first | (go_at_call 43; refine (JV.out.drew.callX HP.out).mono ?_; rintro e y1 ⟨rfl, j1, k1⟩; have S1 : y1.cell? ⟨bw, 0, none⟩ = some (.pointer (some ⟨bx, 0, none⟩)) ∧ y1.cell? ⟨w.heap.size, 2, none⟩ = some (.int .i64 n) := ⟨j1.ptrs.1, k1.cell m2 (fun f => f (Or.inr rfl))⟩; have J1 := hid j1; have K1 := hid k1; clear j1 k1))
  have d1 : y1.cell? ⟨bw, 1, none⟩ = some (.pointer (some ⟨br, 0, none⟩)) := J1.out.ptrs.2.1
  have n2 : y1.cell? ⟨w.heap.size, 2, none⟩ = some (.int .i64 n) := S1.2
  have lb1 : bw < y1.heap.size := J1.out.ptrs.2.2
  clear S1 c0 c1 m2 lb
  go_upto_region 17 with fail
  go_region_held3 (fun W' => W'.cell? ⟨bw, 1, none⟩ = some (.pointer (some ⟨br, 0, none⟩)) ∧ W'.cell? ⟨w.heap.size, 2, none⟩ = some (.int .i64 n)) (first | assumption | go_keep)
    (first | (go_at_call 44; refine (J1.out.drew.callR HR.out).mono ?_; rintro e y2 ⟨rfl, j2, k2⟩; have S2 : y2.cell? ⟨bw, 1, none⟩ = some (.pointer (some ⟨br, 0, none⟩)) ∧ y2.cell? ⟨w.heap.size, 2, none⟩ = some (.int .i64 n) := ⟨j2.ptrs.2.1, k2.cell n2 (fun f => f (Or.inr rfl))⟩; have J2 := hid j2; have K2 := hid k2; clear j2 k2))
  clear S2
  go_wp2_with fail
  go_ret
  exact ⟨rfl, J2.out.weak (fun _ g => Or.inl g) HJ.out.g0, keptG KV.out K1.out K2.out⟩
set_option maxRecDepth 100000 in
set_option maxHeartbeats 1000000 in
theorem keys12 (w : World) (s n q : Int) (p t : ByteArray) (on : Bool) (v : Int) (h : J w G bw bx br X Y outs) (hp : PUni 47 [.int .i64 n] X (.int .i64 v) X') (hr : RUni 48 [.int .i64 n] Y (.int .i64 v) Y') :
    Calls Tryz.prog 16 #[.pointer (some ⟨bw, 0, none⟩), .agg #[.int .i64 12, .int .i64 s, .int .i64 n, .int .i64 q, .string p, .string t, .bool on]] w fun e w' => e = .returned (.bool true) ∧ J w' G bw bx br X' Y' outs ∧ Kept (fun k => ¬ G k) w w' := by
  have HJ := hid h
  have HP := hid hp
  have HR := hid hr
  clear h hp hr
  go_enter Tryz.func16, Tryz.ntmps16
  go_upto_region 22 with fail
  go_name_world V hV
  have JV : Hid (J V (fun k => G k ∨ k = w.heap.size) bw bx br X Y outs) := by
    show J V _ bw bx br X Y outs
    rw [← hV]; exact HJ.out.box _
  have KV : Hid (Kept (fun k => ¬ G k) w V) := by
    show Kept _ w V
    rw [← hV]; exact ((Low.refl _ w).alloc (Nat.le_refl _) _).keptF _
  have BV : Blk V w.heap.size 32 (actL 12 s n q p t on) := by rw [← hV]; exact Blk.new w 32 (actL 12 s n q p t on)
  obtain ⟨c0, c1, lb⟩ := JV.out.ptrs
  have m2 : V.cell? ⟨w.heap.size, 2, none⟩ = some (.int .i64 n) := BV.cell 2
  clear hV BV
  go_region_held3 (fun W' => W'.cell? ⟨bw, 0, none⟩ = some (.pointer (some ⟨bx, 0, none⟩)) ∧ W'.cell? ⟨w.heap.size, 2, none⟩ = some (.int .i64 n)) (first | assumption | go_keep)
    (first | (go_at_call 47; refine (JV.out.drew.callX HP.out).mono ?_; rintro e y1 ⟨rfl, j1, k1⟩; have S1 : y1.cell? ⟨bw, 0, none⟩ = some (.pointer (some ⟨bx, 0, none⟩)) ∧ y1.cell? ⟨w.heap.size, 2, none⟩ = some (.int .i64 n) := ⟨j1.ptrs.1, k1.cell m2 (fun f => f (Or.inr rfl))⟩; have J1 := hid j1; have K1 := hid k1; clear j1 k1))
  have d1 : y1.cell? ⟨bw, 1, none⟩ = some (.pointer (some ⟨br, 0, none⟩)) := J1.out.ptrs.2.1
  have n2 : y1.cell? ⟨w.heap.size, 2, none⟩ = some (.int .i64 n) := S1.2
  have lb1 : bw < y1.heap.size := J1.out.ptrs.2.2
  clear S1 c0 c1 m2 lb
  go_upto_region 23 with fail
  go_region_held3 (fun W' => W'.cell? ⟨bw, 1, none⟩ = some (.pointer (some ⟨br, 0, none⟩)) ∧ W'.cell? ⟨w.heap.size, 2, none⟩ = some (.int .i64 n)) (first | assumption | go_keep)
    (first | (go_at_call 48; refine (J1.out.drew.callR HR.out).mono ?_; rintro e y2 ⟨rfl, j2, k2⟩; have S2 : y2.cell? ⟨bw, 1, none⟩ = some (.pointer (some ⟨br, 0, none⟩)) ∧ y2.cell? ⟨w.heap.size, 2, none⟩ = some (.int .i64 n) := ⟨j2.ptrs.2.1, k2.cell n2 (fun f => f (Or.inr rfl))⟩; have J2 := hid j2; have K2 := hid k2; clear j2 k2))
  clear S2
  go_wp2_with fail
  go_ret
  exact ⟨rfl, J2.out.weak (fun _ g => Or.inl g) HJ.out.g0, keptG KV.out K1.out K2.out⟩
set_option maxRecDepth 100000 in
set_option maxHeartbeats 1000000 in
theorem keys9 (w : World) (s n q : Int) (p t : ByteArray) (on : Bool) (v : Int) (h : J w G bw bx br X Y outs) (hp : PUni 41 [] X (.int .i64 v) X') (hr : RUni 42 [] Y (.int .i64 v) Y') :
    Calls Tryz.prog 16 #[.pointer (some ⟨bw, 0, none⟩), .agg #[.int .i64 9, .int .i64 s, .int .i64 n, .int .i64 q, .string p, .string t, .bool on]] w fun e w' => e = .returned (.bool true) ∧ J w' G bw bx br X' Y' outs ∧ Kept (fun k => ¬ G k) w w' := by
  have HJ := hid h
  have HP := hid hp
  have HR := hid hr
  clear h hp hr
  have JV : Hid (J (w.alloc (.cells (actL 9 s n q p t on).toArray 32)) (fun k => G k ∨ k = w.heap.size) bw bx br X Y outs) := HJ.out.box _
  have KV : Hid (Kept (fun k => ¬ G k) w (w.alloc (.cells (actL 9 s n q p t on).toArray 32))) := ((Low.refl _ w).alloc (Nat.le_refl _) _).keptF _
  obtain ⟨c0, _, lb⟩ := HJ.out.ptrs
  go_enter Tryz.func16, Tryz.ntmps16
  go_wp2_with (first | (go_at_call 41; refine (JV.out.callX HP.out).mono ?_; rintro e y1 ⟨rfl, j1, k1⟩; have d1 : y1.cell? ⟨bw, 1, none⟩ = some (.pointer (some ⟨br, 0, none⟩)) := j1.ptrs.2.1; have J1 := hid j1; have K1 := hid k1; clear j1 k1) | (go_at_call 42; refine (J1.out.callR HR.out).mono ?_; rintro e y2 ⟨rfl, j2, k2⟩; have J2 := hid j2; have K2 := hid k2; clear j2 k2))
  go_ret
  exact ⟨rfl, J2.out.weak (fun _ g => Or.inl g) HJ.out.g0, (KV.out.trans K1.out (H := fun q => ¬ G q) (fun _ f => f) (fun _ _ f g => f (Or.inl g))).trans K2.out (fun _ f => f) (fun _ _ f g => f (Or.inl g))⟩
set_option maxRecDepth 100000 in
set_option maxHeartbeats 1000000 in
theorem keys11 (w : World) (s n q : Int) (p t : ByteArray) (on : Bool) (v : Int) (h : J w G bw bx br X Y outs) (hp : PUni 45 [] X (.int .i64 v) X') (hr : RUni 46 [] Y (.int .i64 v) Y') :
    Calls Tryz.prog 16 #[.pointer (some ⟨bw, 0, none⟩), .agg #[.int .i64 11, .int .i64 s, .int .i64 n, .int .i64 q, .string p, .string t, .bool on]] w fun e w' => e = .returned (.bool true) ∧ J w' G bw bx br X' Y' outs ∧ Kept (fun k => ¬ G k) w w' := by
  have HJ := hid h
  have HP := hid hp
  have HR := hid hr
  clear h hp hr
  have JV : Hid (J (w.alloc (.cells (actL 11 s n q p t on).toArray 32)) (fun k => G k ∨ k = w.heap.size) bw bx br X Y outs) := HJ.out.box _
  have KV : Hid (Kept (fun k => ¬ G k) w (w.alloc (.cells (actL 11 s n q p t on).toArray 32))) := ((Low.refl _ w).alloc (Nat.le_refl _) _).keptF _
  obtain ⟨c0, _, lb⟩ := HJ.out.ptrs
  go_enter Tryz.func16, Tryz.ntmps16
  go_wp2_with (first | (go_at_call 45; refine (JV.out.callX HP.out).mono ?_; rintro e y1 ⟨rfl, j1, k1⟩; have d1 : y1.cell? ⟨bw, 1, none⟩ = some (.pointer (some ⟨br, 0, none⟩)) := j1.ptrs.2.1; have J1 := hid j1; have K1 := hid k1; clear j1 k1) | (go_at_call 46; refine (J1.out.callR HR.out).mono ?_; rintro e y2 ⟨rfl, j2, k2⟩; have J2 := hid j2; have K2 := hid k2; clear j2 k2))
  go_ret
  exact ⟨rfl, J2.out.weak (fun _ g => Or.inl g) HJ.out.g0, (KV.out.trans K1.out (H := fun q => ¬ G q) (fun _ f => f) (fun _ _ f g => f (Or.inl g))).trans K2.out (fun _ f => f) (fun _ _ f g => f (Or.inl g))⟩
end Go.Proofs.YtphapknfkbgapaaGreatDoor
namespace Go.Proofs.YtphapknfkbgapaaGreatDoor
open Go.RowKit

/-! The law over any relation of the two coffers that every call keeps. -/

variable {R : Nat → PS → RS → Prop} {w w' : World} {G : Nat → Prop} {bw bx br : Nat} {X X' : PS} {Y Y' : RS} {outs : List LOut} {n : Nat}
def PairR (R : Nat → PS → RS → Prop) (fx fr : Nat) (args : List Value) (X : PS) (Y : RS) (n : Nat) (v : Value) : Prop := ∃ X' Y', PUni fx args X v X' ∧ RUni fr args Y v Y' ∧ R (n + 1) X' Y'
/-- Every call answers alike on both sides, and leaves them alike. -/
structure Sides (R : Nat → PS → RS → Prop) : Prop where
  refresh : ∀ (n : Nat) (X : PS) (Y : RS) (s : Int), n ≤ 2000000 → R n X Y → ∃ v : Int, PairR R 23 24 [.int .i64 s] X Y n (.int .i64 v)
  crash : ∀ (n : Nat) (X : PS) (Y : RS) (s : Int), n ≤ 2000000 → R n X Y → ∃ v : Int, PairR R 25 26 [.int .i64 s] X Y n (.int .i64 v)
  begins : ∀ (n : Nat) (X : PS) (Y : RS) (s q m : Int) (p t : ByteArray), n ≤ 2000000 → R n X Y → p.size ≤ maxLen → t.size ≤ maxLen → ∃ v : Int, PairR R 27 28 [.int .i64 s, .agg #[.int .i64 q, .string p, .string t, .int .i64 m]] X Y n (.int .i64 v)
  commit : ∀ (n : Nat) (X : PS) (Y : RS) (s : Int), n ≤ 2000000 → R n X Y → ∃ v e : Int, PairR R 29 30 [.int .i64 s] X Y n (.tuple #[.int .i64 v, .int .i64 e])
  get : ∀ (n : Nat) (X : PS) (Y : RS) (s : Int) (p : ByteArray), n ≤ 2000000 → R n X Y → ∃ (A : ByteArray) (v e : Int), PairR R 31 32 [.int .i64 s, .string p] X Y n (.tuple #[.string A, .int .i64 v, .int .i64 e])
  getAt : ∀ (n : Nat) (X : PS) (Y : RS) (s m : Int) (p : ByteArray), n ≤ 2000000 → R n X Y → ∃ (A : ByteArray) (v e : Int), PairR R 33 34 [.int .i64 s, .string p, .int .i64 m] X Y n (.tuple #[.string A, .int .i64 v, .int .i64 e])
  compact : ∀ (n : Nat) (X : PS) (Y : RS) (m : Int), n ≤ 2000000 → R n X Y → ∃ v : Int, PairR R 37 38 [.int .i64 m] X Y n (.int .i64 v)
  stage : ∀ (n : Nat) (X : PS) (Y : RS) (t : ByteArray), n ≤ 2000000 → R n X Y → t.size ≤ maxLen → ∃ v e : Int, PairR R 39 40 [.string t] X Y n (.tuple #[.int .i64 v, .int .i64 e])
  promote : ∀ (n : Nat) (X : PS) (Y : RS), n ≤ 2000000 → R n X Y → ∃ v : Int, PairR R 41 42 [] X Y n (.int .i64 v)
  migrate : ∀ (n : Nat) (X : PS) (Y : RS) (m : Int), n ≤ 2000000 → R n X Y → ∃ v e : Int, PairR R 43 44 [.int .i64 m] X Y n (.tuple #[.int .i64 v, .int .i64 e])
  gate : ∀ (n : Nat) (X : PS) (Y : RS), n ≤ 2000000 → R n X Y → ∃ v : Int, PairR R 45 46 [] X Y n (.int .i64 v)
  destroy : ∀ (n : Nat) (X : PS) (Y : RS) (m : Int), n ≤ 2000000 → R n X Y → ∃ v : Int, PairR R 47 48 [.int .i64 m] X Y n (.int .i64 v)
  state : ∀ (n : Nat) (X : PS) (Y : RS), R n X Y → Y.keys.length ≤ 6 ∧ (Y.all.length : Int) = X.rev ∧ Y.floor = X.floor ∧ Y.epoch = X.epoch ∧ writesOf Y.keys Y.epoch = X.write ∧ Y.turn = X.turn
  entries : ∀ (n : Nat) (X : PS) (Y : RS), n ≤ 2000000 → R n X Y → keptOf Y.all = X.entries ∧ X.entries.length ≤ 100 ∧ Y.all.length ≤ 100000000
  up : ∀ (n : Nat) (X : PS) (Y : RS), R n X Y → R (n + 1) X Y
def GoodR (R : Nat → PS → RS → Prop) (w : World) (G : Nat → Prop) (bw bx br : Nat) (n : Nat) : Prop := ∃ X Y outs, J w G bw bx br X Y outs ∧ R n X Y ∧ outs.length ≤ 4 * n
theorem GoodR.low (h : GoodR R w G bw bx br n) (k : Low w.heap.size w w') : GoodR R w' G bw bx br n := by
  obtain ⟨X, Y, outs, j, r⟩ := h
  exact ⟨X, Y, outs, j.low k, r⟩
theorem GoodR.weak (h : GoodR R w G bw bx br n) {G' : Nat → Prop} (hs : ∀ k, G' k → G k) (g0 : G' 0) : GoodR R w G' bw bx br n := by
  obtain ⟨X, Y, outs, j, r⟩ := h
  exact ⟨X, Y, outs, j.weak hs g0, r⟩
theorem GoodR.box (h : GoodR R w G bw bx br n) (ob : Obj) : GoodR R (w.alloc ob) (fun k => G k ∨ k = w.heap.size) bw bx br n := by
  obtain ⟨X, Y, outs, j, r⟩ := h
  exact ⟨X, Y, outs, j.box ob, r⟩
theorem GoodR.g0 (h : GoodR R w G bw bx br n) : G 0 := by
  obtain ⟨X, Y, outs, j, r⟩ := h
  exact j.g0
theorem GoodR.up (hS : Sides R) (h : GoodR R w G bw bx br n) : GoodR R w G bw bx br (n + 1) := by
  obtain ⟨X, Y, outs, j, r, o⟩ := h
  exact ⟨X, Y, outs, j, hS.up _ _ _ r, by omega⟩
theorem goodR_of {fx fr : Nat} {args : List Value} {v : Value} {g : Nat} {A : Array Value} (hb : outs.length ≤ 4 * n) (hp : PairR R fx fr args X Y n v)
    (h : ∀ X' Y', PUni fx args X v X' → RUni fr args Y v Y' → Calls Tryz.prog g A w fun e w' => e = .returned (.bool true) ∧ J w' G bw bx br X' Y' outs ∧ Kept (fun k => ¬ G k) w w') :
    Calls Tryz.prog g A w fun e w' => e = .returned (.bool true) ∧ GoodR R w' G bw bx br (n + 1) ∧ Kept (fun k => ¬ G k) w w' := by
  obtain ⟨X', Y', h1, h2, h3⟩ := hp
  exact (h X' Y' h1 h2).mono fun _ _ ⟨e, j, k⟩ => ⟨e, ⟨X', Y', outs, j, h3, by omega⟩, k⟩
theorem rserve1 (hS : Sides R) (w : World) (s m q : Int) (p t : ByteArray) (on : Bool) (h : GoodR R w G bw bx br n) (hn : n ≤ 2000000) :
    Calls Tryz.prog 15 #[.pointer (some ⟨bw, 0, none⟩), .agg #[.int .i64 1, .int .i64 s, .int .i64 m, .int .i64 q, .string p, .string t, .bool on]] w fun e w' => e = .returned (.bool true) ∧ GoodR R w' G bw bx br (n + 1) ∧ Kept (fun k => ¬ G k) w w' := by
  obtain ⟨X, Y, outs, j, r, o⟩ := h
  obtain ⟨v, hpr⟩ := hS.refresh n X Y s hn r
  exact goodR_of o hpr (fun X' Y' h1 h2 => serve1 w s m q p t on v j h1 h2)
theorem rserve2 (hS : Sides R) (w : World) (s m q : Int) (p t : ByteArray) (on : Bool) (h : GoodR R w G bw bx br n) (hn : n ≤ 2000000) :
    Calls Tryz.prog 15 #[.pointer (some ⟨bw, 0, none⟩), .agg #[.int .i64 2, .int .i64 s, .int .i64 m, .int .i64 q, .string p, .string t, .bool on]] w fun e w' => e = .returned (.bool true) ∧ GoodR R w' G bw bx br (n + 1) ∧ Kept (fun k => ¬ G k) w w' := by
  obtain ⟨X, Y, outs, j, r, o⟩ := h
  obtain ⟨v, hpr⟩ := hS.crash n X Y s hn r
  exact goodR_of o hpr (fun X' Y' h1 h2 => serve2 w s m q p t on v j h1 h2)
theorem rserve3 (hS : Sides R) (w : World) (s m q : Int) (p t : ByteArray) (on : Bool) (h : GoodR R w G bw bx br n) (hn : n ≤ 2000000) (hp : p.size ≤ maxLen) (hq : t.size ≤ maxLen) :
    Calls Tryz.prog 15 #[.pointer (some ⟨bw, 0, none⟩), .agg #[.int .i64 3, .int .i64 s, .int .i64 m, .int .i64 q, .string p, .string t, .bool on]] w fun e w' => e = .returned (.bool true) ∧ GoodR R w' G bw bx br (n + 1) ∧ Kept (fun k => ¬ G k) w w' := by
  obtain ⟨X, Y, outs, j, r, o⟩ := h
  obtain ⟨v, hpr⟩ := hS.begins n X Y s q m p t hn r hp hq
  exact goodR_of o hpr (fun X' Y' h1 h2 => serve3 w s m q p t on v j h1 h2)
theorem rserve4 (hS : Sides R) (w : World) (s m q : Int) (p t : ByteArray) (on : Bool) (h : GoodR R w G bw bx br n) (hn : n ≤ 2000000) :
    Calls Tryz.prog 15 #[.pointer (some ⟨bw, 0, none⟩), .agg #[.int .i64 4, .int .i64 s, .int .i64 m, .int .i64 q, .string p, .string t, .bool on]] w fun e w' => e = .returned (.bool true) ∧ GoodR R w' G bw bx br (n + 1) ∧ Kept (fun k => ¬ G k) w w' := by
  obtain ⟨X, Y, outs, j, r, o⟩ := h
  obtain ⟨v, e, hpr⟩ := hS.commit n X Y s hn r
  exact goodR_of o hpr (fun X' Y' h1 h2 => serve4 w s m q p t on v e j h1 h2)
theorem rserve5 (hS : Sides R) (w : World) (s m q : Int) (p t : ByteArray) (on : Bool) (h : GoodR R w G bw bx br n) (hn : n ≤ 2000000) :
    Calls Tryz.prog 15 #[.pointer (some ⟨bw, 0, none⟩), .agg #[.int .i64 5, .int .i64 s, .int .i64 m, .int .i64 q, .string p, .string t, .bool on]] w fun e w' => e = .returned (.bool true) ∧ GoodR R w' G bw bx br (n + 1) ∧ Kept (fun k => ¬ G k) w w' := by
  obtain ⟨X, Y, outs, j, r, o⟩ := h
  obtain ⟨A, v, e, hpr⟩ := hS.get n X Y s p hn r
  exact goodR_of o hpr (fun X' Y' h1 h2 => serve5 w s m q p t on A v e j h1 h2)
theorem rserve6 (hS : Sides R) (w : World) (s m q : Int) (p t : ByteArray) (on : Bool) (h : GoodR R w G bw bx br n) (hn : n ≤ 2000000) :
    Calls Tryz.prog 15 #[.pointer (some ⟨bw, 0, none⟩), .agg #[.int .i64 6, .int .i64 s, .int .i64 m, .int .i64 q, .string p, .string t, .bool on]] w fun e w' => e = .returned (.bool true) ∧ GoodR R w' G bw bx br (n + 1) ∧ Kept (fun k => ¬ G k) w w' := by
  obtain ⟨X, Y, outs, j, r, o⟩ := h
  obtain ⟨A, v, e, hpr⟩ := hS.getAt n X Y s m p hn r
  exact goodR_of o hpr (fun X' Y' h1 h2 => serve6 w s m q p t on A v e j h1 h2)
theorem rkeys7 (hS : Sides R) (w : World) (s m q : Int) (p t : ByteArray) (on : Bool) (h : GoodR R w G bw bx br n) (hn : n ≤ 2000000) :
    Calls Tryz.prog 16 #[.pointer (some ⟨bw, 0, none⟩), .agg #[.int .i64 7, .int .i64 s, .int .i64 m, .int .i64 q, .string p, .string t, .bool on]] w fun e w' => e = .returned (.bool true) ∧ GoodR R w' G bw bx br (n + 1) ∧ Kept (fun k => ¬ G k) w w' := by
  obtain ⟨X, Y, outs, j, r, o⟩ := h
  obtain ⟨v, hpr⟩ := hS.compact n X Y m hn r
  exact goodR_of o hpr (fun X' Y' h1 h2 => keys7 w s m q p t on v j h1 h2)
theorem rkeys8 (hS : Sides R) (w : World) (s m q : Int) (p t : ByteArray) (on : Bool) (h : GoodR R w G bw bx br n) (hn : n ≤ 2000000) (hq : t.size ≤ maxLen) :
    Calls Tryz.prog 16 #[.pointer (some ⟨bw, 0, none⟩), .agg #[.int .i64 8, .int .i64 s, .int .i64 m, .int .i64 q, .string p, .string t, .bool on]] w fun e w' => e = .returned (.bool true) ∧ GoodR R w' G bw bx br (n + 1) ∧ Kept (fun k => ¬ G k) w w' := by
  obtain ⟨X, Y, outs, j, r, o⟩ := h
  obtain ⟨v, e, hpr⟩ := hS.stage n X Y t hn r hq
  exact goodR_of o hpr (fun X' Y' h1 h2 => keys8 w s m q p t on v e j h1 h2)
theorem rkeys9 (hS : Sides R) (w : World) (s m q : Int) (p t : ByteArray) (on : Bool) (h : GoodR R w G bw bx br n) (hn : n ≤ 2000000) :
    Calls Tryz.prog 16 #[.pointer (some ⟨bw, 0, none⟩), .agg #[.int .i64 9, .int .i64 s, .int .i64 m, .int .i64 q, .string p, .string t, .bool on]] w fun e w' => e = .returned (.bool true) ∧ GoodR R w' G bw bx br (n + 1) ∧ Kept (fun k => ¬ G k) w w' := by
  obtain ⟨X, Y, outs, j, r, o⟩ := h
  obtain ⟨v, hpr⟩ := hS.promote n X Y hn r
  exact goodR_of o hpr (fun X' Y' h1 h2 => keys9 w s m q p t on v j h1 h2)
theorem rkeys10 (hS : Sides R) (w : World) (s m q : Int) (p t : ByteArray) (on : Bool) (h : GoodR R w G bw bx br n) (hn : n ≤ 2000000) :
    Calls Tryz.prog 16 #[.pointer (some ⟨bw, 0, none⟩), .agg #[.int .i64 10, .int .i64 s, .int .i64 m, .int .i64 q, .string p, .string t, .bool on]] w fun e w' => e = .returned (.bool true) ∧ GoodR R w' G bw bx br (n + 1) ∧ Kept (fun k => ¬ G k) w w' := by
  obtain ⟨X, Y, outs, j, r, o⟩ := h
  obtain ⟨v, e, hpr⟩ := hS.migrate n X Y m hn r
  exact goodR_of o hpr (fun X' Y' h1 h2 => keys10 w s m q p t on v e j h1 h2)
theorem rkeys11 (hS : Sides R) (w : World) (s m q : Int) (p t : ByteArray) (on : Bool) (h : GoodR R w G bw bx br n) (hn : n ≤ 2000000) :
    Calls Tryz.prog 16 #[.pointer (some ⟨bw, 0, none⟩), .agg #[.int .i64 11, .int .i64 s, .int .i64 m, .int .i64 q, .string p, .string t, .bool on]] w fun e w' => e = .returned (.bool true) ∧ GoodR R w' G bw bx br (n + 1) ∧ Kept (fun k => ¬ G k) w w' := by
  obtain ⟨X, Y, outs, j, r, o⟩ := h
  obtain ⟨v, hpr⟩ := hS.gate n X Y hn r
  exact goodR_of o hpr (fun X' Y' h1 h2 => keys11 w s m q p t on v j h1 h2)
theorem rkeys12 (hS : Sides R) (w : World) (s m q : Int) (p t : ByteArray) (on : Bool) (h : GoodR R w G bw bx br n) (hn : n ≤ 2000000) :
    Calls Tryz.prog 16 #[.pointer (some ⟨bw, 0, none⟩), .agg #[.int .i64 12, .int .i64 s, .int .i64 m, .int .i64 q, .string p, .string t, .bool on]] w fun e w' => e = .returned (.bool true) ∧ GoodR R w' G bw bx br (n + 1) ∧ Kept (fun k => ¬ G k) w w' := by
  obtain ⟨X, Y, outs, j, r, o⟩ := h
  obtain ⟨v, hpr⟩ := hS.destroy n X Y m hn r
  exact goodR_of o hpr (fun X' Y' h1 h2 => keys12 w s m q p t on v j h1 h2)
theorem rstate (hS : Sides R) (w : World) (h : GoodR R w G bw bx br n) :
    Calls Tryz.prog 18 #[.pointer (some ⟨bw, 0, none⟩)] w fun e w' => e = .returned (.bool true) ∧ GoodR R w' G bw bx br n ∧ Kept (fun k => ¬ G k) w w' := by
  obtain ⟨X, Y, outs, ⟨Fx, Fr, Fw, H, j⟩, r, o⟩ := h
  obtain ⟨a1, a2, a3, a4, a5, a6⟩ := hS.state _ _ _ r
  refine (lstate_any w j.x j.r j.o a1 a2 a3 a4 a5 a6).mono ?_
  rintro e w' ⟨rfl, l⟩
  exact ⟨rfl, GoodR.low ⟨X, Y, outs, ⟨Fx, Fr, Fw, H, j⟩, r, o⟩ l, l.keptF _⟩
theorem rlooks (w : World) (h : GoodR R w G bw bx br n) (hn : n ≤ 20000000) :
    Calls Tryz.prog 10 #[.pointer (some ⟨bw, 0, none⟩)] w fun e w' => e = .returned (.bool true) ∧ GoodR R w' G bw bx br n ∧ Kept (fun k => ¬ G k) w w' := by
  obtain ⟨X, Y, outs, ⟨Fx, Fr, Fw, H, j⟩, r, o⟩ := h
  refine (looks_any w Fw H bw bx br outs j.o j.ok (by omega)).mono ?_
  rintro e w' ⟨rfl, l⟩
  exact ⟨rfl, GoodR.low ⟨X, Y, outs, ⟨Fx, Fr, Fw, H, j⟩, r, o⟩ l, l.keptF _⟩
theorem rentries (hS : Sides R) (w : World) (h : GoodR R w G bw bx br n) (hn : n ≤ 2000000) :
    Calls Tryz.prog 19 #[.pointer (some ⟨bw, 0, none⟩)] w fun e w' => e = .returned (.bool true) ∧ GoodR R w' G bw bx br (n + 1) ∧ Kept (fun k => ¬ G k) w w' := by
  obtain ⟨X, Y, outs, ⟨Fx, Fr, Fw, H, j⟩, r, o⟩ := h
  obtain ⟨a1, a2, a3⟩ := hS.entries _ _ _ hn r
  refine (lentries_any w j.x j.r j.o j.ok j.wh j.hb a1 a2 a3 (by omega)).mono ?_
  rintro e w' ⟨rfl, outs', F', H', hl, ho, hk, hd, hF, hH, hb, k⟩
  have bx' := j.x.below
  have br' := j.r.below
  have bg := j.gb
  refine ⟨rfl, ⟨X, Y, outs', ⟨Fx, Fr, F', H', j.x.kept k (fun i hi g => j.xw i hi g), j.r.kept k (fun i hi g => j.rw i hi g), ho, hk, hb, fun g hg => Nat.lt_of_lt_of_le (j.gb g hg) k.size, j.gx, j.gr, fun q f g => ?_, j.xr, fun q f g => ?_, fun q g f => ?_, fun q f g => ?_, fun q g f => ?_, hd, j.g0, fours_at j.f (k.block 0 (j.gb 0 j.g0) (fun f => j.gw 0 f j.g0)) k.os k.output k.size, fun q hq g => (hH q hq).elim (fun e => j.gh q e g) (fun e => by have := bg q g; omega)⟩, hS.up _ _ _ r, by omega⟩, k.mono (fun i _ f g => j.gw i f g)⟩
  · rcases hF q f with e | e
    · exact j.gw q e g
    · have := bg q g; omega
  · rcases hF q g with e | e
    · exact j.xw q f e
    · have := bx' q f; omega
  · rcases hH q g with e | e
    · exact j.xh q e f
    · have := bx' q f; omega
  · rcases hF q g with e | e
    · exact j.rw q f e
    · have := br' q f; omega
  · rcases hH q g with e | e
    · exact j.rh q e f
    · have := br' q f; omega
set_option maxRecDepth 100000 in
set_option maxHeartbeats 1000000 in
theorem ract1 (hS : Sides R) (w : World) (s m q : Int) (p t : ByteArray) (on : Bool) (h : GoodR R w G bw bx br n) (hn : n ≤ 2000000) :
    Calls Tryz.prog 9 #[.pointer (some ⟨bw, 0, none⟩), .agg #[.int .i64 1, .int .i64 s, .int .i64 m, .int .i64 q, .string p, .string t, .bool on]] w fun e w' => e = .returned (.bool true) ∧ GoodR R w' G bw bx br (n + 1) ∧ Kept (fun k => ¬ G k) w w' := by
  have HS := hid hS
  have HG := hid h
  clear h hS
  have GV : Hid (GoodR R (w.alloc (.cells (actL 1 s m q p t on).toArray 32)) (fun k => G k ∨ k = w.heap.size) bw bx br n) := HG.out.box _
  have RV : Hid ((w.alloc (.cells (actL 1 s m q p t on).toArray 32)).rangeAt w.heap.size 0 (actL 1 s m q p t on)) := (Blk.new w 32 (actL 1 s m q p t on)).whole
  go_enter Tryz.func9, Tryz.ntmps9
  go_wp2_with (first | ((with_reducible refine ld32 _ w.heap.size 0 1 s m q p t on ?_ RV.out ?_); rfl) | (go_at_call 15; refine (rserve1 HS.out _ s m q p t on GV.out hn).mono ?_; rintro e y1 ⟨rfl, j1, k1⟩; have J1 := hid j1; have K1 := hid k1; clear j1 k1))
  go_ret
  exact ⟨rfl, J1.out.weak (fun _ g => Or.inl g) HG.out.g0, kept_box K1.out⟩
set_option maxRecDepth 100000 in
set_option maxHeartbeats 1000000 in
theorem ract2 (hS : Sides R) (w : World) (s m q : Int) (p t : ByteArray) (on : Bool) (h : GoodR R w G bw bx br n) (hn : n ≤ 2000000) :
    Calls Tryz.prog 9 #[.pointer (some ⟨bw, 0, none⟩), .agg #[.int .i64 2, .int .i64 s, .int .i64 m, .int .i64 q, .string p, .string t, .bool on]] w fun e w' => e = .returned (.bool true) ∧ GoodR R w' G bw bx br (n + 1) ∧ Kept (fun k => ¬ G k) w w' := by
  have HS := hid hS
  have HG := hid h
  clear h hS
  have GV : Hid (GoodR R (w.alloc (.cells (actL 2 s m q p t on).toArray 32)) (fun k => G k ∨ k = w.heap.size) bw bx br n) := HG.out.box _
  have RV : Hid ((w.alloc (.cells (actL 2 s m q p t on).toArray 32)).rangeAt w.heap.size 0 (actL 2 s m q p t on)) := (Blk.new w 32 (actL 2 s m q p t on)).whole
  go_enter Tryz.func9, Tryz.ntmps9
  go_wp2_with (first | ((with_reducible refine ld32 _ w.heap.size 0 2 s m q p t on ?_ RV.out ?_); rfl) | (go_at_call 15; refine (rserve2 HS.out _ s m q p t on GV.out hn).mono ?_; rintro e y1 ⟨rfl, j1, k1⟩; have J1 := hid j1; have K1 := hid k1; clear j1 k1))
  go_ret
  exact ⟨rfl, J1.out.weak (fun _ g => Or.inl g) HG.out.g0, kept_box K1.out⟩
set_option maxRecDepth 100000 in
set_option maxHeartbeats 1000000 in
theorem ract3 (hS : Sides R) (w : World) (s m q : Int) (p t : ByteArray) (on : Bool) (h : GoodR R w G bw bx br n) (hn : n ≤ 2000000) (hp : p.size ≤ maxLen) (hq : t.size ≤ maxLen) :
    Calls Tryz.prog 9 #[.pointer (some ⟨bw, 0, none⟩), .agg #[.int .i64 3, .int .i64 s, .int .i64 m, .int .i64 q, .string p, .string t, .bool on]] w fun e w' => e = .returned (.bool true) ∧ GoodR R w' G bw bx br (n + 1) ∧ Kept (fun k => ¬ G k) w w' := by
  have HS := hid hS
  have HG := hid h
  clear h hS
  have GV : Hid (GoodR R (w.alloc (.cells (actL 3 s m q p t on).toArray 32)) (fun k => G k ∨ k = w.heap.size) bw bx br n) := HG.out.box _
  have RV : Hid ((w.alloc (.cells (actL 3 s m q p t on).toArray 32)).rangeAt w.heap.size 0 (actL 3 s m q p t on)) := (Blk.new w 32 (actL 3 s m q p t on)).whole
  go_enter Tryz.func9, Tryz.ntmps9
  go_wp2_with (first | ((with_reducible refine ld32 _ w.heap.size 0 3 s m q p t on ?_ RV.out ?_); rfl) | (go_at_call 15; refine (rserve3 HS.out _ s m q p t on GV.out hn hp hq).mono ?_; rintro e y1 ⟨rfl, j1, k1⟩; have J1 := hid j1; have K1 := hid k1; clear j1 k1))
  go_ret
  exact ⟨rfl, J1.out.weak (fun _ g => Or.inl g) HG.out.g0, kept_box K1.out⟩
set_option maxRecDepth 100000 in
set_option maxHeartbeats 1000000 in
theorem ract4 (hS : Sides R) (w : World) (s m q : Int) (p t : ByteArray) (on : Bool) (h : GoodR R w G bw bx br n) (hn : n ≤ 2000000) :
    Calls Tryz.prog 9 #[.pointer (some ⟨bw, 0, none⟩), .agg #[.int .i64 4, .int .i64 s, .int .i64 m, .int .i64 q, .string p, .string t, .bool on]] w fun e w' => e = .returned (.bool true) ∧ GoodR R w' G bw bx br (n + 1) ∧ Kept (fun k => ¬ G k) w w' := by
  have HS := hid hS
  have HG := hid h
  clear h hS
  have GV : Hid (GoodR R (w.alloc (.cells (actL 4 s m q p t on).toArray 32)) (fun k => G k ∨ k = w.heap.size) bw bx br n) := HG.out.box _
  have RV : Hid ((w.alloc (.cells (actL 4 s m q p t on).toArray 32)).rangeAt w.heap.size 0 (actL 4 s m q p t on)) := (Blk.new w 32 (actL 4 s m q p t on)).whole
  go_enter Tryz.func9, Tryz.ntmps9
  go_wp2_with (first | ((with_reducible refine ld32 _ w.heap.size 0 4 s m q p t on ?_ RV.out ?_); rfl) | (go_at_call 15; refine (rserve4 HS.out _ s m q p t on GV.out hn).mono ?_; rintro e y1 ⟨rfl, j1, k1⟩; have J1 := hid j1; have K1 := hid k1; clear j1 k1))
  go_ret
  exact ⟨rfl, J1.out.weak (fun _ g => Or.inl g) HG.out.g0, kept_box K1.out⟩
set_option maxRecDepth 100000 in
set_option maxHeartbeats 1000000 in
theorem ract5 (hS : Sides R) (w : World) (s m q : Int) (p t : ByteArray) (on : Bool) (h : GoodR R w G bw bx br n) (hn : n ≤ 2000000) :
    Calls Tryz.prog 9 #[.pointer (some ⟨bw, 0, none⟩), .agg #[.int .i64 5, .int .i64 s, .int .i64 m, .int .i64 q, .string p, .string t, .bool on]] w fun e w' => e = .returned (.bool true) ∧ GoodR R w' G bw bx br (n + 1) ∧ Kept (fun k => ¬ G k) w w' := by
  have HS := hid hS
  have HG := hid h
  clear h hS
  have GV : Hid (GoodR R (w.alloc (.cells (actL 5 s m q p t on).toArray 32)) (fun k => G k ∨ k = w.heap.size) bw bx br n) := HG.out.box _
  have RV : Hid ((w.alloc (.cells (actL 5 s m q p t on).toArray 32)).rangeAt w.heap.size 0 (actL 5 s m q p t on)) := (Blk.new w 32 (actL 5 s m q p t on)).whole
  go_enter Tryz.func9, Tryz.ntmps9
  go_wp2_with (first | ((with_reducible refine ld32 _ w.heap.size 0 5 s m q p t on ?_ RV.out ?_); rfl) | (go_at_call 15; refine (rserve5 HS.out _ s m q p t on GV.out hn).mono ?_; rintro e y1 ⟨rfl, j1, k1⟩; have J1 := hid j1; have K1 := hid k1; clear j1 k1))
  go_ret
  exact ⟨rfl, J1.out.weak (fun _ g => Or.inl g) HG.out.g0, kept_box K1.out⟩
set_option maxRecDepth 100000 in
set_option maxHeartbeats 1000000 in
theorem ract6 (hS : Sides R) (w : World) (s m q : Int) (p t : ByteArray) (on : Bool) (h : GoodR R w G bw bx br n) (hn : n ≤ 2000000) :
    Calls Tryz.prog 9 #[.pointer (some ⟨bw, 0, none⟩), .agg #[.int .i64 6, .int .i64 s, .int .i64 m, .int .i64 q, .string p, .string t, .bool on]] w fun e w' => e = .returned (.bool true) ∧ GoodR R w' G bw bx br (n + 1) ∧ Kept (fun k => ¬ G k) w w' := by
  have HS := hid hS
  have HG := hid h
  clear h hS
  have GV : Hid (GoodR R (w.alloc (.cells (actL 6 s m q p t on).toArray 32)) (fun k => G k ∨ k = w.heap.size) bw bx br n) := HG.out.box _
  have RV : Hid ((w.alloc (.cells (actL 6 s m q p t on).toArray 32)).rangeAt w.heap.size 0 (actL 6 s m q p t on)) := (Blk.new w 32 (actL 6 s m q p t on)).whole
  go_enter Tryz.func9, Tryz.ntmps9
  go_wp2_with (first | ((with_reducible refine ld32 _ w.heap.size 0 6 s m q p t on ?_ RV.out ?_); rfl) | (go_at_call 15; refine (rserve6 HS.out _ s m q p t on GV.out hn).mono ?_; rintro e y1 ⟨rfl, j1, k1⟩; have J1 := hid j1; have K1 := hid k1; clear j1 k1))
  go_ret
  exact ⟨rfl, J1.out.weak (fun _ g => Or.inl g) HG.out.g0, kept_box K1.out⟩
set_option maxRecDepth 100000 in
set_option maxHeartbeats 1000000 in
theorem ract7 (hS : Sides R) (w : World) (s m q : Int) (p t : ByteArray) (on : Bool) (h : GoodR R w G bw bx br n) (hn : n ≤ 2000000) :
    Calls Tryz.prog 9 #[.pointer (some ⟨bw, 0, none⟩), .agg #[.int .i64 7, .int .i64 s, .int .i64 m, .int .i64 q, .string p, .string t, .bool on]] w fun e w' => e = .returned (.bool true) ∧ GoodR R w' G bw bx br (n + 1) ∧ Kept (fun k => ¬ G k) w w' := by
  have HS := hid hS
  have HG := hid h
  clear h hS
  have GV : Hid (GoodR R (w.alloc (.cells (actL 7 s m q p t on).toArray 32)) (fun k => G k ∨ k = w.heap.size) bw bx br n) := HG.out.box _
  have RV : Hid ((w.alloc (.cells (actL 7 s m q p t on).toArray 32)).rangeAt w.heap.size 0 (actL 7 s m q p t on)) := (Blk.new w 32 (actL 7 s m q p t on)).whole
  go_enter Tryz.func9, Tryz.ntmps9
  go_wp2_with (first | ((with_reducible refine ld32 _ w.heap.size 0 7 s m q p t on ?_ RV.out ?_); rfl) | (go_at_call 16; refine (rkeys7 HS.out _ s m q p t on GV.out hn).mono ?_; rintro e y1 ⟨rfl, j1, k1⟩; have J1 := hid j1; have K1 := hid k1; clear j1 k1))
  go_ret
  exact ⟨rfl, J1.out.weak (fun _ g => Or.inl g) HG.out.g0, kept_box K1.out⟩
set_option maxRecDepth 100000 in
set_option maxHeartbeats 1000000 in
theorem ract8 (hS : Sides R) (w : World) (s m q : Int) (p t : ByteArray) (on : Bool) (h : GoodR R w G bw bx br n) (hn : n ≤ 2000000) (hq : t.size ≤ maxLen) :
    Calls Tryz.prog 9 #[.pointer (some ⟨bw, 0, none⟩), .agg #[.int .i64 8, .int .i64 s, .int .i64 m, .int .i64 q, .string p, .string t, .bool on]] w fun e w' => e = .returned (.bool true) ∧ GoodR R w' G bw bx br (n + 1) ∧ Kept (fun k => ¬ G k) w w' := by
  have HS := hid hS
  have HG := hid h
  clear h hS
  have GV : Hid (GoodR R (w.alloc (.cells (actL 8 s m q p t on).toArray 32)) (fun k => G k ∨ k = w.heap.size) bw bx br n) := HG.out.box _
  have RV : Hid ((w.alloc (.cells (actL 8 s m q p t on).toArray 32)).rangeAt w.heap.size 0 (actL 8 s m q p t on)) := (Blk.new w 32 (actL 8 s m q p t on)).whole
  go_enter Tryz.func9, Tryz.ntmps9
  go_wp2_with (first | ((with_reducible refine ld32 _ w.heap.size 0 8 s m q p t on ?_ RV.out ?_); rfl) | (go_at_call 16; refine (rkeys8 HS.out _ s m q p t on GV.out hn hq).mono ?_; rintro e y1 ⟨rfl, j1, k1⟩; have J1 := hid j1; have K1 := hid k1; clear j1 k1))
  go_ret
  exact ⟨rfl, J1.out.weak (fun _ g => Or.inl g) HG.out.g0, kept_box K1.out⟩
set_option maxRecDepth 100000 in
set_option maxHeartbeats 1000000 in
theorem ract9 (hS : Sides R) (w : World) (s m q : Int) (p t : ByteArray) (on : Bool) (h : GoodR R w G bw bx br n) (hn : n ≤ 2000000) :
    Calls Tryz.prog 9 #[.pointer (some ⟨bw, 0, none⟩), .agg #[.int .i64 9, .int .i64 s, .int .i64 m, .int .i64 q, .string p, .string t, .bool on]] w fun e w' => e = .returned (.bool true) ∧ GoodR R w' G bw bx br (n + 1) ∧ Kept (fun k => ¬ G k) w w' := by
  have HS := hid hS
  have HG := hid h
  clear h hS
  have GV : Hid (GoodR R (w.alloc (.cells (actL 9 s m q p t on).toArray 32)) (fun k => G k ∨ k = w.heap.size) bw bx br n) := HG.out.box _
  have RV : Hid ((w.alloc (.cells (actL 9 s m q p t on).toArray 32)).rangeAt w.heap.size 0 (actL 9 s m q p t on)) := (Blk.new w 32 (actL 9 s m q p t on)).whole
  go_enter Tryz.func9, Tryz.ntmps9
  go_wp2_with (first | ((with_reducible refine ld32 _ w.heap.size 0 9 s m q p t on ?_ RV.out ?_); rfl) | (go_at_call 16; refine (rkeys9 HS.out _ s m q p t on GV.out hn).mono ?_; rintro e y1 ⟨rfl, j1, k1⟩; have J1 := hid j1; have K1 := hid k1; clear j1 k1))
  go_ret
  exact ⟨rfl, J1.out.weak (fun _ g => Or.inl g) HG.out.g0, kept_box K1.out⟩
set_option maxRecDepth 100000 in
set_option maxHeartbeats 1000000 in
theorem ract10 (hS : Sides R) (w : World) (s m q : Int) (p t : ByteArray) (on : Bool) (h : GoodR R w G bw bx br n) (hn : n ≤ 2000000) :
    Calls Tryz.prog 9 #[.pointer (some ⟨bw, 0, none⟩), .agg #[.int .i64 10, .int .i64 s, .int .i64 m, .int .i64 q, .string p, .string t, .bool on]] w fun e w' => e = .returned (.bool true) ∧ GoodR R w' G bw bx br (n + 1) ∧ Kept (fun k => ¬ G k) w w' := by
  have HS := hid hS
  have HG := hid h
  clear h hS
  have GV : Hid (GoodR R (w.alloc (.cells (actL 10 s m q p t on).toArray 32)) (fun k => G k ∨ k = w.heap.size) bw bx br n) := HG.out.box _
  have RV : Hid ((w.alloc (.cells (actL 10 s m q p t on).toArray 32)).rangeAt w.heap.size 0 (actL 10 s m q p t on)) := (Blk.new w 32 (actL 10 s m q p t on)).whole
  go_enter Tryz.func9, Tryz.ntmps9
  go_wp2_with (first | ((with_reducible refine ld32 _ w.heap.size 0 10 s m q p t on ?_ RV.out ?_); rfl) | (go_at_call 16; refine (rkeys10 HS.out _ s m q p t on GV.out hn).mono ?_; rintro e y1 ⟨rfl, j1, k1⟩; have J1 := hid j1; have K1 := hid k1; clear j1 k1))
  go_ret
  exact ⟨rfl, J1.out.weak (fun _ g => Or.inl g) HG.out.g0, kept_box K1.out⟩
set_option maxRecDepth 100000 in
set_option maxHeartbeats 1000000 in
theorem ract11 (hS : Sides R) (w : World) (s m q : Int) (p t : ByteArray) (on : Bool) (h : GoodR R w G bw bx br n) (hn : n ≤ 2000000) :
    Calls Tryz.prog 9 #[.pointer (some ⟨bw, 0, none⟩), .agg #[.int .i64 11, .int .i64 s, .int .i64 m, .int .i64 q, .string p, .string t, .bool on]] w fun e w' => e = .returned (.bool true) ∧ GoodR R w' G bw bx br (n + 1) ∧ Kept (fun k => ¬ G k) w w' := by
  have HS := hid hS
  have HG := hid h
  clear h hS
  have GV : Hid (GoodR R (w.alloc (.cells (actL 11 s m q p t on).toArray 32)) (fun k => G k ∨ k = w.heap.size) bw bx br n) := HG.out.box _
  have RV : Hid ((w.alloc (.cells (actL 11 s m q p t on).toArray 32)).rangeAt w.heap.size 0 (actL 11 s m q p t on)) := (Blk.new w 32 (actL 11 s m q p t on)).whole
  go_enter Tryz.func9, Tryz.ntmps9
  go_wp2_with (first | ((with_reducible refine ld32 _ w.heap.size 0 11 s m q p t on ?_ RV.out ?_); rfl) | (go_at_call 16; refine (rkeys11 HS.out _ s m q p t on GV.out hn).mono ?_; rintro e y1 ⟨rfl, j1, k1⟩; have J1 := hid j1; have K1 := hid k1; clear j1 k1))
  go_ret
  exact ⟨rfl, J1.out.weak (fun _ g => Or.inl g) HG.out.g0, kept_box K1.out⟩
set_option maxRecDepth 100000 in
set_option maxHeartbeats 1000000 in
theorem ract12 (hS : Sides R) (w : World) (s m q : Int) (p t : ByteArray) (on : Bool) (h : GoodR R w G bw bx br n) (hn : n ≤ 2000000) :
    Calls Tryz.prog 9 #[.pointer (some ⟨bw, 0, none⟩), .agg #[.int .i64 12, .int .i64 s, .int .i64 m, .int .i64 q, .string p, .string t, .bool on]] w fun e w' => e = .returned (.bool true) ∧ GoodR R w' G bw bx br (n + 1) ∧ Kept (fun k => ¬ G k) w w' := by
  have HS := hid hS
  have HG := hid h
  clear h hS
  have GV : Hid (GoodR R (w.alloc (.cells (actL 12 s m q p t on).toArray 32)) (fun k => G k ∨ k = w.heap.size) bw bx br n) := HG.out.box _
  have RV : Hid ((w.alloc (.cells (actL 12 s m q p t on).toArray 32)).rangeAt w.heap.size 0 (actL 12 s m q p t on)) := (Blk.new w 32 (actL 12 s m q p t on)).whole
  go_enter Tryz.func9, Tryz.ntmps9
  go_wp2_with (first | ((with_reducible refine ld32 _ w.heap.size 0 12 s m q p t on ?_ RV.out ?_); rfl) | (go_at_call 16; refine (rkeys12 HS.out _ s m q p t on GV.out hn).mono ?_; rintro e y1 ⟨rfl, j1, k1⟩; have J1 := hid j1; have K1 := hid k1; clear j1 k1))
  go_ret
  exact ⟨rfl, J1.out.weak (fun _ g => Or.inl g) HG.out.g0, kept_box K1.out⟩
set_option maxRecDepth 100000 in
set_option maxHeartbeats 1000000 in
theorem ract17 (hS : Sides R) (w : World) (s m q : Int) (p t : ByteArray) (on : Bool) (h : GoodR R w G bw bx br n) :
    Calls Tryz.prog 9 #[.pointer (some ⟨bw, 0, none⟩), .agg #[.int .i64 17, .int .i64 s, .int .i64 m, .int .i64 q, .string p, .string t, .bool on]] w fun e w' => e = .returned (.bool true) ∧ GoodR R w' G bw bx br (n + 1) ∧ Kept (fun k => ¬ G k) w w' := by
  have HS := hid hS
  have HG := hid h
  clear h hS
  have GV : Hid (GoodR R (w.alloc (.cells (actL 17 s m q p t on).toArray 32)) (fun k => G k ∨ k = w.heap.size) bw bx br n) := HG.out.box _
  go_enter Tryz.func9, Tryz.ntmps9
  go_wp2_with (go_at_call 18; refine (rstate HS.out _ GV.out).mono ?_; rintro e y1 ⟨rfl, j1, k1⟩; have J1 := hid j1; have K1 := hid k1; clear j1 k1)
  go_ret
  exact ⟨rfl, GoodR.up HS.out (J1.out.weak (fun _ g => Or.inl g) HG.out.g0), kept_box K1.out⟩
set_option maxRecDepth 100000 in
set_option maxHeartbeats 1000000 in
theorem ract18 (hS : Sides R) (w : World) (s m q : Int) (p t : ByteArray) (on : Bool) (h : GoodR R w G bw bx br n) (hn : n ≤ 2000000) :
    Calls Tryz.prog 9 #[.pointer (some ⟨bw, 0, none⟩), .agg #[.int .i64 18, .int .i64 s, .int .i64 m, .int .i64 q, .string p, .string t, .bool on]] w fun e w' => e = .returned (.bool true) ∧ GoodR R w' G bw bx br (n + 1) ∧ Kept (fun k => ¬ G k) w w' := by
  have HS := hid hS
  have HG := hid h
  clear h hS
  have GV : Hid (GoodR R (w.alloc (.cells (actL 18 s m q p t on).toArray 32)) (fun k => G k ∨ k = w.heap.size) bw bx br n) := HG.out.box _
  go_enter Tryz.func9, Tryz.ntmps9
  go_wp2_with (go_at_call 19; refine (rentries HS.out _ GV.out hn).mono ?_; rintro e y1 ⟨rfl, j1, k1⟩; have J1 := hid j1; have K1 := hid k1; clear j1 k1)
  go_ret
  exact ⟨rfl, J1.out.weak (fun _ g => Or.inl g) HG.out.g0, kept_box K1.out⟩
set_option maxRecDepth 100000 in
set_option maxHeartbeats 1000000 in
theorem ractNo (hS : Sides R) (w : World) (k s m q : Int) (p t : ByteArray) (on : Bool) (h : GoodR R w G bw bx br n) (hk : k < 1 ∨ 18 < k) :
    Calls Tryz.prog 9 #[.pointer (some ⟨bw, 0, none⟩), .agg #[.int .i64 k, .int .i64 s, .int .i64 m, .int .i64 q, .string p, .string t, .bool on]] w fun e w' => e = .returned (.bool true) ∧ GoodR R w' G bw bx br (n + 1) ∧ Kept (fun k => ¬ G k) w w' := by
  have q1 : (k == 1) = false := beq_eq_false_iff_ne.2 (by omega)
  have q2 : (k == 2) = false := beq_eq_false_iff_ne.2 (by omega)
  have q3 : (k == 3) = false := beq_eq_false_iff_ne.2 (by omega)
  have q4 : (k == 4) = false := beq_eq_false_iff_ne.2 (by omega)
  have q5 : (k == 5) = false := beq_eq_false_iff_ne.2 (by omega)
  have q6 : (k == 6) = false := beq_eq_false_iff_ne.2 (by omega)
  have q7 : (k == 7) = false := beq_eq_false_iff_ne.2 (by omega)
  have q8 : (k == 8) = false := beq_eq_false_iff_ne.2 (by omega)
  have q9 : (k == 9) = false := beq_eq_false_iff_ne.2 (by omega)
  have q10 : (k == 10) = false := beq_eq_false_iff_ne.2 (by omega)
  have q11 : (k == 11) = false := beq_eq_false_iff_ne.2 (by omega)
  have q12 : (k == 12) = false := beq_eq_false_iff_ne.2 (by omega)
  have q13 : (k == 13) = false := beq_eq_false_iff_ne.2 (by omega)
  have q14 : (k == 14) = false := beq_eq_false_iff_ne.2 (by omega)
  have q15 : (k == 15) = false := beq_eq_false_iff_ne.2 (by omega)
  have q16 : (k == 16) = false := beq_eq_false_iff_ne.2 (by omega)
  have q17 : (k == 17) = false := beq_eq_false_iff_ne.2 (by omega)
  have q18 : (k == 18) = false := beq_eq_false_iff_ne.2 (by omega)
  have HS := hid hS
  have HG := hid h
  clear h hk hS
  go_enter Tryz.func9, Tryz.ntmps9
  go_wp2
  go_ret
  have l : Low w.heap.size w (w.alloc (.cells (actL k s m q p t on).toArray 32)) := (Low.refl _ w).alloc (Nat.le_refl _) _
  exact ⟨rfl, GoodR.up HS.out (HG.out.low l), l.keptF _⟩
/-- Every act that Turns plays. -/
theorem ract_any (hS : Sides R) (w : World) (k s m q : Int) (p t : ByteArray) (on : Bool) (h : GoodR R w G bw bx br n) (hn : n ≤ 2000000) (hp : p.size ≤ maxLen) (hq : t.size ≤ maxLen) (hk : k < 13 ∨ 16 < k) :
    Calls Tryz.prog 9 #[.pointer (some ⟨bw, 0, none⟩), .agg #[.int .i64 k, .int .i64 s, .int .i64 m, .int .i64 q, .string p, .string t, .bool on]] w fun e w' => e = .returned (.bool true) ∧ GoodR R w' G bw bx br (n + 1) ∧ Kept (fun k => ¬ G k) w w' := by
  have : (k < 1 ∨ 18 < k) ∨ k = 1 ∨ k = 2 ∨ k = 3 ∨ k = 4 ∨ k = 5 ∨ k = 6 ∨ k = 7 ∨ k = 8 ∨ k = 9 ∨ k = 10 ∨ k = 11 ∨ k = 12 ∨ k = 17 ∨ k = 18 := by omega
  rcases this with h0 | rfl | rfl | rfl | rfl | rfl | rfl | rfl | rfl | rfl | rfl | rfl | rfl | rfl | rfl
  · exact ractNo hS w k s m q p t on h h0
  · exact ract1 hS w s m q p t on h hn
  · exact ract2 hS w s m q p t on h hn
  · exact ract3 hS w s m q p t on h hn hp hq
  · exact ract4 hS w s m q p t on h hn
  · exact ract5 hS w s m q p t on h hn
  · exact ract6 hS w s m q p t on h hn
  · exact ract7 hS w s m q p t on h hn
  · exact ract8 hS w s m q p t on h hn hq
  · exact ract9 hS w s m q p t on h hn
  · exact ract10 hS w s m q p t on h hn
  · exact ract11 hS w s m q p t on h hn
  · exact ract12 hS w s m q p t on h hn
  · exact ract17 hS w s m q p t on h
  · exact ract18 hS w s m q p t on h hn
set_option maxRecDepth 100000 in
set_option maxHeartbeats 1000000 in
theorem rlast_any (hS : Sides R) (w : World) (h : GoodR R w G bw bx br n) (hn : n ≤ 2000000) :
    Calls Tryz.prog 11 #[.pointer (some ⟨bw, 0, none⟩)] w fun e w' => e = .returned (.bool true) ∧ GoodR R w' G bw bx br (n + 1) ∧ Kept (fun k => ¬ G k) w w' := by
  have HS := hid hS
  have HG := hid h
  clear h hS
  go_enter Tryz.func11, Tryz.ntmps11
  go_wp2_with (first | (go_at_call 18; refine (rstate HS.out _ HG.out).mono ?_; rintro e y1 ⟨rfl, j1, k1⟩; have J1 := hid j1; have K1 := hid k1; clear j1 k1) | (go_at_call 19; refine (rentries HS.out _ J1.out hn).mono ?_; rintro e y2 ⟨rfl, j2, k2⟩; have J2 := hid j2; have K2 := hid k2; clear j2 k2) | (go_at_call 10; refine (rlooks _ J2.out (by omega)).mono ?_; rintro e y3 ⟨rfl, j3, k3⟩; have J3 := hid j3; have K3 := hid k3; clear j3 k3))
  go_ret
  exact ⟨rfl, J3.out, (K1.out.trans K2.out (fun _ f => f) (fun _ _ f => f)).trans K3.out (fun _ f => f) (fun _ _ f => f)⟩
set_option maxRecDepth 100000 in
set_option maxHeartbeats 1000000 in
theorem fits_turns (w : World) (k s n q : Int) (p t : ByteArray) (on : Bool) (hk : 8 ≤ k ∧ k ≤ 12) :
    Calls Tryz.prog 12 #[.agg #[.int .i64 k, .int .i64 s, .int .i64 n, .int .i64 q, .string p, .string t, .bool on], .int .i64 1] w fun e w' => e = .returned (.bool true) ∧ Low w.heap.size w w' := by
  have : k = 8 ∨ k = 9 ∨ k = 10 ∨ k = 11 ∨ k = 12 := by omega
  clear hk
  rcases this with rfl | rfl | rfl | rfl | rfl
  all_goals
    go_enter Tryz.func12, Tryz.ntmps12
    go_wp2
    go_ret
    exact ⟨rfl, (Low.refl _ w).alloc (Nat.le_refl _) _⟩
set_option maxRecDepth 100000 in
set_option maxHeartbeats 1000000 in
theorem fits_other (w : World) (k s n q : Int) (p t : ByteArray) (on : Bool) (hk : 13 ≤ k ∧ k ≤ 16) :
    Calls Tryz.prog 12 #[.agg #[.int .i64 k, .int .i64 s, .int .i64 n, .int .i64 q, .string p, .string t, .bool on], .int .i64 1] w fun e w' => e = .returned (.bool false) ∧ Low w.heap.size w w' := by
  have : k = 13 ∨ k = 14 ∨ k = 15 ∨ k = 16 := by omega
  clear hk
  rcases this with rfl | rfl | rfl | rfl
  all_goals
    go_enter Tryz.func12, Tryz.ntmps12
    go_wp2
    go_ret
    exact ⟨rfl, (Low.refl _ w).alloc (Nat.le_refl _) _⟩
theorem fits_yes (w : World) (k s n q : Int) (p t : ByteArray) (on : Bool) (hk : k < 13 ∨ 16 < k) :
    Calls Tryz.prog 12 #[.agg #[.int .i64 k, .int .i64 s, .int .i64 n, .int .i64 q, .string p, .string t, .bool on], .int .i64 1] w fun e w' => e = .returned (.bool true) ∧ Low w.heap.size w w' := by
  by_cases h8 : 8 ≤ k ∧ k ≤ 12
  · exact fits_turns w k s n q p t on h8
  · exact fits_serve w k s n q p t on (by omega) 1
end Go.Proofs.YtphapknfkbgapaaGreatDoor
namespace Go.Proofs.YtphapknfkbgapaaGreatDoor
open Go.RowKit

/-! plays, and Turns, over any relation that every call keeps. -/

theorem goodR_new {R : Nat → PS → RS → Prop} {w w' : World} {G Fx Fr Fw : Nat → Prop} {bw bx br m : Nat} {room : Int} {key : ByteArray} (hR : R 0 (PS.new m room key) (RS.new m room key)) (l : Low w.heap.size w w') (hx : XIn w' Fx bx (PS.new m room key)) (hr : RIn w' Fr br (RS.new m room key)) (hw : WIn w' Fw bw bx br [])
    (h1 : ∀ k, Fx k → w.heap.size ≤ k ∧ ¬ Fr k ∧ ¬ Fw k) (h2 : ∀ k, Fr k → w.heap.size ≤ k ∧ ¬ Fw k) (h3 : ∀ k, Fw k → w.heap.size ≤ k) (hG : ∀ k, G k → k < w.heap.size) (g0 : G 0) (hf : Fours w) : GoodR R w' G bw bx br 0 :=
  ⟨_, _, [], ⟨Fx, Fr, Fw, fun _ => False, hx, hr, hw, fun o ho => (by cases ho), fun _ f => f.elim, fun k hk => Nat.lt_of_lt_of_le (hG k hk) l.size, fun k f g => (by have := (h1 k f).1; have := hG k g; omega), fun k f g => (by have := (h2 k f).1; have := hG k g; omega), fun k f g => (by have := h3 k f; have := hG k g; omega), fun k f => (h1 k f).2.1, fun k f => (h1 k f).2.2, fun _ f => f.elim, fun k f => (h2 k f).2, fun _ f => f.elim, fun _ f => f.elim, g0, fours_at hf (l.block 0 (hG 0 g0)) l.os l.output l.size, fun _ f => f.elim⟩,
    hR, by simp⟩
set_option maxRecDepth 100000 in
set_option maxHeartbeats 2000000 in
theorem plays_turns {R : Nat → PS → RS → Prop} (hS : Sides R) (w : World) (m : Nat) (room : Int) (key : ByteArray) (a : Option Addr) (cap : Nat) (acts : List Deed) (h : cfgOk (m : Int) room key = true) (hR : R 0 (PS.new m room key) (RS.new m room key)) (hs : Script w a acts) (hn : acts.length ≤ 1048576) (hf : Fours w) (h0 : 0 < w.heap.size) :
    Calls Tryz.prog 7 #[.agg #[.int .i64 (m : Int), .int .i64 room, .string key], .slice a acts.length cap, .int .i64 1] w fun e w' => e = .returned (.bool true) ∧ Low w.heap.size w w' := by
  have HC := hid h
  have HSI := hid hS
  have HR0 := hid hR
  have HS := hid hs
  have HF := hid hf
  have HN := hid hn
  have H0 := hid h0
  clear h hs hf hn h0 hS hR
  go_enter Tryz.func7, Tryz.ntmps7
  go_upto_region 4 with (go_at_call 8; refine (made_yes _ m room key HC.out).mono ?_; rintro e y1 ⟨bw, bx, br, Fx, Fr, Fw, rfl, l1, x1, r1, o1, d1, d2, d3⟩; have LA : Hid (Low w.heap.size w y1) := ((Low.refl _ w).alloc (Nat.le_refl _) _).trans (l1.mono (by simp)); have GA : Hid (GoodR R y1 (fun k => k < w.heap.size) bw bx br 0) := goodR_new HR0.out LA.out x1 r1 o1 (fun k f => ⟨Nat.le_trans (by simp) (d1 k f).1, (d1 k f).2⟩) (fun k f => ⟨Nat.le_trans (by simp) (d2 k f).1, (d2 k f).2⟩) (fun k f => Nat.le_trans (by simp) (d3 k f)) (fun _ hk => hk) H0.out HF.out; clear l1 x1 r1 o1 d1 d2 d3)
  go_wp2_with fail
  go_loopg [8, 9] acts.length (fun left ov iv wr => ∃ i : Nat, left = acts.length - i ∧ i ≤ acts.length ∧ ov = .bool true ∧ iv = .int .i64 (i : Int) ∧ Hid (GoodR R wr (fun k => k < w.heap.size) bw bx br i) ∧ Hid (Kept (fun k => ¬ k < w.heap.size) w wr))
  case atStart => exact ⟨0, rfl, Nat.zero_le _, rfl, rfl, GA.out, LA.out.keptF _⟩
  case round =>
    obtain ⟨i, hgk, hi, rfl, rfl, HG, HK⟩ := hrel
    have HGK := hid hgk
    clear hgk
    by_cases h3 : i < acts.length
    · have q1 : decide ((i : Int) < (acts.length : Int)) = true := by simp; omega
      have il : (i : Int) < (acts.length : Int) := by omega
      obtain ⟨d, hd⟩ : ∃ d, acts[i]? = some d := ⟨_, List.getElem?_eq_getElem h3⟩
      obtain ⟨b, o, ha, hb, hc⟩ := HS.out.1 (by omega)
      subst ha
      have SZ := hid (HS.out.2 d (List.mem_of_getElem? hd))
      have HB := hid hb
      have R0 : Hid (w.rangeAt b (o + i * 7) (actL d.k d.s d.m d.q d.p d.t d.on)) := hc i d hd
      have RV : Hid (wr.rangeAt b (o + i * 7) (actL d.k d.s d.m d.q d.p d.t d.on)) := range_kept HK.out HB.out R0.out
      clear hc hd hb
      by_cases hk : d.k < 13 ∨ 16 < d.k
      · have HKK := hid hk
        clear hk
        go_wp2_with (first | ((with_reducible refine ld32 _ b (o + i * 7) d.k d.s d.m d.q d.p d.t d.on ?_ RV.out ?_); rfl) | ((with_reducible refine ld32 _ b (o + i * 7) d.k d.s d.m d.q d.p d.t d.on ?_ R1.out ?_); rfl) | (go_at_call 12; refine (fits_yes _ d.k d.s d.m d.q d.p d.t d.on HKK.out).mono ?_; rintro e z1 ⟨rfl, l1⟩; have K1 : Hid (Kept (fun k => ¬ k < w.heap.size) w z1) := kept_and HK.out (l1.keptF _); have G1 : Hid (GoodR R z1 (fun k => k < w.heap.size) bw bx br i) := HG.out.low l1; have R1 : Hid (z1.rangeAt b (o + i * 7) (actL d.k d.s d.m d.q d.p d.t d.on)) := range_kept K1.out HB.out R0.out; clear l1) | (go_at_call 9; refine (ract_any HSI.out _ d.k d.s d.m d.q d.p d.t d.on G1.out (by have := HN.out; omega) SZ.out.1 SZ.out.2 HKK.out).mono ?_; rintro e z2 ⟨rfl, g2, k2⟩; have G2 := hid g2; have K2 : Hid (Kept (fun k => ¬ k < w.heap.size) w z2) := kept_and K1.out k2; clear g2 k2) | (go_at_call 10; refine (rlooks _ G2.out (by have := HN.out; omega)).mono ?_; rintro e z3 ⟨rfl, g3, k3⟩; have G3 := hid g3; have K3 : Hid (Kept (fun k => ¬ k < w.heap.size) w z3) := kept_and K2.out k3; clear g3 k3))
        go_roundg (acts.length - (i + 1))
        case rel => exact ⟨i + 1, rfl, by omega, rfl, by have := HN.out; simp; unfold wrap64; omega, G3.out, K3.out⟩
        case measure => have := HGK.out; omega
      · have HKK : Hid (13 ≤ d.k ∧ d.k ≤ 16) := by
          show 13 ≤ d.k ∧ d.k ≤ 16
          omega
        clear hk
        go_wp2_with (first | ((with_reducible refine ld32 _ b (o + i * 7) d.k d.s d.m d.q d.p d.t d.on ?_ RV.out ?_); rfl) | (go_at_call 12; refine (fits_other _ d.k d.s d.m d.q d.p d.t d.on HKK.out).mono ?_; rintro e z1 ⟨rfl, l1⟩; have K1 : Hid (Kept (fun k => ¬ k < w.heap.size) w z1) := kept_and HK.out (l1.keptF _); have G1 : Hid (GoodR R z1 (fun k => k < w.heap.size) bw bx br (i + 1)) := GoodR.up HSI.out (HG.out.low l1); clear l1))
        go_roundg (acts.length - (i + 1))
        case rel => exact ⟨i + 1, rfl, by omega, rfl, by have := HN.out; simp; unfold wrap64; omega, G1.out, K1.out⟩
        case measure => have := HGK.out; omega
    · have q1 : decide ((i : Int) < (acts.length : Int)) = false := by simp; omega
      go_wp2_with (go_at_call 11; refine (rlast_any HSI.out _ HG.out (by have := HN.out; omega)).mono ?_; rintro e z1 ⟨rfl, g1, k1⟩; have K1 : Hid (Kept (fun k => ¬ k < w.heap.size) w z1) := kept_and HK.out k1; clear g1 k1)
      go_ret
      exact ⟨rfl, K1.out.os, K1.out.output, K1.out.size, fun k hk => K1.out.block k hk (fun f => f hk)⟩
/-! Turns. -/
set_option maxRecDepth 100000 in
set_option maxHeartbeats 1000000 in
theorem turns_of (w : World) (servers room : Int) (key : ByteArray) (a : Option Addr) (n cap : Nat)
    (h : ∀ V, Low w.heap.size w V → 0 < V.heap.size → Calls Tryz.prog 7 #[.agg #[.int .i64 servers, .int .i64 room, .string key], .slice a n cap, .int .i64 1] V fun e w' => e = .returned (.bool true) ∧ Low V.heap.size V w') :
    Calls Tryz.prog 4 #[.agg #[.int .i64 servers, .int .i64 room, .string key], .slice a n cap] w fun e w' => e = .returned (.bool true) ∧ Low w.heap.size w w' := by
  have HH := hid h
  clear h
  go_enter Tryz.func4, Tryz.ntmps4
  go_wp2_with (go_at_call 7; refine (HH.out _ ((Low.refl _ w).alloc (Nat.le_refl _) _) (by simp)).mono ?_; rintro e y1 ⟨rfl, l1⟩; have L1 : Hid (Low w.heap.size w y1) := ((Low.refl _ w).alloc (Nat.le_refl _) _).trans (l1.mono (by simp)); clear l1)
  go_ret
  exact ⟨rfl, L1.out⟩
theorem turns_walk {R : Nat → PS → RS → Prop} (hS : Sides R) (hR : ∀ (m : Nat) (room : Int) (key : ByteArray), cfgOk (m : Int) room key = true → R 0 (PS.new m room key) (RS.new m room key)) (w : World) (servers room : Int) (key : ByteArray) (a : Option Addr) (cap : Nat) (acts : List Deed) (hs : Script w a acts) (hn : acts.length ≤ 1048576) (hf : Fours w) (h1 : 1 ≤ w.heap.size) :
    Calls Tryz.prog 4 #[.agg #[.int .i64 servers, .int .i64 room, .string key], .slice a acts.length cap] w fun e w' => e = .returned (.bool true) ∧ Low w.heap.size w w' := by
  refine turns_of w servers room key a acts.length cap fun V l h0 => ?_
  cases hc : cfgOk servers room key
  · exact plays_no V servers room key _ 1 hc
  · obtain ⟨m, rfl⟩ : ∃ m : Nat, servers = (m : Int) := ⟨servers.toNat, by
      simp only [cfgOk, Bool.and_eq_true, decide_eq_true_eq] at hc
      omega⟩
    exact plays_turns hS V m room key a cap acts hc (hR m room key hc) (hs.low l) hn (fours_at hf (l.block 0 (by omega)) l.os l.output l.size) h0
end Go.Proofs.YtphapknfkbgapaaGreatDoor
