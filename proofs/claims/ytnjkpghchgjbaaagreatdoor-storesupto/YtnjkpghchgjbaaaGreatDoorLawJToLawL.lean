import Derived.Test.YtnjkpghchgjbaaaGreatDoorLawI
namespace Go.Proofs.YtnjkpghchgjbaaaGreatDoor
open Go.RowKit

variable {w w' : World} {G : Nat → Prop} {bw bx br : Nat} {X X' : PS} {Y Y' : RS} {outs : List LOut}
theorem keptG2 {G' : Nat → Prop} {V y1 y2 : World} (k : Kept (fun q => ¬ G q) w V) (k1 : Kept (fun q => ¬ G' q) V.drew y1) (k2 : Kept (fun q => ¬ G' q) y1.drew y2) (hs : ∀ q, G q → G' q) : Kept (fun q => ¬ G q) w y2 :=
  (k.trans k1.of_drew (H := fun q => ¬ G q) (fun _ f => f) (fun q _ f g => f (hs q g))).trans k2.of_drew (fun _ f => f) (fun q _ f g => f (hs q g))
set_option maxRecDepth 100000 in
set_option maxHeartbeats 1000000 in
theorem serve3 (w : World) (s n q : Int) (p t : ByteArray) (on : Bool) (v : Int) (h : J w G bw bx br X Y outs) (hp : PUni 26 [.int .i64 s, .agg #[.int .i64 q, .string p, .string t, .int .i64 n]] X (.int .i64 v) X') (hr : RUni 27 [.int .i64 s, .agg #[.int .i64 q, .string p, .string t, .int .i64 n]] Y (.int .i64 v) Y') :
    Calls Tryz.prog 15 #[.pointer (some ⟨bw, 0, none⟩), .agg #[.int .i64 3, .int .i64 s, .int .i64 n, .int .i64 q, .string p, .string t, .bool on]] w fun e w' => e = .returned (.bool true) ∧ J w' G bw bx br X' Y' outs ∧ Kept (fun k => ¬ G k) w w' := by
  have HJ := hid h
  have HP := hid hp
  have HR := hid hr
  clear h hp hr
  go_enter Tryz.func15, Tryz.ntmps15
  go_upto_region 16 with fail
  go_name_world V hV
  have JV : Hid (J V (fun k => (G k ∨ k = w.heap.size) ∨ k = w.heap.size + 1) bw bx br X Y outs) := by
    show J V _ bw bx br X Y outs
    rw [← hV]
    have q := (HJ.out.box (.cells (actL 3 s n q p t on).toArray 32)).box (.cells (AOp.cells ⟨q, p, t, n⟩).toArray 75)
    rw [World.size_alloc] at q
    exact q
  have KV : Hid (Kept (fun k => ¬ G k) w V) := by
    show Kept _ w V
    rw [← hV]; exact (((Low.refl _ w).alloc (Nat.le_refl _) _).alloc (by simp) _).keptF _
  have BV : Blk V w.heap.size 32 (actL 3 s n q p t on) := by rw [← hV]; exact (Blk.new w 32 (actL 3 s n q p t on)).alloc _
  have BO : Blk V (w.heap.size + 1) 75 (AOp.cells ⟨q, p, t, n⟩) := by
    rw [← hV]
    have q := Blk.new (w.alloc (.cells (actL 3 s n q p t on).toArray 32)) 75 (AOp.cells ⟨q, p, t, n⟩)
    rw [World.size_alloc] at q
    exact q
  obtain ⟨c0, c1, lb⟩ := JV.out.ptrs
  have m1 : V.cell? ⟨w.heap.size, 1, none⟩ = some (.int .i64 s) := BV.cell 1
  have o0 : V.cell? ⟨w.heap.size + 1, 0, none⟩ = some (.int .i64 q) := BO.cell 0
  have o1 : V.cell? ⟨w.heap.size + 1, 1, none⟩ = some (.string p) := BO.cell 1
  have o2 : V.cell? ⟨w.heap.size + 1, 2, none⟩ = some (.string t) := BO.cell 2
  have o3 : V.cell? ⟨w.heap.size + 1, 3, none⟩ = some (.int .i64 n) := BO.cell 3
  clear hV BV BO
  go_region_held3 (fun W' => W'.cell? ⟨bw, 0, none⟩ = some (.pointer (some ⟨bx, 0, none⟩)) ∧ W'.cell? ⟨w.heap.size, 1, none⟩ = some (.int .i64 s) ∧ W'.cell? ⟨w.heap.size + 1, 0, none⟩ = some (.int .i64 q) ∧ W'.cell? ⟨w.heap.size + 1, 1, none⟩ = some (.string p) ∧ W'.cell? ⟨w.heap.size + 1, 2, none⟩ = some (.string t) ∧ W'.cell? ⟨w.heap.size + 1, 3, none⟩ = some (.int .i64 n)) (first | assumption | go_keep)
    (first | (go_at_call 26; refine (JV.out.drew.callX HP.out).mono ?_; rintro e y1 ⟨rfl, j1, k1⟩; have S1 : y1.cell? ⟨bw, 0, none⟩ = some (.pointer (some ⟨bx, 0, none⟩)) ∧ y1.cell? ⟨w.heap.size, 1, none⟩ = some (.int .i64 s) ∧ y1.cell? ⟨w.heap.size + 1, 0, none⟩ = some (.int .i64 q) ∧ y1.cell? ⟨w.heap.size + 1, 1, none⟩ = some (.string p) ∧ y1.cell? ⟨w.heap.size + 1, 2, none⟩ = some (.string t) ∧ y1.cell? ⟨w.heap.size + 1, 3, none⟩ = some (.int .i64 n) := ⟨j1.ptrs.1, k1.cell m1 (fun f => f (Or.inl (Or.inr rfl))), k1.cell o0 (fun f => f (Or.inr rfl)), k1.cell o1 (fun f => f (Or.inr rfl)), k1.cell o2 (fun f => f (Or.inr rfl)), k1.cell o3 (fun f => f (Or.inr rfl))⟩; have J1 := hid j1; have K1 := hid k1; clear j1 k1))
  obtain ⟨_, n1, p0, p1, p2, p3⟩ := S1
  have d1 : y1.cell? ⟨bw, 1, none⟩ = some (.pointer (some ⟨br, 0, none⟩)) := J1.out.ptrs.2.1
  have lb1 : bw < y1.heap.size := J1.out.ptrs.2.2
  clear c0 c1 m1 lb o0 o1 o2 o3
  go_upto_region 17 with fail
  go_region_held3 (fun W' => W'.cell? ⟨bw, 1, none⟩ = some (.pointer (some ⟨br, 0, none⟩)) ∧ W'.cell? ⟨w.heap.size, 1, none⟩ = some (.int .i64 s) ∧ W'.cell? ⟨w.heap.size + 1, 0, none⟩ = some (.int .i64 q) ∧ W'.cell? ⟨w.heap.size + 1, 1, none⟩ = some (.string p) ∧ W'.cell? ⟨w.heap.size + 1, 2, none⟩ = some (.string t) ∧ W'.cell? ⟨w.heap.size + 1, 3, none⟩ = some (.int .i64 n)) (first | assumption | go_keep)
    (first | (go_at_call 27; refine (J1.out.drew.callR HR.out).mono ?_; rintro e y2 ⟨rfl, j2, k2⟩; have S2 : y2.cell? ⟨bw, 1, none⟩ = some (.pointer (some ⟨br, 0, none⟩)) ∧ y2.cell? ⟨w.heap.size, 1, none⟩ = some (.int .i64 s) ∧ y2.cell? ⟨w.heap.size + 1, 0, none⟩ = some (.int .i64 q) ∧ y2.cell? ⟨w.heap.size + 1, 1, none⟩ = some (.string p) ∧ y2.cell? ⟨w.heap.size + 1, 2, none⟩ = some (.string t) ∧ y2.cell? ⟨w.heap.size + 1, 3, none⟩ = some (.int .i64 n) := ⟨j2.ptrs.2.1, k2.cell n1 (fun f => f (Or.inl (Or.inr rfl))), k2.cell p0 (fun f => f (Or.inr rfl)), k2.cell p1 (fun f => f (Or.inr rfl)), k2.cell p2 (fun f => f (Or.inr rfl)), k2.cell p3 (fun f => f (Or.inr rfl))⟩; have J2 := hid j2; have K2 := hid k2; clear j2 k2))
  clear S2
  go_wp2_with fail
  go_ret
  exact ⟨rfl, J2.out.weak (fun _ g => Or.inl (Or.inl g)) HJ.out.g0, keptG2 KV.out K1.out K2.out (fun _ g => Or.inl (Or.inl g))⟩
end Go.Proofs.YtnjkpghchgjbaaaGreatDoor
namespace Go.Proofs.YtnjkpghchgjbaaaGreatDoor
open Go.RowKit

variable {w w' : World} {G : Nat → Prop} {bw bx br : Nat} {X X' : PS} {Y Y' : RS} {outs : List LOut} {key : ByteArray} {n : Nat}
/-- All is as it should be: the two coffers are alike, and the lists are the caller's. -/
def Good (w : World) (G : Nat → Prop) (bw bx br : Nat) (key : ByteArray) (n : Nat) : Prop := ∃ X Y outs, J w G bw bx br X Y outs ∧ Rel X Y key ∧ Bd n Y ∧ outs.length ≤ 4 * n
theorem Good.low (h : Good w G bw bx br key n) (k : Low w.heap.size w w') : Good w' G bw bx br key n := by
  obtain ⟨X, Y, outs, j, r⟩ := h
  exact ⟨X, Y, outs, j.low k, r⟩
theorem Good.weak (h : Good w G bw bx br key n) {G' : Nat → Prop} (hs : ∀ k, G' k → G k) (g0 : G' 0) : Good w G' bw bx br key n := by
  obtain ⟨X, Y, outs, j, r⟩ := h
  exact ⟨X, Y, outs, j.weak hs g0, r⟩
theorem Good.box (h : Good w G bw bx br key n) (ob : Obj) : Good (w.alloc ob) (fun k => G k ∨ k = w.heap.size) bw bx br key n := by
  obtain ⟨X, Y, outs, j, r⟩ := h
  exact ⟨X, Y, outs, j.box ob, r⟩
theorem Good.gb (h : Good w G bw bx br key n) : ∀ k, G k → k < w.heap.size := by
  obtain ⟨X, Y, outs, j, r⟩ := h
  exact j.gb
theorem Good.g0 (h : Good w G bw bx br key n) : G 0 := by
  obtain ⟨X, Y, outs, j, r⟩ := h
  exact j.g0
theorem Good.up (h : Good w G bw bx br key n) : Good w G bw bx br key (n + 1) := by
  obtain ⟨X, Y, outs, j, r, b, o⟩ := h
  exact ⟨X, Y, outs, j, r, b.up, by omega⟩
theorem good_of {fx fr : Nat} {args : List Value} {v : Value} {g : Nat} {A : Array Value} (hb : outs.length ≤ 4 * n) (hp : Pair fx fr args X Y key n v)
    (h : ∀ X' Y', PUni fx args X v X' → RUni fr args Y v Y' → Calls Tryz.prog g A w fun e w' => e = .returned (.bool true) ∧ J w' G bw bx br X' Y' outs ∧ Kept (fun k => ¬ G k) w w') :
    Calls Tryz.prog g A w fun e w' => e = .returned (.bool true) ∧ Good w' G bw bx br key (n + 1) ∧ Kept (fun k => ¬ G k) w w' := by
  obtain ⟨X', Y', h1, h2, h3, h4⟩ := hp
  exact (h X' Y' h1 h2).mono fun _ _ ⟨e, j, k⟩ => ⟨e, ⟨X', Y', outs, j, h3, h4, by omega⟩, k⟩
theorem gserve1 (w : World) (s m q : Int) (p t : ByteArray) (on : Bool) (h : Good w G bw bx br key n) :
    Calls Tryz.prog 15 #[.pointer (some ⟨bw, 0, none⟩), .agg #[.int .i64 1, .int .i64 s, .int .i64 m, .int .i64 q, .string p, .string t, .bool on]] w fun e w' => e = .returned (.bool true) ∧ Good w' G bw bx br key (n + 1) ∧ Kept (fun k => ¬ G k) w w' := by
  obtain ⟨X, Y, outs, j, r, b, o⟩ := h
  obtain ⟨v, hp⟩ := refresh_pair r b s
  exact good_of o hp (fun X' Y' h1 h2 => serve1 w s m q p t on v j h1 h2)
theorem gserve2 (w : World) (s m q : Int) (p t : ByteArray) (on : Bool) (h : Good w G bw bx br key n) :
    Calls Tryz.prog 15 #[.pointer (some ⟨bw, 0, none⟩), .agg #[.int .i64 2, .int .i64 s, .int .i64 m, .int .i64 q, .string p, .string t, .bool on]] w fun e w' => e = .returned (.bool true) ∧ Good w' G bw bx br key (n + 1) ∧ Kept (fun k => ¬ G k) w w' := by
  obtain ⟨X, Y, outs, j, r, b, o⟩ := h
  obtain ⟨v, hp⟩ := crash_pair r b s
  exact good_of o hp (fun X' Y' h1 h2 => serve2 w s m q p t on v j h1 h2)
theorem gserve3 (w : World) (s m q : Int) (p t : ByteArray) (on : Bool) (h : Good w G bw bx br key n) (hn : n ≤ 10000000) (hp : p.size ≤ maxLen) (hq : t.size ≤ maxLen) :
    Calls Tryz.prog 15 #[.pointer (some ⟨bw, 0, none⟩), .agg #[.int .i64 3, .int .i64 s, .int .i64 m, .int .i64 q, .string p, .string t, .bool on]] w fun e w' => e = .returned (.bool true) ∧ Good w' G bw bx br key (n + 1) ∧ Kept (fun k => ¬ G k) w w' := by
  obtain ⟨X, Y, outs, j, r, b, o⟩ := h
  obtain ⟨v, hpr⟩ := begin_pair r b hn s ⟨q, p, t, m⟩ hp hq
  exact good_of o hpr (fun X' Y' h1 h2 => serve3 w s m q p t on v j h1 h2)
theorem gserve4 (w : World) (s m q : Int) (p t : ByteArray) (on : Bool) (h : Good w G bw bx br key n) (hn : n ≤ 10000000) :
    Calls Tryz.prog 15 #[.pointer (some ⟨bw, 0, none⟩), .agg #[.int .i64 4, .int .i64 s, .int .i64 m, .int .i64 q, .string p, .string t, .bool on]] w fun e w' => e = .returned (.bool true) ∧ Good w' G bw bx br key (n + 1) ∧ Kept (fun k => ¬ G k) w w' := by
  obtain ⟨X, Y, outs, j, r, b, o⟩ := h
  obtain ⟨v, e, hp⟩ := commit_pair r b hn s
  exact good_of o hp (fun X' Y' h1 h2 => serve4 w s m q p t on v e j h1 h2)
theorem gserve5 (w : World) (s m q : Int) (p t : ByteArray) (on : Bool) (h : Good w G bw bx br key n) (hn : n ≤ 10000000) :
    Calls Tryz.prog 15 #[.pointer (some ⟨bw, 0, none⟩), .agg #[.int .i64 5, .int .i64 s, .int .i64 m, .int .i64 q, .string p, .string t, .bool on]] w fun e w' => e = .returned (.bool true) ∧ Good w' G bw bx br key (n + 1) ∧ Kept (fun k => ¬ G k) w w' := by
  obtain ⟨X, Y, outs, j, r, b, o⟩ := h
  obtain ⟨A, v, e, hp⟩ := get_pair r b hn s p
  exact good_of o hp (fun X' Y' h1 h2 => serve5 w s m q p t on A v e j h1 h2)
theorem gserve6 (w : World) (s m q : Int) (p t : ByteArray) (on : Bool) (h : Good w G bw bx br key n) (hn : n ≤ 10000000) :
    Calls Tryz.prog 15 #[.pointer (some ⟨bw, 0, none⟩), .agg #[.int .i64 6, .int .i64 s, .int .i64 m, .int .i64 q, .string p, .string t, .bool on]] w fun e w' => e = .returned (.bool true) ∧ Good w' G bw bx br key (n + 1) ∧ Kept (fun k => ¬ G k) w w' := by
  obtain ⟨X, Y, outs, j, r, b, o⟩ := h
  obtain ⟨A, v, e, hp⟩ := getAt_pair r b hn s p m
  exact good_of o hp (fun X' Y' h1 h2 => serve6 w s m q p t on A v e j h1 h2)
theorem gkeys7 (w : World) (s m q : Int) (p t : ByteArray) (on : Bool) (h : Good w G bw bx br key n) (hn : n ≤ 10000000) :
    Calls Tryz.prog 16 #[.pointer (some ⟨bw, 0, none⟩), .agg #[.int .i64 7, .int .i64 s, .int .i64 m, .int .i64 q, .string p, .string t, .bool on]] w fun e w' => e = .returned (.bool true) ∧ Good w' G bw bx br key (n + 1) ∧ Kept (fun k => ¬ G k) w w' := by
  obtain ⟨X, Y, outs, j, r, b, o⟩ := h
  obtain ⟨v, hp⟩ := compact_pair r b hn m
  exact good_of o hp (fun X' Y' h1 h2 => keys7 w s m q p t on v j h1 h2)
end Go.Proofs.YtnjkpghchgjbaaaGreatDoor
namespace Go.Proofs.YtnjkpghchgjbaaaGreatDoor
open Go.RowKit

variable {w w' : World} {G : Nat → Prop} {bw bx br : Nat} {key : ByteArray} {n : Nat}
theorem sz32 (k s m q : Int) (p t : ByteArray) (on : Bool) : (Tryz.prog.info? 32).map (·.size) = some (actL k s m q p t on).length := show _ = some 7 by kernel_rfl
theorem ld32 {ops : Array Oper} {rest : List Oper} {d : Option Tmp} {t0 : TypeId} {pos : String} {after : Array Edge} {a : Go.Act} {w : World} {Q : Exit → Go.Act → World → Prop} (x : Operand) (b o : Nat) (k s m q : Int) (p t : ByteArray) (on : Bool)
    (hx : a.eval x = .pointer (some ⟨b, o, none⟩)) (hc : w.rangeAt b o (actL k s m q p t on)) (h : wpList Tryz.prog ops Q rest (a.put d (.agg #[.int .i64 k, .int .i64 s, .int .i64 m, .int .i64 q, .string p, .string t, .bool on])) w) :
    wpList Tryz.prog ops Q ({ dst := d, op := .load 32 x, type := t0, pos := pos, after := after, guard := none } :: rest) a w :=
  ldAny 32 x b o (actL k s m q p t on) _ hx hc Tryz.underlying32 rfl (sz32 k s m q p t on) h
theorem kept_box {ob : Obj} {y : World} (k : Kept (fun q => ¬ (G q ∨ q = w.heap.size)) (w.alloc ob) y) : Kept (fun q => ¬ G q) w y :=
  (((Low.refl _ w).alloc (Nat.le_refl _) ob).keptF (fun q => ¬ G q)).trans k (fun _ f => f) (fun _ _ f g => f (Or.inl g))
set_option maxRecDepth 100000 in
set_option maxHeartbeats 1000000 in
theorem act1 (w : World) (s m q : Int) (p t : ByteArray) (on : Bool) (h : Good w G bw bx br key n) :
    Calls Tryz.prog 9 #[.pointer (some ⟨bw, 0, none⟩), .agg #[.int .i64 1, .int .i64 s, .int .i64 m, .int .i64 q, .string p, .string t, .bool on]] w fun e w' => e = .returned (.bool true) ∧ Good w' G bw bx br key (n + 1) ∧ Kept (fun k => ¬ G k) w w' := by
  have HG := hid h
  clear h
  have GV : Hid (Good (w.alloc (.cells (actL 1 s m q p t on).toArray 32)) (fun k => G k ∨ k = w.heap.size) bw bx br key n) := HG.out.box _
  have RV : Hid ((w.alloc (.cells (actL 1 s m q p t on).toArray 32)).rangeAt w.heap.size 0 (actL 1 s m q p t on)) := (Blk.new w 32 (actL 1 s m q p t on)).whole
  go_enter Tryz.func9, Tryz.ntmps9
  go_wp2_with (first | ((with_reducible refine ld32 _ w.heap.size 0 1 s m q p t on ?_ RV.out ?_); rfl) | (go_at_call 15; refine (gserve1 _ s m q p t on GV.out).mono ?_; rintro e y1 ⟨rfl, j1, k1⟩; have J1 := hid j1; have K1 := hid k1; clear j1 k1))
  go_ret
  exact ⟨rfl, J1.out.weak (fun _ g => Or.inl g) HG.out.g0, kept_box K1.out⟩
set_option maxRecDepth 100000 in
set_option maxHeartbeats 1000000 in
theorem act2 (w : World) (s m q : Int) (p t : ByteArray) (on : Bool) (h : Good w G bw bx br key n) :
    Calls Tryz.prog 9 #[.pointer (some ⟨bw, 0, none⟩), .agg #[.int .i64 2, .int .i64 s, .int .i64 m, .int .i64 q, .string p, .string t, .bool on]] w fun e w' => e = .returned (.bool true) ∧ Good w' G bw bx br key (n + 1) ∧ Kept (fun k => ¬ G k) w w' := by
  have HG := hid h
  clear h
  have GV : Hid (Good (w.alloc (.cells (actL 2 s m q p t on).toArray 32)) (fun k => G k ∨ k = w.heap.size) bw bx br key n) := HG.out.box _
  have RV : Hid ((w.alloc (.cells (actL 2 s m q p t on).toArray 32)).rangeAt w.heap.size 0 (actL 2 s m q p t on)) := (Blk.new w 32 (actL 2 s m q p t on)).whole
  go_enter Tryz.func9, Tryz.ntmps9
  go_wp2_with (first | ((with_reducible refine ld32 _ w.heap.size 0 2 s m q p t on ?_ RV.out ?_); rfl) | (go_at_call 15; refine (gserve2 _ s m q p t on GV.out).mono ?_; rintro e y1 ⟨rfl, j1, k1⟩; have J1 := hid j1; have K1 := hid k1; clear j1 k1))
  go_ret
  exact ⟨rfl, J1.out.weak (fun _ g => Or.inl g) HG.out.g0, kept_box K1.out⟩
set_option maxRecDepth 100000 in
set_option maxHeartbeats 1000000 in
theorem act3 (w : World) (s m q : Int) (p t : ByteArray) (on : Bool) (h : Good w G bw bx br key n) (hn : n ≤ 10000000) (hp : p.size ≤ maxLen) (hq : t.size ≤ maxLen) :
    Calls Tryz.prog 9 #[.pointer (some ⟨bw, 0, none⟩), .agg #[.int .i64 3, .int .i64 s, .int .i64 m, .int .i64 q, .string p, .string t, .bool on]] w fun e w' => e = .returned (.bool true) ∧ Good w' G bw bx br key (n + 1) ∧ Kept (fun k => ¬ G k) w w' := by
  have HG := hid h
  clear h
  have GV : Hid (Good (w.alloc (.cells (actL 3 s m q p t on).toArray 32)) (fun k => G k ∨ k = w.heap.size) bw bx br key n) := HG.out.box _
  have RV : Hid ((w.alloc (.cells (actL 3 s m q p t on).toArray 32)).rangeAt w.heap.size 0 (actL 3 s m q p t on)) := (Blk.new w 32 (actL 3 s m q p t on)).whole
  go_enter Tryz.func9, Tryz.ntmps9
  go_wp2_with (first | ((with_reducible refine ld32 _ w.heap.size 0 3 s m q p t on ?_ RV.out ?_); rfl) | (go_at_call 15; refine (gserve3 _ s m q p t on GV.out hn hp hq).mono ?_; rintro e y1 ⟨rfl, j1, k1⟩; have J1 := hid j1; have K1 := hid k1; clear j1 k1))
  go_ret
  exact ⟨rfl, J1.out.weak (fun _ g => Or.inl g) HG.out.g0, kept_box K1.out⟩
set_option maxRecDepth 100000 in
set_option maxHeartbeats 1000000 in
theorem act4 (w : World) (s m q : Int) (p t : ByteArray) (on : Bool) (h : Good w G bw bx br key n) (hn : n ≤ 10000000) :
    Calls Tryz.prog 9 #[.pointer (some ⟨bw, 0, none⟩), .agg #[.int .i64 4, .int .i64 s, .int .i64 m, .int .i64 q, .string p, .string t, .bool on]] w fun e w' => e = .returned (.bool true) ∧ Good w' G bw bx br key (n + 1) ∧ Kept (fun k => ¬ G k) w w' := by
  have HG := hid h
  clear h
  have GV : Hid (Good (w.alloc (.cells (actL 4 s m q p t on).toArray 32)) (fun k => G k ∨ k = w.heap.size) bw bx br key n) := HG.out.box _
  have RV : Hid ((w.alloc (.cells (actL 4 s m q p t on).toArray 32)).rangeAt w.heap.size 0 (actL 4 s m q p t on)) := (Blk.new w 32 (actL 4 s m q p t on)).whole
  go_enter Tryz.func9, Tryz.ntmps9
  go_wp2_with (first | ((with_reducible refine ld32 _ w.heap.size 0 4 s m q p t on ?_ RV.out ?_); rfl) | (go_at_call 15; refine (gserve4 _ s m q p t on GV.out hn).mono ?_; rintro e y1 ⟨rfl, j1, k1⟩; have J1 := hid j1; have K1 := hid k1; clear j1 k1))
  go_ret
  exact ⟨rfl, J1.out.weak (fun _ g => Or.inl g) HG.out.g0, kept_box K1.out⟩
set_option maxRecDepth 100000 in
set_option maxHeartbeats 1000000 in
theorem act5 (w : World) (s m q : Int) (p t : ByteArray) (on : Bool) (h : Good w G bw bx br key n) (hn : n ≤ 10000000) :
    Calls Tryz.prog 9 #[.pointer (some ⟨bw, 0, none⟩), .agg #[.int .i64 5, .int .i64 s, .int .i64 m, .int .i64 q, .string p, .string t, .bool on]] w fun e w' => e = .returned (.bool true) ∧ Good w' G bw bx br key (n + 1) ∧ Kept (fun k => ¬ G k) w w' := by
  have HG := hid h
  clear h
  have GV : Hid (Good (w.alloc (.cells (actL 5 s m q p t on).toArray 32)) (fun k => G k ∨ k = w.heap.size) bw bx br key n) := HG.out.box _
  have RV : Hid ((w.alloc (.cells (actL 5 s m q p t on).toArray 32)).rangeAt w.heap.size 0 (actL 5 s m q p t on)) := (Blk.new w 32 (actL 5 s m q p t on)).whole
  go_enter Tryz.func9, Tryz.ntmps9
  go_wp2_with (first | ((with_reducible refine ld32 _ w.heap.size 0 5 s m q p t on ?_ RV.out ?_); rfl) | (go_at_call 15; refine (gserve5 _ s m q p t on GV.out hn).mono ?_; rintro e y1 ⟨rfl, j1, k1⟩; have J1 := hid j1; have K1 := hid k1; clear j1 k1))
  go_ret
  exact ⟨rfl, J1.out.weak (fun _ g => Or.inl g) HG.out.g0, kept_box K1.out⟩
set_option maxRecDepth 100000 in
set_option maxHeartbeats 1000000 in
theorem act6 (w : World) (s m q : Int) (p t : ByteArray) (on : Bool) (h : Good w G bw bx br key n) (hn : n ≤ 10000000) :
    Calls Tryz.prog 9 #[.pointer (some ⟨bw, 0, none⟩), .agg #[.int .i64 6, .int .i64 s, .int .i64 m, .int .i64 q, .string p, .string t, .bool on]] w fun e w' => e = .returned (.bool true) ∧ Good w' G bw bx br key (n + 1) ∧ Kept (fun k => ¬ G k) w w' := by
  have HG := hid h
  clear h
  have GV : Hid (Good (w.alloc (.cells (actL 6 s m q p t on).toArray 32)) (fun k => G k ∨ k = w.heap.size) bw bx br key n) := HG.out.box _
  have RV : Hid ((w.alloc (.cells (actL 6 s m q p t on).toArray 32)).rangeAt w.heap.size 0 (actL 6 s m q p t on)) := (Blk.new w 32 (actL 6 s m q p t on)).whole
  go_enter Tryz.func9, Tryz.ntmps9
  go_wp2_with (first | ((with_reducible refine ld32 _ w.heap.size 0 6 s m q p t on ?_ RV.out ?_); rfl) | (go_at_call 15; refine (gserve6 _ s m q p t on GV.out hn).mono ?_; rintro e y1 ⟨rfl, j1, k1⟩; have J1 := hid j1; have K1 := hid k1; clear j1 k1))
  go_ret
  exact ⟨rfl, J1.out.weak (fun _ g => Or.inl g) HG.out.g0, kept_box K1.out⟩
set_option maxRecDepth 100000 in
set_option maxHeartbeats 1000000 in
theorem act7 (w : World) (s m q : Int) (p t : ByteArray) (on : Bool) (h : Good w G bw bx br key n) (hn : n ≤ 10000000) :
    Calls Tryz.prog 9 #[.pointer (some ⟨bw, 0, none⟩), .agg #[.int .i64 7, .int .i64 s, .int .i64 m, .int .i64 q, .string p, .string t, .bool on]] w fun e w' => e = .returned (.bool true) ∧ Good w' G bw bx br key (n + 1) ∧ Kept (fun k => ¬ G k) w w' := by
  have HG := hid h
  clear h
  have GV : Hid (Good (w.alloc (.cells (actL 7 s m q p t on).toArray 32)) (fun k => G k ∨ k = w.heap.size) bw bx br key n) := HG.out.box _
  have RV : Hid ((w.alloc (.cells (actL 7 s m q p t on).toArray 32)).rangeAt w.heap.size 0 (actL 7 s m q p t on)) := (Blk.new w 32 (actL 7 s m q p t on)).whole
  go_enter Tryz.func9, Tryz.ntmps9
  go_wp2_with (first | ((with_reducible refine ld32 _ w.heap.size 0 7 s m q p t on ?_ RV.out ?_); rfl) | (go_at_call 16; refine (gkeys7 _ s m q p t on GV.out hn).mono ?_; rintro e y1 ⟨rfl, j1, k1⟩; have J1 := hid j1; have K1 := hid k1; clear j1 k1))
  go_ret
  exact ⟨rfl, J1.out.weak (fun _ g => Or.inl g) HG.out.g0, kept_box K1.out⟩
end Go.Proofs.YtnjkpghchgjbaaaGreatDoor
