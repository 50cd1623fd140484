import Derived.Test.YtphapknfkbgapaaGreatDoorRelEToLawK
namespace Go.Proofs.YtphapknfkbgapaaGreatDoor
open Go.RowKit

variable {w w' : World} {G : Nat → Prop} {bw bx br : Nat} {key : ByteArray} {n : Nat}
theorem sz32 (k s m q : Int) (p t : ByteArray) (on : Bool) : (Tryz.prog.info? 32).map (·.size) = some (actL k s m q p t on).length := show _ = some 7 by kernel_rfl
theorem ld32 {ops : Array Oper} {rest : List Oper} {d : Option Tmp} {t0 : TypeId} {pos : String} {after : Array Edge} {a : Go.Act} {w : World} {Q : Exit → Go.Act → World → Prop} (x : Operand) (b o : Nat) (k s m q : Int) (p t : ByteArray) (on : Bool)
    (hx : a.eval x = .pointer (some ⟨b, o, none⟩)) (hc : w.rangeAt b o (actL k s m q p t on)) (h : wpList Tryz.prog ops Q rest (a.put d (.agg #[.int .i64 k, .int .i64 s, .int .i64 m, .int .i64 q, .string p, .string t, .bool on])) w) :
    wpList Tryz.prog ops Q ({ dst := d, op := .load 32 x, type := t0, pos := pos, after := after, guard := none } :: rest) a w :=
  ldAny 32 x b o (actL k s m q p t on) _ hx hc Tryz.underlying32 rfl (sz32 k s m q p t on) h
theorem kept_box {ob : Obj} {y : World} (k : Kept (fun q => ¬ (G q ∨ q = w.heap.size)) (w.alloc ob) y) : Kept (fun q => ¬ G q) w y :=
  (((Low.refl _ w).alloc (Nat.le_refl _) ob).keptF (fun q => ¬ G q)).trans k (fun _ f => f) (fun _ _ f g => f (Or.inl g))
set_option maxRecDepth 100000 in
set_option maxHeartbeats 1000000 in
theorem act1 (w : World) (s m q : Int) (p t : ByteArray) (on : Bool) (h : Good w G bw bx br key n) :
    Calls Tryz.prog 9 #[.pointer (some ⟨bw, 0, none⟩), .agg #[.int .i64 1, .int .i64 s, .int .i64 m, .int .i64 q, .string p, .string t, .bool on]] w fun e w' => e = .returned (.bool true) ∧ Good w' G bw bx br key (n + 1) ∧ Kept (fun k => ¬ G k) w w' := by
  have HG := hid h
  clear h
  have GV : Hid (Good (w.alloc (.cells (actL 1 s m q p t on).toArray 32)) (fun k => G k ∨ k = w.heap.size) bw bx br key n) := HG.out.box _
  have RV : Hid ((w.alloc (.cells (actL 1 s m q p t on).toArray 32)).rangeAt w.heap.size 0 (actL 1 s m q p t on)) := (Blk.new w 32 (actL 1 s m q p t on)).whole
  go_enter Tryz.func9, Tryz.ntmps9
  go_wp2_with (first | ((with_reducible refine ld32 _ w.heap.size 0 1 s m q p t on ?_ RV.out ?_); rfl) | (go_at_call 15; refine (gserve1 _ s m q p t on GV.out).mono ?_; rintro e y1 ⟨rfl, j1, k1⟩; have J1 := hid j1; have K1 := hid k1; clear j1 k1))
  go_ret
  exact ⟨rfl, J1.out.weak (fun _ g => Or.inl g) HG.out.g0, kept_box K1.out⟩
set_option maxRecDepth 100000 in
set_option maxHeartbeats 1000000 in
theorem act2 (w : World) (s m q : Int) (p t : ByteArray) (on : Bool) (h : Good w G bw bx br key n) :
    Calls Tryz.prog 9 #[.pointer (some ⟨bw, 0, none⟩), .agg #[.int .i64 2, .int .i64 s, .int .i64 m, .int .i64 q, .string p, .string t, .bool on]] w fun e w' => e = .returned (.bool true) ∧ Good w' G bw bx br key (n + 1) ∧ Kept (fun k => ¬ G k) w w' := by
  have HG := hid h
  clear h
  have GV : Hid (Good (w.alloc (.cells (actL 2 s m q p t on).toArray 32)) (fun k => G k ∨ k = w.heap.size) bw bx br key n) := HG.out.box _
  have RV : Hid ((w.alloc (.cells (actL 2 s m q p t on).toArray 32)).rangeAt w.heap.size 0 (actL 2 s m q p t on)) := (Blk.new w 32 (actL 2 s m q p t on)).whole
  go_enter Tryz.func9, Tryz.ntmps9
  go_wp2_with (first | ((with_reducible refine ld32 _ w.heap.size 0 2 s m q p t on ?_ RV.out ?_); rfl) | (go_at_call 15; refine (gserve2 _ s m q p t on GV.out).mono ?_; rintro e y1 ⟨rfl, j1, k1⟩; have J1 := hid j1; have K1 := hid k1; clear j1 k1))
  go_ret
  exact ⟨rfl, J1.out.weak (fun _ g => Or.inl g) HG.out.g0, kept_box K1.out⟩
set_option maxRecDepth 100000 in
set_option maxHeartbeats 1000000 in
theorem act3 (w : World) (s m q : Int) (p t : ByteArray) (on : Bool) (h : Good w G bw bx br key n) (hn : n ≤ 10000000) (hp : p.size ≤ maxLen) (hq : t.size ≤ maxLen) :
    Calls Tryz.prog 9 #[.pointer (some ⟨bw, 0, none⟩), .agg #[.int .i64 3, .int .i64 s, .int .i64 m, .int .i64 q, .string p, .string t, .bool on]] w fun e w' => e = .returned (.bool true) ∧ Good w' G bw bx br key (n + 1) ∧ Kept (fun k => ¬ G k) w w' := by
  have HG := hid h
  clear h
  have GV : Hid (Good (w.alloc (.cells (actL 3 s m q p t on).toArray 32)) (fun k => G k ∨ k = w.heap.size) bw bx br key n) := HG.out.box _
  have RV : Hid ((w.alloc (.cells (actL 3 s m q p t on).toArray 32)).rangeAt w.heap.size 0 (actL 3 s m q p t on)) := (Blk.new w 32 (actL 3 s m q p t on)).whole
  go_enter Tryz.func9, Tryz.ntmps9
  go_wp2_with (first | ((with_reducible refine ld32 _ w.heap.size 0 3 s m q p t on ?_ RV.out ?_); rfl) | (go_at_call 15; refine (gserve3 _ s m q p t on GV.out hn hp hq).mono ?_; rintro e y1 ⟨rfl, j1, k1⟩; have J1 := hid j1; have K1 := hid k1; clear j1 k1))
  go_ret
  exact ⟨rfl, J1.out.weak (fun _ g => Or.inl g) HG.out.g0, kept_box K1.out⟩
set_option maxRecDepth 100000 in
set_option maxHeartbeats 1000000 in
theorem act4 (w : World) (s m q : Int) (p t : ByteArray) (on : Bool) (h : Good w G bw bx br key n) (hn : n ≤ 10000000) :
    Calls Tryz.prog 9 #[.pointer (some ⟨bw, 0, none⟩), .agg #[.int .i64 4, .int .i64 s, .int .i64 m, .int .i64 q, .string p, .string t, .bool on]] w fun e w' => e = .returned (.bool true) ∧ Good w' G bw bx br key (n + 1) ∧ Kept (fun k => ¬ G k) w w' := by
  have HG := hid h
  clear h
  have GV : Hid (Good (w.alloc (.cells (actL 4 s m q p t on).toArray 32)) (fun k => G k ∨ k = w.heap.size) bw bx br key n) := HG.out.box _
  have RV : Hid ((w.alloc (.cells (actL 4 s m q p t on).toArray 32)).rangeAt w.heap.size 0 (actL 4 s m q p t on)) := (Blk.new w 32 (actL 4 s m q p t on)).whole
  go_enter Tryz.func9, Tryz.ntmps9
  go_wp2_with (first | ((with_reducible refine ld32 _ w.heap.size 0 4 s m q p t on ?_ RV.out ?_); rfl) | (go_at_call 15; refine (gserve4 _ s m q p t on GV.out hn).mono ?_; rintro e y1 ⟨rfl, j1, k1⟩; have J1 := hid j1; have K1 := hid k1; clear j1 k1))
  go_ret
  exact ⟨rfl, J1.out.weak (fun _ g => Or.inl g) HG.out.g0, kept_box K1.out⟩
set_option maxRecDepth 100000 in
set_option maxHeartbeats 1000000 in
theorem act5 (w : World) (s m q : Int) (p t : ByteArray) (on : Bool) (h : Good w G bw bx br key n) (hn : n ≤ 10000000) :
    Calls Tryz.prog 9 #[.pointer (some ⟨bw, 0, none⟩), .agg #[.int .i64 5, .int .i64 s, .int .i64 m, .int .i64 q, .string p, .string t, .bool on]] w fun e w' => e = .returned (.bool true) ∧ Good w' G bw bx br key (n + 1) ∧ Kept (fun k => ¬ G k) w w' := by
  have HG := hid h
  clear h
  have GV : Hid (Good (w.alloc (.cells (actL 5 s m q p t on).toArray 32)) (fun k => G k ∨ k = w.heap.size) bw bx br key n) := HG.out.box _
  have RV : Hid ((w.alloc (.cells (actL 5 s m q p t on).toArray 32)).rangeAt w.heap.size 0 (actL 5 s m q p t on)) := (Blk.new w 32 (actL 5 s m q p t on)).whole
  go_enter Tryz.func9, Tryz.ntmps9
  go_wp2_with (first | ((with_reducible refine ld32 _ w.heap.size 0 5 s m q p t on ?_ RV.out ?_); rfl) | (go_at_call 15; refine (gserve5 _ s m q p t on GV.out hn).mono ?_; rintro e y1 ⟨rfl, j1, k1⟩; have J1 := hid j1; have K1 := hid k1; clear j1 k1))
  go_ret
  exact ⟨rfl, J1.out.weak (fun _ g => Or.inl g) HG.out.g0, kept_box K1.out⟩
set_option maxRecDepth 100000 in
set_option maxHeartbeats 1000000 in
theorem act6 (w : World) (s m q : Int) (p t : ByteArray) (on : Bool) (h : Good w G bw bx br key n) (hn : n ≤ 10000000) :
    Calls Tryz.prog 9 #[.pointer (some ⟨bw, 0, none⟩), .agg #[.int .i64 6, .int .i64 s, .int .i64 m, .int .i64 q, .string p, .string t, .bool on]] w fun e w' => e = .returned (.bool true) ∧ Good w' G bw bx br key (n + 1) ∧ Kept (fun k => ¬ G k) w w' := by
  have HG := hid h
  clear h
  have GV : Hid (Good (w.alloc (.cells (actL 6 s m q p t on).toArray 32)) (fun k => G k ∨ k = w.heap.size) bw bx br key n) := HG.out.box _
  have RV : Hid ((w.alloc (.cells (actL 6 s m q p t on).toArray 32)).rangeAt w.heap.size 0 (actL 6 s m q p t on)) := (Blk.new w 32 (actL 6 s m q p t on)).whole
  go_enter Tryz.func9, Tryz.ntmps9
  go_wp2_with (first | ((with_reducible refine ld32 _ w.heap.size 0 6 s m q p t on ?_ RV.out ?_); rfl) | (go_at_call 15; refine (gserve6 _ s m q p t on GV.out hn).mono ?_; rintro e y1 ⟨rfl, j1, k1⟩; have J1 := hid j1; have K1 := hid k1; clear j1 k1))
  go_ret
  exact ⟨rfl, J1.out.weak (fun _ g => Or.inl g) HG.out.g0, kept_box K1.out⟩
set_option maxRecDepth 100000 in
set_option maxHeartbeats 1000000 in
theorem act7 (w : World) (s m q : Int) (p t : ByteArray) (on : Bool) (h : Good w G bw bx br key n) (hn : n ≤ 10000000) :
    Calls Tryz.prog 9 #[.pointer (some ⟨bw, 0, none⟩), .agg #[.int .i64 7, .int .i64 s, .int .i64 m, .int .i64 q, .string p, .string t, .bool on]] w fun e w' => e = .returned (.bool true) ∧ Good w' G bw bx br key (n + 1) ∧ Kept (fun k => ¬ G k) w w' := by
  have HG := hid h
  clear h
  have GV : Hid (Good (w.alloc (.cells (actL 7 s m q p t on).toArray 32)) (fun k => G k ∨ k = w.heap.size) bw bx br key n) := HG.out.box _
  have RV : Hid ((w.alloc (.cells (actL 7 s m q p t on).toArray 32)).rangeAt w.heap.size 0 (actL 7 s m q p t on)) := (Blk.new w 32 (actL 7 s m q p t on)).whole
  go_enter Tryz.func9, Tryz.ntmps9
  go_wp2_with (first | ((with_reducible refine ld32 _ w.heap.size 0 7 s m q p t on ?_ RV.out ?_); rfl) | (go_at_call 16; refine (gkeys7 _ s m q p t on GV.out hn).mono ?_; rintro e y1 ⟨rfl, j1, k1⟩; have J1 := hid j1; have K1 := hid k1; clear j1 k1))
  go_ret
  exact ⟨rfl, J1.out.weak (fun _ g => Or.inl g) HG.out.g0, kept_box K1.out⟩
end Go.Proofs.YtphapknfkbgapaaGreatDoor
namespace Go.Proofs.YtphapknfkbgapaaGreatDoor
open Go.RowKit

variable {w w' : World} {G : Nat → Prop} {bw bx br : Nat} {key : ByteArray} {n : Nat}
theorem gstate (w : World) (h : Good w G bw bx br key n) :
    Calls Tryz.prog 18 #[.pointer (some ⟨bw, 0, none⟩)] w fun e w' => e = .returned (.bool true) ∧ Good w' G bw bx br key n ∧ Kept (fun k => ¬ G k) w w' := by
  obtain ⟨X, Y, outs, ⟨Fx, Fr, Fw, H, j⟩, r, b, o⟩ := h
  refine (lstate_any w j.x j.r j.o (by rw [r.ky]; simp) r.rev.symm r.floor.symm (r.ep.2.trans r.ep.1.symm) (by rw [r.ky, r.ep.2, r.write]; exact writesOne key) (r.turn.2.trans r.turn.1.symm)).mono ?_
  rintro e w' ⟨rfl, l⟩
  exact ⟨rfl, Good.low ⟨X, Y, outs, ⟨Fx, Fr, Fw, H, j⟩, r, b, o⟩ l, l.keptF _⟩
theorem glooks (w : World) (h : Good w G bw bx br key n) (hn : n ≤ 20000000) :
    Calls Tryz.prog 10 #[.pointer (some ⟨bw, 0, none⟩)] w fun e w' => e = .returned (.bool true) ∧ Good w' G bw bx br key n ∧ Kept (fun k => ¬ G k) w w' := by
  obtain ⟨X, Y, outs, ⟨Fx, Fr, Fw, H, j⟩, r, b, o⟩ := h
  refine (looks_any w Fw H bw bx br outs j.o j.ok (by omega)).mono ?_
  rintro e w' ⟨rfl, l⟩
  exact ⟨rfl, Good.low ⟨X, Y, outs, ⟨Fx, Fr, Fw, H, j⟩, r, b, o⟩ l, l.keptF _⟩
theorem gentries (w : World) (h : Good w G bw bx br key n) (hn : n ≤ 20000000) :
    Calls Tryz.prog 19 #[.pointer (some ⟨bw, 0, none⟩)] w fun e w' => e = .returned (.bool true) ∧ Good w' G bw bx br key (n + 1) ∧ Kept (fun k => ¬ G k) w w' := by
  obtain ⟨X, Y, outs, ⟨Fx, Fr, Fw, H, j⟩, r, b, o⟩ := h
  refine (lentries_any w j.x j.r j.o j.ok j.wh j.hb r.ent.symm (by have := r.few; have := r.rooms; omega) (by have := b.all; omega) (by omega)).mono ?_
  rintro e w' ⟨rfl, outs', F', H', hl, ho, hk, hd, hF, hH, hb, k⟩
  have bx' := j.x.below
  have br' := j.r.below
  have bg := j.gb
  refine ⟨rfl, ⟨X, Y, outs', ⟨Fx, Fr, F', H', j.x.kept k (fun i hi g => j.xw i hi g), j.r.kept k (fun i hi g => j.rw i hi g), ho, hk, hb, fun g hg => Nat.lt_of_lt_of_le (j.gb g hg) k.size, j.gx, j.gr, fun q f g => ?_, j.xr, fun q f g => ?_, fun q g f => ?_, fun q f g => ?_, fun q g f => ?_, hd, j.g0, fours_at j.f (k.block 0 (j.gb 0 j.g0) (fun f => j.gw 0 f j.g0)) k.os k.output k.size, fun q hq g => (hH q hq).elim (fun e => j.gh q e g) (fun e => by have := bg q g; omega)⟩, r, b.up, by omega⟩, k.mono (fun i _ f g => j.gw i f g)⟩
  · rcases hF q f with e | e
    · exact j.gw q e g
    · have := bg q g; omega
  · rcases hF q g with e | e
    · exact j.xw q f e
    · have := bx' q f; omega
  · rcases hH q g with e | e
    · exact j.xh q e f
    · have := bx' q f; omega
  · rcases hF q g with e | e
    · exact j.rw q f e
    · have := br' q f; omega
  · rcases hH q g with e | e
    · exact j.rh q e f
    · have := br' q f; omega
/-! act, of the kinds that no call belongs to, and of the two that look. -/
set_option maxRecDepth 100000 in
set_option maxHeartbeats 1000000 in
theorem act17 (w : World) (s m q : Int) (p t : ByteArray) (on : Bool) (h : Good w G bw bx br key n) :
    Calls Tryz.prog 9 #[.pointer (some ⟨bw, 0, none⟩), .agg #[.int .i64 17, .int .i64 s, .int .i64 m, .int .i64 q, .string p, .string t, .bool on]] w fun e w' => e = .returned (.bool true) ∧ Good w' G bw bx br key (n + 1) ∧ Kept (fun k => ¬ G k) w w' := by
  have HG := hid h
  clear h
  have GV : Hid (Good (w.alloc (.cells (actL 17 s m q p t on).toArray 32)) (fun k => G k ∨ k = w.heap.size) bw bx br key n) := HG.out.box _
  go_enter Tryz.func9, Tryz.ntmps9
  go_wp2_with (go_at_call 18; refine (gstate _ GV.out).mono ?_; rintro e y1 ⟨rfl, j1, k1⟩; have J1 := hid j1; have K1 := hid k1; clear j1 k1)
  go_ret
  exact ⟨rfl, (J1.out.weak (fun _ g => Or.inl g) HG.out.g0).up, kept_box K1.out⟩
set_option maxRecDepth 100000 in
set_option maxHeartbeats 1000000 in
theorem act18 (w : World) (s m q : Int) (p t : ByteArray) (on : Bool) (h : Good w G bw bx br key n) (hn : n ≤ 10000000) :
    Calls Tryz.prog 9 #[.pointer (some ⟨bw, 0, none⟩), .agg #[.int .i64 18, .int .i64 s, .int .i64 m, .int .i64 q, .string p, .string t, .bool on]] w fun e w' => e = .returned (.bool true) ∧ Good w' G bw bx br key (n + 1) ∧ Kept (fun k => ¬ G k) w w' := by
  have HG := hid h
  clear h
  have GV : Hid (Good (w.alloc (.cells (actL 18 s m q p t on).toArray 32)) (fun k => G k ∨ k = w.heap.size) bw bx br key n) := HG.out.box _
  go_enter Tryz.func9, Tryz.ntmps9
  go_wp2_with (go_at_call 19; refine (gentries _ GV.out (by omega)).mono ?_; rintro e y1 ⟨rfl, j1, k1⟩; have J1 := hid j1; have K1 := hid k1; clear j1 k1)
  go_ret
  exact ⟨rfl, J1.out.weak (fun _ g => Or.inl g) HG.out.g0, kept_box K1.out⟩
set_option maxRecDepth 100000 in
set_option maxHeartbeats 1000000 in
theorem actNo (w : World) (k s m q : Int) (p t : ByteArray) (on : Bool) (h : Good w G bw bx br key n) (hk : k < 1 ∨ 18 < k) :
    Calls Tryz.prog 9 #[.pointer (some ⟨bw, 0, none⟩), .agg #[.int .i64 k, .int .i64 s, .int .i64 m, .int .i64 q, .string p, .string t, .bool on]] w fun e w' => e = .returned (.bool true) ∧ Good w' G bw bx br key (n + 1) ∧ Kept (fun k => ¬ G k) w w' := by
  have q1 : (k == 1) = false := beq_eq_false_iff_ne.2 (by omega)
  have q2 : (k == 2) = false := beq_eq_false_iff_ne.2 (by omega)
  have q3 : (k == 3) = false := beq_eq_false_iff_ne.2 (by omega)
  have q4 : (k == 4) = false := beq_eq_false_iff_ne.2 (by omega)
  have q5 : (k == 5) = false := beq_eq_false_iff_ne.2 (by omega)
  have q6 : (k == 6) = false := beq_eq_false_iff_ne.2 (by omega)
  have q7 : (k == 7) = false := beq_eq_false_iff_ne.2 (by omega)
  have q8 : (k == 8) = false := beq_eq_false_iff_ne.2 (by omega)
  have q9 : (k == 9) = false := beq_eq_false_iff_ne.2 (by omega)
  have q10 : (k == 10) = false := beq_eq_false_iff_ne.2 (by omega)
  have q11 : (k == 11) = false := beq_eq_false_iff_ne.2 (by omega)
  have q12 : (k == 12) = false := beq_eq_false_iff_ne.2 (by omega)
  have q13 : (k == 13) = false := beq_eq_false_iff_ne.2 (by omega)
  have q14 : (k == 14) = false := beq_eq_false_iff_ne.2 (by omega)
  have q15 : (k == 15) = false := beq_eq_false_iff_ne.2 (by omega)
  have q16 : (k == 16) = false := beq_eq_false_iff_ne.2 (by omega)
  have q17 : (k == 17) = false := beq_eq_false_iff_ne.2 (by omega)
  have q18 : (k == 18) = false := beq_eq_false_iff_ne.2 (by omega)
  have HG := hid h
  clear h hk
  go_enter Tryz.func9, Tryz.ntmps9
  go_wp2
  go_ret
  have l : Low w.heap.size w (w.alloc (.cells (actL k s m q p t on).toArray 32)) := (Low.refl _ w).alloc (Nat.le_refl _) _
  exact ⟨rfl, (HG.out.low l).up, l.keptF _⟩
/-- Every act that is played. -/
theorem act_any (w : World) (k s m q : Int) (p t : ByteArray) (on : Bool) (h : Good w G bw bx br key n) (hn : n ≤ 10000000) (hp : p.size ≤ maxLen) (hq : t.size ≤ maxLen) (hk : k < 8 ∨ 16 < k) :
    Calls Tryz.prog 9 #[.pointer (some ⟨bw, 0, none⟩), .agg #[.int .i64 k, .int .i64 s, .int .i64 m, .int .i64 q, .string p, .string t, .bool on]] w fun e w' => e = .returned (.bool true) ∧ Good w' G bw bx br key (n + 1) ∧ Kept (fun k => ¬ G k) w w' := by
  have : (k < 1 ∨ 18 < k) ∨ k = 1 ∨ k = 2 ∨ k = 3 ∨ k = 4 ∨ k = 5 ∨ k = 6 ∨ k = 7 ∨ k = 17 ∨ k = 18 := by omega
  rcases this with h0 | rfl | rfl | rfl | rfl | rfl | rfl | rfl | rfl | rfl
  · exact actNo w k s m q p t on h h0
  · exact act1 w s m q p t on h
  · exact act2 w s m q p t on h
  · exact act3 w s m q p t on h hn hp hq
  · exact act4 w s m q p t on h hn
  · exact act5 w s m q p t on h hn
  · exact act6 w s m q p t on h hn
  · exact act7 w s m q p t on h hn
  · exact act17 w s m q p t on h
  · exact act18 w s m q p t on h hn
set_option maxRecDepth 100000 in
set_option maxHeartbeats 1000000 in
theorem fits_no (w : World) (k s n q : Int) (p t : ByteArray) (on : Bool) (hk : 8 ≤ k ∧ k ≤ 16) :
    Calls Tryz.prog 12 #[.agg #[.int .i64 k, .int .i64 s, .int .i64 n, .int .i64 q, .string p, .string t, .bool on], .int .i64 0] w fun e w' => e = .returned (.bool false) ∧ Low w.heap.size w w' := by
  have : k = 8 ∨ k = 9 ∨ k = 10 ∨ k = 11 ∨ k = 12 ∨ k = 13 ∨ k = 14 ∨ k = 15 ∨ k = 16 := by omega
  clear hk
  rcases this with rfl | rfl | rfl | rfl | rfl | rfl | rfl | rfl | rfl
  all_goals
    go_enter Tryz.func12, Tryz.ntmps12
    go_wp2
    go_ret
    exact ⟨rfl, (Low.refl _ w).alloc (Nat.le_refl _) _⟩
/-! last. -/
set_option maxRecDepth 100000 in
set_option maxHeartbeats 1000000 in
theorem llast_any (w : World) (h : Good w G bw bx br key n) (hn : n ≤ 10000000) :
    Calls Tryz.prog 11 #[.pointer (some ⟨bw, 0, none⟩)] w fun e w' => e = .returned (.bool true) ∧ Good w' G bw bx br key (n + 1) ∧ Kept (fun k => ¬ G k) w w' := by
  have HG := hid h
  clear h
  go_enter Tryz.func11, Tryz.ntmps11
  go_wp2_with (first | (go_at_call 18; refine (gstate _ HG.out).mono ?_; rintro e y1 ⟨rfl, j1, k1⟩; have J1 := hid j1; have K1 := hid k1; clear j1 k1) | (go_at_call 19; refine (gentries _ J1.out (by omega)).mono ?_; rintro e y2 ⟨rfl, j2, k2⟩; have J2 := hid j2; have K2 := hid k2; clear j2 k2) | (go_at_call 10; refine (glooks _ J2.out (by omega)).mono ?_; rintro e y3 ⟨rfl, j3, k3⟩; have J3 := hid j3; have K3 := hid k3; clear j3 k3))
  go_ret
  exact ⟨rfl, J3.out, (K1.out.trans K2.out (fun _ f => f) (fun _ _ f => f)).trans K3.out (fun _ f => f) (fun _ _ f => f)⟩
end Go.Proofs.YtphapknfkbgapaaGreatDoor
namespace Go.Proofs.YtphapknfkbgapaaGreatDoor
open Go.RowKit

/-! plays: a script, act by act. -/

structure Deed where
  k : Int
  s : Int
  m : Int
  q : Int
  p : ByteArray
  t : ByteArray
  on : Bool
/-- The script lies in memory. -/
def Script (w : World) (a : Option Addr) (acts : List Deed) : Prop := (0 < acts.length → ∃ b o, a = some ⟨b, o, none⟩ ∧ b < w.heap.size ∧ ∀ i d, acts[i]? = some d → w.rangeAt b (o + i * 7) (actL d.k d.s d.m d.q d.p d.t d.on)) ∧ ∀ d ∈ acts, d.p.size ≤ maxLen ∧ d.t.size ≤ maxLen
theorem good_new {w w' : World} {G Fx Fr Fw : Nat → Prop} {bw bx br m : Nat} {room : Int} {key : ByteArray} (hc : cfgOk (m : Int) room key = true) (l : Low w.heap.size w w') (hx : XIn w' Fx bx (PS.new m room key)) (hr : RIn w' Fr br (RS.new m room key)) (hw : WIn w' Fw bw bx br [])
    (h1 : ∀ k, Fx k → w.heap.size ≤ k ∧ ¬ Fr k ∧ ¬ Fw k) (h2 : ∀ k, Fr k → w.heap.size ≤ k ∧ ¬ Fw k) (h3 : ∀ k, Fw k → w.heap.size ≤ k) (hG : ∀ k, G k → k < w.heap.size) (g0 : G 0) (hf : Fours w) : Good w' G bw bx br key 0 :=
  ⟨_, _, [], ⟨Fx, Fr, Fw, fun _ => False, hx, hr, hw, fun o ho => (by cases ho), fun _ f => f.elim, fun k hk => Nat.lt_of_lt_of_le (hG k hk) l.size, fun k f g => (by have := (h1 k f).1; have := hG k g; omega), fun k f g => (by have := (h2 k f).1; have := hG k g; omega), fun k f g => (by have := h3 k f; have := hG k g; omega), fun k f => (h1 k f).2.1, fun k f => (h1 k f).2.2, fun _ f => f.elim, fun k f => (h2 k f).2, fun _ f => f.elim, fun _ f => f.elim, g0, fours_at hf (l.block 0 (hG 0 g0)) l.os l.output l.size, fun _ f => f.elim⟩,
    (new_rel m room key hc).1, (new_rel m room key hc).2, by simp⟩
theorem range_kept {w w' : World} {B b o : Nat} {cs : List Value} (k : Kept (fun q => ¬ q < B) w w') (hb : b < B) (h : w.rangeAt b o cs) : w'.rangeAt b o cs := fun j v e => k.cell (h j v e) (fun f => f hb)
theorem kept_and {F : Nat → Prop} {a b c : World} (h : Kept F a b) (k : Kept F b c) : Kept F a c := h.trans k (fun _ f => f) (fun _ _ f => f)
set_option maxRecDepth 100000 in
set_option maxHeartbeats 1000000 in
theorem plays_no (w : World) (servers room : Int) (key : ByteArray) (v : Value) (parts : Int) (h : cfgOk servers room key = false) :
    Calls Tryz.prog 7 #[.agg #[.int .i64 servers, .int .i64 room, .string key], v, .int .i64 parts] w fun e w' => e = .returned (.bool true) ∧ Low w.heap.size w w' := by
  have HH := hid h
  clear h
  go_enter Tryz.func7, Tryz.ntmps7
  go_wp2_with (go_at_call 8; refine (made_no _ _ _ _ HH.out).mono ?_; rintro e y1 ⟨rfl, l1⟩; have L1 : Hid (Low w.heap.size w y1) := ((Low.refl _ w).alloc (Nat.le_refl _) _).trans (l1.mono (by simp)); clear l1)
  go_ret
  exact ⟨rfl, L1.out⟩
set_option maxRecDepth 100000 in
set_option maxHeartbeats 2000000 in
theorem plays_yes (w : World) (m : Nat) (room : Int) (key : ByteArray) (a : Option Addr) (cap : Nat) (acts : List Deed) (h : cfgOk (m : Int) room key = true) (hs : Script w a acts) (hn : acts.length ≤ 1048576) (hf : Fours w) (h0 : 0 < w.heap.size) :
    Calls Tryz.prog 7 #[.agg #[.int .i64 (m : Int), .int .i64 room, .string key], .slice a acts.length cap, .int .i64 0] w fun e w' => e = .returned (.bool true) ∧ Low w.heap.size w w' := by
  have HC := hid h
  have HS := hid hs
  have HF := hid hf
  have HN := hid hn
  have H0 := hid h0
  clear h hs hf hn h0
  go_enter Tryz.func7, Tryz.ntmps7
  go_upto_region 4 with (go_at_call 8; refine (made_yes _ m room key HC.out).mono ?_; rintro e y1 ⟨bw, bx, br, Fx, Fr, Fw, rfl, l1, x1, r1, o1, d1, d2, d3⟩; have LA : Hid (Low w.heap.size w y1) := ((Low.refl _ w).alloc (Nat.le_refl _) _).trans (l1.mono (by simp)); have GA : Hid (Good y1 (fun k => k < w.heap.size) bw bx br key 0) := good_new HC.out LA.out x1 r1 o1 (fun k f => ⟨Nat.le_trans (by simp) (d1 k f).1, (d1 k f).2⟩) (fun k f => ⟨Nat.le_trans (by simp) (d2 k f).1, (d2 k f).2⟩) (fun k f => Nat.le_trans (by simp) (d3 k f)) (fun _ hk => hk) H0.out HF.out; clear l1 x1 r1 o1 d1 d2 d3)
  go_wp2_with fail
  go_loopg [8, 9] acts.length (fun left ov iv wr => ∃ i : Nat, left = acts.length - i ∧ i ≤ acts.length ∧ ov = .bool true ∧ iv = .int .i64 (i : Int) ∧ Hid (Good wr (fun k => k < w.heap.size) bw bx br key i) ∧ Hid (Kept (fun k => ¬ k < w.heap.size) w wr))
  case atStart => exact ⟨0, rfl, Nat.zero_le _, rfl, rfl, GA.out, LA.out.keptF _⟩
  case round =>
    obtain ⟨i, hgk, hi, rfl, rfl, HG, HK⟩ := hrel
    have HGK := hid hgk
    clear hgk
    by_cases h3 : i < acts.length
    · have q1 : decide ((i : Int) < (acts.length : Int)) = true := by simp; omega
      have il : (i : Int) < (acts.length : Int) := by omega
      obtain ⟨d, hd⟩ : ∃ d, acts[i]? = some d := ⟨_, List.getElem?_eq_getElem h3⟩
      obtain ⟨b, o, ha, hb, hc⟩ := HS.out.1 (by omega)
      subst ha
      have SZ := hid (HS.out.2 d (List.mem_of_getElem? hd))
      have HB := hid hb
      have R0 : Hid (w.rangeAt b (o + i * 7) (actL d.k d.s d.m d.q d.p d.t d.on)) := hc i d hd
      have RV : Hid (wr.rangeAt b (o + i * 7) (actL d.k d.s d.m d.q d.p d.t d.on)) := range_kept HK.out HB.out R0.out
      clear hc hd hb
      by_cases hk : d.k < 8 ∨ 16 < d.k
      · have HKK := hid hk
        clear hk
        go_wp2_with (first | ((with_reducible refine ld32 _ b (o + i * 7) d.k d.s d.m d.q d.p d.t d.on ?_ RV.out ?_); rfl) | ((with_reducible refine ld32 _ b (o + i * 7) d.k d.s d.m d.q d.p d.t d.on ?_ R1.out ?_); rfl) | (go_at_call 12; refine (fits_serve _ d.k d.s d.m d.q d.p d.t d.on HKK.out 0).mono ?_; rintro e z1 ⟨rfl, l1⟩; have K1 : Hid (Kept (fun k => ¬ k < w.heap.size) w z1) := kept_and HK.out (l1.keptF _); have G1 : Hid (Good z1 (fun k => k < w.heap.size) bw bx br key i) := HG.out.low l1; have R1 : Hid (z1.rangeAt b (o + i * 7) (actL d.k d.s d.m d.q d.p d.t d.on)) := range_kept K1.out HB.out R0.out; clear l1) | (go_at_call 9; refine (act_any _ d.k d.s d.m d.q d.p d.t d.on G1.out (by have := HN.out; omega) SZ.out.1 SZ.out.2 HKK.out).mono ?_; rintro e z2 ⟨rfl, g2, k2⟩; have G2 := hid g2; have K2 : Hid (Kept (fun k => ¬ k < w.heap.size) w z2) := kept_and K1.out k2; clear g2 k2) | (go_at_call 10; refine (glooks _ G2.out (by have := HN.out; omega)).mono ?_; rintro e z3 ⟨rfl, g3, k3⟩; have G3 := hid g3; have K3 : Hid (Kept (fun k => ¬ k < w.heap.size) w z3) := kept_and K2.out k3; clear g3 k3))
        go_roundg (acts.length - (i + 1))
        case rel => exact ⟨i + 1, rfl, by omega, rfl, by have := HN.out; simp; unfold wrap64; omega, G3.out, K3.out⟩
        case measure => have := HGK.out; omega
      · have HKK : Hid (8 ≤ d.k ∧ d.k ≤ 16) := by
          show 8 ≤ d.k ∧ d.k ≤ 16
          omega
        clear hk
        go_wp2_with (first | ((with_reducible refine ld32 _ b (o + i * 7) d.k d.s d.m d.q d.p d.t d.on ?_ RV.out ?_); rfl) | (go_at_call 12; refine (fits_no _ d.k d.s d.m d.q d.p d.t d.on HKK.out).mono ?_; rintro e z1 ⟨rfl, l1⟩; have K1 : Hid (Kept (fun k => ¬ k < w.heap.size) w z1) := kept_and HK.out (l1.keptF _); have G1 : Hid (Good z1 (fun k => k < w.heap.size) bw bx br key (i + 1)) := (HG.out.low l1).up; clear l1))
        go_roundg (acts.length - (i + 1))
        case rel => exact ⟨i + 1, rfl, by omega, rfl, by have := HN.out; simp; unfold wrap64; omega, G1.out, K1.out⟩
        case measure => have := HGK.out; omega
    · have q1 : decide ((i : Int) < (acts.length : Int)) = false := by simp; omega
      go_wp2_with (go_at_call 11; refine (llast_any _ HG.out (by have := HN.out; omega)).mono ?_; rintro e z1 ⟨rfl, g1, k1⟩; have K1 : Hid (Kept (fun k => ¬ k < w.heap.size) w z1) := kept_and HK.out k1; clear g1 k1)
      go_ret
      exact ⟨rfl, K1.out.os, K1.out.output, K1.out.size, fun k hk => K1.out.block k hk (fun f => f hk)⟩
/-! Stores. -/
set_option maxRecDepth 100000 in
set_option maxHeartbeats 1000000 in
theorem stores_of (w : World) (servers room : Int) (key : ByteArray) (a : Option Addr) (n cap : Nat)
    (h : ∀ V, Low w.heap.size w V → 0 < V.heap.size → Calls Tryz.prog 7 #[.agg #[.int .i64 servers, .int .i64 room, .string key], .slice a n cap, .int .i64 0] V fun e w' => e = .returned (.bool true) ∧ Low V.heap.size V w') :
    Calls Tryz.prog 3 #[.agg #[.int .i64 servers, .int .i64 room, .string key], .slice a n cap] w fun e w' => e = .returned (.bool true) ∧ Low w.heap.size w w' := by
  have HH := hid h
  clear h
  go_enter Tryz.func3, Tryz.ntmps3
  go_wp2_with (go_at_call 7; refine (HH.out _ ((Low.refl _ w).alloc (Nat.le_refl _) _) (by simp)).mono ?_; rintro e y1 ⟨rfl, l1⟩; have L1 : Hid (Low w.heap.size w y1) := ((Low.refl _ w).alloc (Nat.le_refl _) _).trans (l1.mono (by simp)); clear l1)
  go_ret
  exact ⟨rfl, L1.out⟩
theorem Script.low {w w' : World} {a : Option Addr} {acts : List Deed} (h : Script w a acts) (l : Low w.heap.size w w') : Script w' a acts := by
  refine ⟨fun h0 => ?_, h.2⟩
  obtain ⟨b, o, ha, hb, hc⟩ := h.1 h0
  exact ⟨b, o, ha, Nat.lt_of_lt_of_le hb l.size, fun i d hd j v e => (l.cell hb).trans (hc i d hd j v e)⟩
theorem stores_walk (w : World) (servers room : Int) (key : ByteArray) (a : Option Addr) (cap : Nat) (acts : List Deed) (hs : Script w a acts) (hn : acts.length ≤ 1048576) (hf : Fours w) (h1 : 1 ≤ w.heap.size) :
    Calls Tryz.prog 3 #[.agg #[.int .i64 servers, .int .i64 room, .string key], .slice a acts.length cap] w fun e w' => e = .returned (.bool true) ∧ Low w.heap.size w w' := by
  refine stores_of w servers room key a acts.length cap fun V l h0 => ?_
  cases hc : cfgOk servers room key
  · exact plays_no V servers room key _ 0 hc
  · obtain ⟨m, rfl⟩ : ∃ m : Nat, servers = (m : Int) := ⟨servers.toNat, by
      simp only [cfgOk, Bool.and_eq_true, decide_eq_true_eq] at hc
      omega⟩
    exact plays_yes V m room key a cap acts hc (hs.low l) hn (fours_at hf (l.block 0 (by omega)) l.os l.output l.size) h0
end Go.Proofs.YtphapknfkbgapaaGreatDoor
