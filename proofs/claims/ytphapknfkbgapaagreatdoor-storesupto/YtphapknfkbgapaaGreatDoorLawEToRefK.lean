import Derived.Test.YtphapknfkbgapaaGreatDoorRefNToLawD
import Derived.Test.YtphapknfkbgapaaGreatDoorPRepToPO
import Derived.Deep.RegionLaw
import Derived.Lib.ItoaWalk
import Derived.Test.YtphapknfkbgapaaGreatDoorRefIToLawC
import Derived.Deep.DeepCutAuto
namespace Go.Proofs.YtphapknfkbgapaaGreatDoor
open Go.RowKit

variable {F : Nat → Prop} {b : Nat} {Y : RS}

/-! The document's Get and GetAt are its get. -/
set_option maxRecDepth 100000 in
theorem rGet_via (w : World) (s : Int) (p : ByteArray) (h : RIn w F b Y) (A : ByteArray) (B C : Int)
    (hr : Calls Tryz.prog 75 #[.pointer (some ⟨b, 0, none⟩), .int .i64 s, .string p, .int .i64 (Y.all.length : Int), .bool false] w fun e w' => e = .returned (.tuple #[.string A, .int .i64 B, .int .i64 C]) ∧ Low w.heap.size w w') :
    Calls Tryz.prog 32 #[.pointer (some ⟨b, 0, none⟩), .int .i64 s, .string p] w fun e w' => e = .returned (.tuple #[.string A, .int .i64 B, .int .i64 C]) ∧ Low w.heap.size w w' := by
  obtain ⟨a, cap, hc, _⟩ := h.all
  rw [List.length_map] at hc
  have HRD := hid hr
  clear h hr
  go_enter Tryz.func32, Tryz.ntmps32
  go_wp2_with (go_at_call 75; refine HRD.out.mono ?_; rintro e y2 ⟨rfl, l2⟩; have L2 := hid l2; clear l2)
  go_ret3
  exact ⟨rfl, L2.out⟩
set_option maxRecDepth 100000 in
theorem rGetAt_via (w : World) (s : Int) (p : ByteArray) (rev : Int) (A : ByteArray) (B C : Int)
    (hr : Calls Tryz.prog 75 #[.pointer (some ⟨b, 0, none⟩), .int .i64 s, .string p, .int .i64 rev, .bool true] w fun e w' => e = .returned (.tuple #[.string A, .int .i64 B, .int .i64 C]) ∧ Low w.heap.size w w') :
    Calls Tryz.prog 34 #[.pointer (some ⟨b, 0, none⟩), .int .i64 s, .string p, .int .i64 rev] w fun e w' => e = .returned (.tuple #[.string A, .int .i64 B, .int .i64 C]) ∧ Low w.heap.size w w' := by
  have HRD := hid hr
  clear hr
  go_enter Tryz.func34, Tryz.ntmps34
  go_wp2_with (go_at_call 75; refine HRD.out.mono ?_; rintro e y2 ⟨rfl, l2⟩; have L2 := hid l2; clear l2)
  go_ret3
  exact ⟨rfl, L2.out⟩

/-! made. -/
set_option maxRecDepth 100000 in
set_option maxHeartbeats 1000000 in
theorem made_no (w : World) (servers room : Int) (key : ByteArray) (h : cfgOk servers room key = false) :
    Calls Tryz.prog 8 #[.agg #[.int .i64 servers, .int .i64 room, .string key]] w fun e w' => e = .returned (.tuple #[.pointer none, .bool true]) ∧ Low w.heap.size w w' := by
  have HH := hid h
  clear h
  go_enter Tryz.func8, Tryz.ntmps8
  go_wp2_with (first | (go_at_call 13; refine (pNew_no _ _ _ _ HH.out).mono ?_; rintro e y1 ⟨rfl, l1⟩; have b1 : Blk y1 w.heap.size 23 (cfgL servers room key) := (Blk.new w 23 (cfgL servers room key)).low l1 (by simp); have n0 : y1.cell? ⟨w.heap.size, 0, none⟩ = some (.int .i64 servers) := b1.cell 0; have n1 : y1.cell? ⟨w.heap.size, 1, none⟩ = some (.int .i64 room) := b1.cell 1; have n2 : y1.cell? ⟨w.heap.size, 2, none⟩ = some (.string key) := b1.cell 2; have L1 : Hid (Low w.heap.size w y1) := ((Low.refl _ w).alloc (Nat.le_refl _) _).trans (l1.mono (by simp)); clear l1 b1) | (go_at_call 14; refine (New_no _ _ _ _ HH.out).mono ?_; rintro e y2 ⟨rfl, l2⟩; have L2 : Hid (Low w.heap.size w y2) := L1.out.trans (l2.mono L1.out.size); clear l2))
  go_ret2
  exact ⟨rfl, L2.out⟩
set_option maxRecDepth 100000 in
set_option maxHeartbeats 1000000 in
theorem made_yes (w : World) (m : Nat) (room : Int) (key : ByteArray) (h : cfgOk (m : Int) room key = true) :
    Calls Tryz.prog 8 #[.agg #[.int .i64 (m : Int), .int .i64 room, .string key]] w fun e w' => ∃ bw bx br Fx Fr Fw, e = .returned (.tuple #[.pointer (some ⟨bw, 0, none⟩), .bool true]) ∧ Low w.heap.size w w' ∧
      XIn w' Fx bx (PS.new m room key) ∧ RIn w' Fr br (RS.new m room key) ∧ WIn w' Fw bw bx br [] ∧ (∀ k, Fx k → w.heap.size ≤ k ∧ ¬ Fr k ∧ ¬ Fw k) ∧ (∀ k, Fr k → w.heap.size ≤ k ∧ ¬ Fw k) ∧ (∀ k, Fw k → w.heap.size ≤ k) := by
  have HH := hid h
  clear h
  go_enter Tryz.func8, Tryz.ntmps8
  go_wp2_with (first | (go_at_call 13; refine (pNew_yes _ _ _ _ HH.out).mono ?_; rintro e y1 ⟨bx, rfl, x1, l1⟩; have b1 : Blk y1 w.heap.size 23 (cfgL m room key) := (Blk.new w 23 (cfgL m room key)).low l1 (by simp); have n0 : y1.cell? ⟨w.heap.size, 0, none⟩ = some (.int .i64 (m : Int)) := b1.cell 0; have n1 : y1.cell? ⟨w.heap.size, 1, none⟩ = some (.int .i64 room) := b1.cell 1; have n2 : y1.cell? ⟨w.heap.size, 2, none⟩ = some (.string key) := b1.cell 2; have L1 : Hid (Low w.heap.size w y1) := ((Low.refl _ w).alloc (Nat.le_refl _) _).trans (l1.mono (by simp)); rw [World.size_alloc] at x1; have X1 := hid x1; clear l1 b1 x1) | (go_at_call 14; refine (New_yes _ _ _ _ HH.out).mono ?_; rintro e y2 ⟨rfl, r2, l2⟩; have R2 := hid r2; have LL := hid l2; have L2 : Hid (Low w.heap.size w y2) := L1.out.trans (l2.mono L1.out.size); clear l2 r2))
  go_ret2
  refine ⟨_, _, _, _, _, fun k => k = y2.heap.size, rfl, L2.out.alloc L2.out.size _, (X1.out.low LL.out).alloc _, R2.out.alloc _, ⟨.slice none 0 0, ?_⟩, fun k hk => ?_, fun k hk => ?_, fun k hk => ?_⟩
  · refine ⟨Blk.new y2 45 _, rfl, fun k hk => by simp [hk], fun _ => 0, rfl, fun j r hj => ?_⟩
    have hj0 : j = 0 := by
      have : j < 1 := (List.getElem?_eq_some_iff.1 hj).1
      omega
    subst hj0
    obtain rfl := (Option.some.inj hj).symm
    exact ⟨.slice none 0 0, rfl, World.ownsRow_nil _ _ _ _, fun k hk => by cases hk⟩
  · have h1 := LL.out.size
    have h2 := L1.out.size
    refine ⟨by omega, fun hr => ?_, fun hw => ?_⟩
    · omega
    · omega
  · have h1 := LL.out.size
    have h2 := L1.out.size
    refine ⟨by omega, fun hw => ?_⟩
    omega
  · have := L2.out.size
    omega
end Go.Proofs.YtphapknfkbgapaaGreatDoor
namespace Go.Proofs.YtphapknfkbgapaaGreatDoor
open Go.RowKit

section
variable {P : Program} (w : World)
/-- copy of a whole slice into one that was just made. -/
theorem copy_mine (t ty e : TypeId) (size : Nat) (ht : P.underlying t = some (.slice e)) (hi : (P.info? e).map (·.size) = some size) (v : Value) (n : Nat) (xs : List Value) (hown : w.ownsRow 0 e size v n xs)
    (g : Nat) (cur : Array Value) (hg : w.heap[g]? = some (.cells cur e (0, 0))) (hc : cur.size = n * size) (hm : n ≤ maxLen) (h1 : ∀ u ∈ xs, u.oneCell' = true) :
    ∃ w', (Builtin.copy_ #[t, t] ty #[.slice (some ⟨g, 0, none⟩) n n, v]).run P w = .ok (goInt n) w' ∧ w'.ownsRow 0 e size (.slice (some ⟨g, 0, none⟩) n n) n xs ∧ Kept (fun k => k = g) w w' := by
  cases hq : P.info? e with
  | none => simp [hq] at hi
  | some i =>
    have hsz : i.size = size := by simpa [hq] using hi
    have hlen : xs.length = n * size := hown.1
    have hst := run_storeCells_at P g 0 e xs 0 cur w hg (by omega) h1
    have hrow : (cur.toList.take (0 + 0) ++ xs ++ cur.toList.drop (0 + 0 + xs.length)).toArray = xs.toArray := by
      have : cur.toList.drop (0 + 0 + xs.length) = [] := List.drop_eq_nil_of_le (by simp; omega)
      rw [this]; simp
    rw [hrow] at hst
    refine ⟨w.setRow g xs.toArray, ?_, ⟨hlen, Or.inr ⟨g, n, xs.toArray, rfl, Nat.zero_le _, setRow_heap w g cur _ e _ hg, Nat.le_refl _, hm, by simpa using hlen, by rw [List.toList_toArray, ← hlen, List.take_length]⟩⟩, ⟨rfl, rfl, by simp, fun k _ hk => setRow_other w g k _ hk⟩⟩
    rcases hown.2 with ⟨rfl, rfl⟩ | ⟨g', cap, cur', rfl, _, hg', _⟩
    · have hx : xs = [] := List.eq_nil_of_length_eq_zero (by simpa using hlen)
      subst hx
      have hs0 : (storeCells ⟨g, 0, none⟩ [] 0).run P w = .ok () (w.setRow g #[]) := by simpa using hst
      simp [Builtin.copy_, run_underlying ht, Go.sizeOf, typeInfo, hq, Builtin.lenOf, Builtin.firstCells, hs0]
    · have hf := run_firstCells_some (P := P) w i.size n ⟨g', 0, none⟩ n cap xs (by rw [hsz]; exact hlen) (hown.cells (g := g') rfl)
      simp [Builtin.copy_, run_underlying ht, Go.sizeOf, typeInfo, hq, Builtin.lenOf, hf, hst]
theorem wpList_copy_mine {ops : Array Oper} {rest : List Oper} {d : Option Tmp} {t0 : TypeId} {pos : String} {after : Array Edge} {a : Act} {Q : Exit → Act → World → Prop} (x y : Operand) (t e : TypeId) (size : Nat) (ht : P.underlying t = some (.slice e)) (hi : (P.info? e).map (·.size) = some size) (v : Value) (n : Nat) (xs : List Value)
    (g : Nat) (cur : Array Value) (hx : a.eval x = .slice (some ⟨g, 0, none⟩) n n) (hy : a.eval y = v) (hown : w.ownsRow 0 e size v n xs) (hg : w.heap[g]? = some (.cells cur e (0, 0))) (hc : cur.size = n * size) (hm : n ≤ maxLen) (h1 : ∀ u ∈ xs, u.oneCell' = true)
    (h : ∀ w', w'.ownsRow 0 e size (.slice (some ⟨g, 0, none⟩) n n) n xs → Kept (fun k => k = g) w w' → wpList P ops Q rest (a.put d (goInt n)) w') :
    wpList P ops Q ({ dst := d, op := .call { callee := .builtin .copy, args := #[x, y], argTypes := #[t, t] }, type := t0, pos := pos, after := after, guard := none } :: rest) a w := by
  refine wpList_plain rfl fun K hK => ?_
  obtain ⟨w', hr, h2, h3⟩ := copy_mine (P := P) w t t0 e size ht hi v n xs hown g cur hg hc hm h1
  unfold Oper.wp execOp
  simp only [resolve, invoke, builtin, Sem.run_bind, Sem.run_pure, Result.andThen_ok, List.map_toArray, List.map_cons, List.map_nil, hx, hy, hr]
  exact hK _ _ (h w' h2 h3)
end

variable {F : Nat → Prop} {b : Nat} {X : PS}
set_option maxRecDepth 100000 in
set_option maxHeartbeats 1000000 in
theorem pEntries_any (w : World) (h : XIn w F b X) (hn : X.entries.length ≤ 1000) :
    Calls Tryz.prog 57 #[.pointer (some ⟨b, 0, none⟩)] w fun e w' => ∃ v, e = .returned v ∧ Low w.heap.size w w' ∧ w'.ownsRow 0 50 6 v X.entries.length (X.entries.flatMap Ent.cells) ∧ ∀ k, v.ownBlock = some k → w.heap.size ≤ k := by
  obtain ⟨i50, hi50, hz0, hz1, hz2⟩ := info_parts info50
  have hown : ∃ a cap, w.cell? ⟨b, 9, none⟩ = some (.slice a X.entries.length cap) ∧ w.ownsRow 0 50 6 (.slice a X.entries.length cap) X.entries.length (X.entries.flatMap Ent.cells) := by
    obtain ⟨vK, vS, vE, vN, hN, hO⟩ := h
    obtain ⟨v, hv, ho, _⟩ := hO.row 2 rfl
    obtain ⟨a, cap, rfl, _, _⟩ := ownsRow_view ho
    exact ⟨a, cap, by rw [hO.cell]; exact hv, ho⟩
  obtain ⟨a, cap, c9, o9⟩ := hown
  have HR := hid h
  have O9 := hid o9
  have hb := h.lt
  have hby : i50.bytes * X.entries.length ≤ 281474976710656 := by rw [hz2]; omega
  have HBY := hid hby
  have h1 : Hid (∀ u ∈ X.entries.flatMap Ent.cells, u.oneCell' = true) := by
    intro u hu
    obtain ⟨e, _, he⟩ := List.mem_flatMap.1 hu
    exact e.one u he
  have hm : Hid (X.entries.length ≤ maxLen) := by show _ ≤ _; unfold maxLen; omega
  clear h o9 hby
  go_enter Tryz.func57, Tryz.ntmps57
  go_upto_region 2 with (at_make; refine wpList_make_full _ rfl (.tmp 8) (.tmp 8) 46 rfl 0 50 i50 _ 6 Tryz.underlying46 hi50 hz0 hz1 .i64 .i64 _ _ X.entries.length rfl rfl rfl rfl HBY.out hm.out (Nat.zero_le _) ?_; intro W o1 g1; have O1 := hid o1; have G1 := hid g1; clear o1 g1)
  have LW : Hid (Low w.heap.size w W) := ⟨G1.out.os, G1.out.output, G1.out.size, fun k hk => G1.out.block k hk (by simp)⟩
  have c9w : W.cell? ⟨b, 9, none⟩ = some (.slice a X.entries.length cap) := (LW.out.cell hb).trans c9
  have OW : Hid (W.ownsRow 0 50 6 (.slice a X.entries.length cap) X.entries.length (X.entries.flatMap Ent.cells)) := ownsRow_at O9.out (fun q hq => LW.out.block q (O9.out.lt q hq).2)
  have hcur : ∃ cur, W.heap[w.heap.size]? = some (.cells cur 50 (0, 0)) ∧ cur.size = X.entries.length * 6 := by
    rcases O1.out.2 with ⟨q, _⟩ | ⟨g, cap', cur, q, _, hg, _, _, hs, _⟩
    · cases q
    · injection q with q1 q2 q3
      obtain rfl : g = w.heap.size := by injection q1 with q1; injection q1 with q1; exact q1.symm
      exact ⟨cur, hg, by rw [hs, ← q3]⟩
  obtain ⟨cur, hcu, hcs⟩ := hcur
  have HCU := hid hcu
  have HCS := hid hcs
  clear c9 hb hcu hcs
  go_wp2_with ((with_reducible refine wpList_copy_mine _ (.tmp 10) (.tmp 14) 46 50 6 Tryz.underlying46 (show (Tryz.prog.info? 50).map (·.size) = some 6 by kernel_rfl) (.slice a X.entries.length cap) X.entries.length (X.entries.flatMap Ent.cells) w.heap.size cur ?_ ?_ OW.out HCU.out HCS.out hm.out h1.out ?_); rfl; rfl; intro V o2 k2; have O2 := hid o2; have K2 := hid k2; clear o2 k2)
  go_ret
  exact ⟨_, rfl, low_set LW.out K2.out (Nat.le_refl _) LW.out.size, O2.out, fun k hk => Nat.le_of_eq (Option.some.inj hk)⟩
end Go.Proofs.YtphapknfkbgapaaGreatDoor
namespace Go.Proofs.YtphapknfkbgapaaGreatDoor
open Go.RowKit

theorem win_ptrs {w : World} {F : Nat → Prop} {b bx r : Nat} {outs : List LOut} (h : WIn w F b bx r outs) : w.cell? ⟨b, 0, none⟩ = some (.pointer (some ⟨bx, 0, none⟩)) ∧ w.cell? ⟨b, 1, none⟩ = some (.pointer (some ⟨r, 0, none⟩)) ∧ b < w.heap.size := by
  obtain ⟨v, h⟩ := h
  exact ⟨h.cell 0, h.cell 1, h.lt⟩
theorem pState_lit {F : Nat → Prop} {b : Nat} {X : PS} (w : World) (h : XIn w F b X) :
    Calls Tryz.prog 55 #[.pointer (some ⟨b, 0, none⟩)] w fun e w' => e = .returned (.agg #[.int .i64 X.rev, .int .i64 X.floor, .int .i64 X.epoch, .int .i64 X.write, .int .i64 X.turn]) ∧ Low w.heap.size w w' := pState_any w h
theorem rState_lit {F : Nat → Prop} {b : Nat} {Y : RS} (w : World) (h : RIn w F b Y) (hk : Y.keys.length ≤ 6) (a c d e f : Int) (h1 : (Y.all.length : Int) = a) (h2 : Y.floor = c) (h3 : Y.epoch = d) (h4 : writesOf Y.keys Y.epoch = e) (h5 : Y.turn = f) :
    Calls Tryz.prog 56 #[.pointer (some ⟨b, 0, none⟩)] w fun r w' => r = .returned (.agg #[.int .i64 a, .int .i64 c, .int .i64 d, .int .i64 e, .int .i64 f]) ∧ Low w.heap.size w w' := by
  have q := State_any w h hk
  rw [h1, h2, h4, h3, h5] at q
  exact q
set_option maxRecDepth 100000 in
set_option maxHeartbeats 1000000 in
theorem lstate_any {Fx Fr Fw : Nat → Prop} {bx br bw : Nat} {X : PS} {Y : RS} {outs : List LOut} (w : World) (hx : XIn w Fx bx X) (hr : RIn w Fr br Y) (hw : WIn w Fw bw bx br outs) (hk : Y.keys.length ≤ 6) (h1 : (Y.all.length : Int) = X.rev) (h2 : Y.floor = X.floor) (h3 : Y.epoch = X.epoch) (h4 : writesOf Y.keys Y.epoch = X.write) (h5 : Y.turn = X.turn) :
    Calls Tryz.prog 18 #[.pointer (some ⟨bw, 0, none⟩)] w fun e w' => e = .returned (.bool true) ∧ Low w.heap.size w w' := by
  have HX := hid hx
  have HR := hid hr
  have HW := hid hw
  have H1 := hid h1
  have H2 := hid h2
  have H3 := hid h3
  have H4 := hid h4
  have H5 := hid h5
  obtain ⟨c0, c1, lb⟩ := win_ptrs hw
  clear hx hr hw h1 h2 h3 h4 h5
  go_enter Tryz.func18, Tryz.ntmps18
  go_wp2_with (first | (go_at_call 55; refine (pState_lit _ HX.out).mono ?_; rintro e y1 ⟨rfl, l1⟩; have c1b : y1.cell? ⟨bw, 1, none⟩ = some (.pointer (some ⟨br, 0, none⟩)) := (l1.cell lb).trans c1; have lby : bw < y1.heap.size := Nat.lt_of_lt_of_le lb l1.size; have L1 := hid l1; clear l1) | (go_at_call 56; refine (rState_lit _ (by exact (HR.out.low L1.out).alloc _) hk _ _ _ _ _ H1.out H2.out H3.out H4.out H5.out).mono ?_; rintro e y2 ⟨rfl, l2⟩; have bA : Blk y2 y1.heap.size 54 (stCells X.rev X.floor X.epoch X.write X.turn) := (Blk.new y1 54 (stCells X.rev X.floor X.epoch X.write X.turn)).low l2 (by simp); have a0 : y2.cell? ⟨y1.heap.size, 0, none⟩ = some (.int .i64 X.rev) := bA.cell 0; have a1 : y2.cell? ⟨y1.heap.size, 1, none⟩ = some (.int .i64 X.floor) := bA.cell 1; have a2 : y2.cell? ⟨y1.heap.size, 2, none⟩ = some (.int .i64 X.epoch) := bA.cell 2; have a3 : y2.cell? ⟨y1.heap.size, 3, none⟩ = some (.int .i64 X.write) := bA.cell 3; have a4 : y2.cell? ⟨y1.heap.size, 4, none⟩ = some (.int .i64 X.turn) := bA.cell 4; have lA := bA.lt; have L2 : Hid (Low w.heap.size w y2) := (L1.out.alloc L1.out.size _).trans (l2.mono (by have := L1.out.size; simp; omega)); clear l2 bA))
  go_ret
  exact ⟨by simp, L2.out.alloc L2.out.size _⟩
end Go.Proofs.YtphapknfkbgapaaGreatDoor
namespace Go.Proofs.YtphapknfkbgapaaGreatDoor
open Go.RowKit

theorem ent_at {w : World} {g n cap : Nat} {l : List Ent} (h : w.ownsRow 0 50 6 (.slice (some ⟨g, 0, none⟩) n cap) n (l.flatMap Ent.cells)) (hn : n = l.length) (i : Nat) (k : Ent) (hk : l[i]? = some k) (q : Nat) (hq : q < 6) : w.cell? ⟨g, i * 6 + q, none⟩ = k.cells[q]? := by
  have hi : i < l.length := (List.getElem?_eq_some_iff.1 hk).1
  rw [h.cellAt (i * 6 + q) (by omega), flat_at 6 Ent.cells Ent.len l i q k hk hq]
set_option maxRecDepth 100000 in
set_option maxHeartbeats 1000000 in
theorem lentries_any {Fx Fr Fw H : Nat → Prop} {bx br bw : Nat} {X : PS} {Y : RS} {outs : List LOut} (w : World) (hx : XIn w Fx bx X) (hr : RIn w Fr br Y) (hw : WIn w Fw bw bx br outs) (ho : ∀ o ∈ outs, OutOk w H o) (hd : ∀ g, H g → ¬ Fw g) (hH : ∀ g, H g → g < w.heap.size)
    (he : keptOf Y.all = X.entries) (hn : X.entries.length ≤ 100) (hl : Y.all.length ≤ 100000000) (hol : outs.length ≤ 100000000) :
    Calls Tryz.prog 19 #[.pointer (some ⟨bw, 0, none⟩)] w fun e w' => e = .returned (.bool true) ∧ ∃ outs' F' H', outs'.length = outs.length + 4 ∧ WIn w' F' bw bx br outs' ∧ (∀ o ∈ outs', OutOk w' H' o) ∧ (∀ g, H' g → ¬ F' g) ∧
      (∀ q, F' q → Fw q ∨ w.heap.size ≤ q) ∧ (∀ q, H' q → H q ∨ w.heap.size ≤ q) ∧ (∀ q, H' q → q < w'.heap.size) ∧ Kept Fw w w' := by
  have HX := hid hx
  have HR := hid hr
  have HW := hid hw
  have HO := hid ho
  have HD := hid hd
  have HH := hid hH
  have HE := hid he
  obtain ⟨c0, c1, lb⟩ := win_ptrs hw
  clear hx hr hw ho hd hH he
  go_enter Tryz.func19, Tryz.ntmps19
  go_upto_region 5 with (first | (go_at_call 57; refine (pEntries_any _ HX.out (by omega)).mono ?_; rintro e y1 ⟨v1, rfl, l1, o1, b1⟩; obtain ⟨a1, cap1, rfl, _, _⟩ := ownsRow_view o1; have c1b : y1.cell? ⟨bw, 1, none⟩ = some (.pointer (some ⟨br, 0, none⟩)) := (l1.cell lb).trans c1; have L1 := hid l1; have O1 := hid o1; have B1 := hid b1; clear l1 o1 b1) | (go_at_call 58; refine (Entries_any _ (by exact HR.out.low L1.out) hl).mono ?_; rw [HE.out]; rintro e y2 ⟨v2, rfl, l2, o2, b2⟩; obtain ⟨a2, cap2, rfl, _, _⟩ := ownsRow_view o2; have L2 := hid l2; have O2 := hid o2; clear l2 o2 b2))
  have L12 : Hid (Low w.heap.size w y2) := L1.out.trans (L2.out.mono L1.out.size)
  have O1' : Hid (y2.ownsRow 0 50 6 (.slice a1 X.entries.length cap1) X.entries.length (X.entries.flatMap Ent.cells)) := ownsRow_at O1.out (fun q hq => L2.out.block q (O1.out.lt q hq).2)
  clear c0 c1 c1b
  go_wp2_with fail
  go_loopg [5] X.entries.length (fun left iv wr => ∃ i : Nat, left = X.entries.length - i ∧ i ≤ X.entries.length ∧ iv = .int .i64 (i : Int) ∧ Hid (Low y2.heap.size y2 wr))
  case atStart => exact ⟨0, rfl, Nat.zero_le _, rfl, Low.refl _ _⟩
  case round =>
    obtain ⟨i, hgk, hi, rfl, HI⟩ := hrel
    have HGK := hid hgk
    clear hgk
    have P1 : Hid (wr.ownsRow 0 50 6 (.slice a1 X.entries.length cap1) X.entries.length (X.entries.flatMap Ent.cells)) := ownsRow_at O1'.out (fun q hq => HI.out.block q (O1'.out.lt q hq).2)
    have P2 : Hid (wr.ownsRow 0 50 6 (.slice a2 X.entries.length cap2) X.entries.length (X.entries.flatMap Ent.cells)) := ownsRow_at O2.out (fun q hq => HI.out.block q (O2.out.lt q hq).2)
    by_cases h3 : i < X.entries.length
    · have q1 : decide ((i : Int) < (X.entries.length : Int)) = true := by simp; omega
      obtain ⟨k, hk⟩ : ∃ k, X.entries[i]? = some k := ⟨_, List.getElem?_eq_getElem h3⟩
      obtain ⟨s1, t1, e1, _, f1⟩ := ownsRow_view P1.out
      obtain ⟨s2, t2, e2, _, f2⟩ := ownsRow_view P2.out
      obtain ⟨g1, rfl, z1, z2, z3⟩ := f1 (by omega)
      obtain ⟨g2, rfl, z4, z5, z6⟩ := f2 (by omega)
      cases e1
      cases e2
      have il : (i : Int) < (X.entries.length : Int) := by omega
      have p0 : wr.cell? ⟨g1, i * 6, none⟩ = some (.string k.path) := ent_at P1.out rfl i k hk 0 (by omega)
      have p1 : wr.cell? ⟨g1, i * 6 + 1, none⟩ = some (.int .i64 k.rev) := ent_at P1.out rfl i k hk 1 (by omega)
      have p2 : wr.cell? ⟨g1, i * 6 + 2, none⟩ = some (.int .i64 k.key) := ent_at P1.out rfl i k hk 2 (by omega)
      have p3 : wr.cell? ⟨g1, i * 6 + 3, none⟩ = some (.int .i64 k.draw) := ent_at P1.out rfl i k hk 3 (by omega)
      have p4 : wr.cell? ⟨g1, i * 6 + 4, none⟩ = some (.string k.sealed) := ent_at P1.out rfl i k hk 4 (by omega)
      have p5 : wr.cell? ⟨g1, i * 6 + 5, none⟩ = some (.bool k.gone) := ent_at P1.out rfl i k hk 5 (by omega)
      have r0 : wr.cell? ⟨g2, i * 6, none⟩ = some (.string k.path) := ent_at P2.out rfl i k hk 0 (by omega)
      have r1 : wr.cell? ⟨g2, i * 6 + 1, none⟩ = some (.int .i64 k.rev) := ent_at P2.out rfl i k hk 1 (by omega)
      have r2 : wr.cell? ⟨g2, i * 6 + 2, none⟩ = some (.int .i64 k.key) := ent_at P2.out rfl i k hk 2 (by omega)
      have r3 : wr.cell? ⟨g2, i * 6 + 3, none⟩ = some (.int .i64 k.draw) := ent_at P2.out rfl i k hk 3 (by omega)
      have r4 : wr.cell? ⟨g2, i * 6 + 4, none⟩ = some (.string k.sealed) := ent_at P2.out rfl i k hk 4 (by omega)
      have r5 : wr.cell? ⟨g2, i * 6 + 5, none⟩ = some (.bool k.gone) := ent_at P2.out rfl i k hk 5 (by omega)
      have qp : (k.path.toList == k.path.toList) = true := beq_self_eq_true _
      have qs : (k.sealed.toList == k.sealed.toList) = true := beq_self_eq_true _
      clear hk f1 f2 z1 z2 z3 z4 z5 z6
      go_upto_region 8 with fail
      go_region
      all_goals go_wp2_with fail
      all_goals
        go_roundg (X.entries.length - (i + 1))
        case rel => exact ⟨i + 1, rfl, by omega, by simp, HI.out.drew⟩
        case measure => have := HGK.out; omega
    · have q1 : decide ((i : Int) < (X.entries.length : Int)) = false := by simp; omega
      have L3 : Hid (Low w.heap.size w wr) := L12.out.trans (HI.out.mono L12.out.size)
      have W3 : Hid (WIn wr Fw bw bx br outs) := win_low HW.out L3.out
      have hfr : Hid (∀ g, (Value.slice a1 X.entries.length cap1).ownBlock = some g → w.heap.size ≤ g) := B1.out
      have hFb : Hid (∀ q, Fw q → q < w.heap.size) := by
        obtain ⟨u, hO⟩ := HW.out
        exact hO.below
      go_wp2_with (go_at_call 59; refine (own_any _ Fw H bw bx br outs _ X.entries W3.out (fun o hm => out_low (HO.out o hm) L3.out) HD.out P1.out (fun g e => ⟨fun f => by have := hFb.out g f; have := hfr.out g e; omega, fun f => by have := HH.out g f; have := hfr.out g e; omega⟩) (fun g f => Nat.lt_of_lt_of_le (HH.out g f) L3.out.size) hn hol).mono ?_; rintro e y3 ⟨rfl, outs', F', H', a1', a2', a3', a4', a5', a6', a8', a7'⟩; have RES : Hid (∃ outs' F' H', outs'.length = outs.length + 4 ∧ WIn y3 F' bw bx br outs' ∧ (∀ o ∈ outs', OutOk y3 H' o) ∧ (∀ g, H' g → ¬ F' g) ∧ (∀ q, F' q → Fw q ∨ w.heap.size ≤ q) ∧ (∀ q, H' q → H q ∨ w.heap.size ≤ q) ∧ (∀ q, H' q → q < y3.heap.size) ∧ Kept Fw w y3) := ⟨outs', F', H', a1', a2', a3', a4', fun q f => (a5' q f).imp id (fun x => Nat.le_trans L3.out.size x), fun q f => (a6' q f).elim Or.inl (fun x => x.elim (fun y => Or.inr (hfr.out q y)) (fun y => Or.inr (Nat.le_trans L3.out.size y))), a8', L3.out.kept.trans a7' (fun _ f => f.elim) (fun q hq f => f.elim id (fun y => by have := hfr.out q y; omega))⟩; clear a1' a2' a3' a4' a5' a6' a7' a8')
      go_ret
      exact ⟨rfl, RES.out⟩
end Go.Proofs.YtphapknfkbgapaaGreatDoor
namespace Go.Proofs.YtphapknfkbgapaaGreatDoor
open Go.RowKit

variable {F : Nat → Prop} {b : Nat} {X : PS}

theorem xin_rowE {w : World} (h : XIn w F b X) : ∃ a cap, w.cell? ⟨b, 9, none⟩ = some (.slice a X.entries.length cap) ∧ w.ownsRow 0 50 6 (.slice a X.entries.length cap) X.entries.length (X.entries.flatMap Ent.cells) ∧ (Value.slice a X.entries.length cap).ownBlock ≠ some b := by
  obtain ⟨vK, vS, vE, vN, hN, hO⟩ := h
  obtain ⟨v, hv, ho, _⟩ := hO.row 2 rfl
  have hn := hO.apart 2 rfl hv
  obtain ⟨a, cap, rfl, _, _⟩ := ownsRow_view ho
  exact ⟨a, cap, by rw [hO.cell]; exact hv, ho, hn⟩
theorem xin_appE {w w1 : World} {v v' : Value} {o : Obj} (h : XIn w F b X) (hv : w.cell? ⟨b, 9, none⟩ = some v) (k : Kept (fun q => v.ownBlock = some q) (w.alloc o) w1) (K : Ent) (ho : w1.ownsRow 0 50 6 v' (X.entries.length + 1) (X.entries.flatMap Ent.cells ++ K.cells)) (P : v'.ownBlock = v.ownBlock ∨ v'.ownBlock = some (w.alloc o).heap.size) :
    XIn (w1.setCell ⟨b, 9, none⟩ v') (grow F w (w1.setCell ⟨b, 9, none⟩ v')) b { X with entries := X.entries ++ [K] } ∧ Kept F w (w1.setCell ⟨b, 9, none⟩ v') := by
  obtain ⟨vK, vS, vE, vN, hN, hO⟩ := h
  obtain rfl : vE = v := Option.some.inj ((hO.cell 9).symm.trans hv)
  obtain ⟨q1, q2⟩ := hO.appended (Low.refl _ w) 2 rfl rfl k ho P (X.offs 2 rfl)
  exact ⟨⟨vK, vS, v', vN, hN, q1.cast rfl (by simp [PS.rows])⟩, q2⟩
def PS.add (X : PS) (e : Ent) : PS := { X with rev := X.rev + 1, entries := X.entries ++ [{ e with rev := X.rev + 1 }] }
set_option maxRecDepth 100000 in
set_option maxHeartbeats 1000000 in
theorem add_any (w : World) (e : Ent) (h : XIn w F b X) (hn : X.entries.length ≤ 1000) (hr : 0 ≤ X.rev ∧ X.rev ≤ 1000000000000) :
    Calls Tryz.prog 68 #[.pointer (some ⟨b, 0, none⟩), .agg #[.string e.path, .int .i64 e.rev, .int .i64 e.key, .int .i64 e.draw, .string e.sealed, .bool e.gone]] w fun r w' =>
      r = .returned (.int .i64 (X.rev + 1)) ∧ XIn w' (grow F w w') b (X.add e) ∧ Kept F w w' := by
  have HR := hid h
  have c0 := xin_rev h
  have f0 := h.frozen 0
  have hb := h.lt
  have hr0 := hr.1
  have hr1 := hr.2
  clear h hr
  go_enter Tryz.func68, Tryz.ntmps68
  go_upto_region 3 with fail
  go_name_world W hW
  obtain ⟨E, hE⟩ : ∃ E : Ent, E = { e with rev := X.rev + 1 } := ⟨_, rfl⟩
  have hX : XIn W F b { X with rev := X.rev + 1 } := by rw [← hW]; exact (xin_set_rev HR.out (X.rev + 1)).alloc _
  have hB : Blk W w.heap.size 50 E.cells := by
    have q := Blk.new (w.setCell ⟨b, 0, none⟩ (.int .i64 (X.rev + 1))) 50 E.cells
    rw [World.size_setCell] at q
    rw [← hW, hE]
    rw [hE] at q
    exact q
  have hK : Kept F w W := by rw [← hW]; exact (setCell_kept w ⟨b, 0, none⟩ _).trans ((Low.refl _ _).alloc (Nat.le_refl _) _).kept (fun q e => by rw [show q = b from e]; exact HR.out.inF) (fun _ _ f => f.elim)
  obtain ⟨a, cap, c9, o9, n9⟩ := xin_rowE hX
  have c9 : W.cell? ⟨b, 9, none⟩ = some (.slice a X.entries.length cap) := c9
  have o9 : W.ownsRow 0 50 6 (.slice a X.entries.length cap) X.entries.length (X.entries.flatMap Ent.cells) := o9
  have n9 : (Value.slice a X.entries.length cap).ownBlock ≠ some b := n9
  have lb := hX.lt
  have lN := hB.lt
  have hNn : (Value.slice a X.entries.length cap).ownBlock ≠ some w.heap.size := fun q => by
    obtain ⟨vK, vS, vE, vN, hN, hO⟩ := hX
    obtain rfl : vE = .slice a X.entries.length cap := Option.some.inj ((hO.cell 9).symm.trans c9)
    obtain ⟨v2, hv2, _, hF2⟩ := hO.row 2 rfl
    obtain rfl : v2 = _ := (Option.some.inj hv2).symm
    have := HR.out.below _ (hF2 _ q)
    omega
  have HX := hid hX
  have HB := hid hB
  have HK := hid hK
  have HE := hid hE
  have O9 := hid o9
  have N9 := hid n9
  have C9 := hid c9
  have F9 := hid (hX.frozen 9)
  have LB := hid lb
  have LN := hid lN
  have NN := hid hNn
  have e0 : W.cell? ⟨w.heap.size, 0, none⟩ = some (.string E.path) := hB.cell 0
  have e1 : W.cell? ⟨w.heap.size, 1, none⟩ = some (.int .i64 E.rev) := hB.cell 1
  have e2 : W.cell? ⟨w.heap.size, 2, none⟩ = some (.int .i64 E.key) := hB.cell 2
  have e3 : W.cell? ⟨w.heap.size, 3, none⟩ = some (.int .i64 E.draw) := hB.cell 3
  have e4 : W.cell? ⟨w.heap.size, 4, none⟩ = some (.string E.sealed) := hB.cell 4
  have e5 : W.cell? ⟨w.heap.size, 5, none⟩ = some (.bool E.gone) := hB.cell 5
  have E1 := hid e1
  clear hX hB hK hE o9 n9 hNn hW c0 f0
  go_region_law
    ((refine step_append_mine _ rfl (.tmp 24) (.tmp 26) 46 rfl 50 _ 6 64 Tryz.underlying46 info50 rfl (by omega) (.slice a X.entries.length cap) X.entries.length (X.entries.flatMap Ent.cells) ?_ ?_ ⟨W.heap.size, 0, none⟩ 1 1 E.cells ?_ rfl ?_ (Ent.one _) ⟨by omega, by omega⟩ ?_; rfl; exact (World.ownsRow.alloc (w := W) O9.out _); rfl; exact (news_new W E.cells 50); intro v' w1 o1 k1 p1; obtain ⟨a', cap', rfl, _, _⟩ := ownsRow_view o1; have O1 := hid o1; have K1 := hid k1.of_drew; have P1 := hid p1; have c9w := kept_cell K1.out LB.out N9.out C9.out; have f9w := kept_frozen K1.out LB.out N9.out F9.out; have e1w := kept_cell K1.out LN.out NN.out E1.out; clear o1 k1 p1))
  all_goals go_wp2_with fail
  all_goals go_ret
  all_goals
    obtain ⟨q1, q2⟩ := xin_appE HX.out C9.out K1.out E O1.out P1.out
    have hsz := HK.out.size
    refine ⟨by rw [HE.out]; rfl, ?_, HK.out.trans q2 (fun _ f => f) (fun _ _ f => f)⟩
    have hres : ({ X with rev := X.rev + 1, entries := X.entries ++ [E] } : PS) = X.add e := by rw [HE.out]; rfl
    rw [← hres]
    exact XIn.more q1 (fun k hk => hk.elim Or.inl (fun hk => Or.inr ⟨by omega, hk.2⟩)) (fun k hk => hk.elim (fun hk => XIn.below q1 k (Or.inl hk)) (fun hk => hk.2))
end Go.Proofs.YtphapknfkbgapaaGreatDoor
namespace Go.Proofs.YtphapknfkbgapaaGreatDoor
open Go.RowKit

variable {F : Nat → Prop} {b : Nat} {X : PS}

def outl (X : PS) (e : Ent) (rev : Int) : Bool := decide (rev < e.rev) || ((e.rev == (newestOf X.entries e.path rev).rev) && !e.gone)
set_option maxRecDepth 100000 in
set_option maxHeartbeats 1000000 in
theorem outlives_any (w : World) (e : Ent) (rev : Int) (h : XIn w F b X) (hn : X.entries.length ≤ 1000) :
    Calls Tryz.prog 80 #[.pointer (some ⟨b, 0, none⟩), .agg #[.string e.path, .int .i64 e.rev, .int .i64 e.key, .int .i64 e.draw, .string e.sealed, .bool e.gone], .int .i64 rev] w fun r w' => r = .returned (.bool (outl X e rev)) ∧ Low w.heap.size w w' := by
  have HR := hid h
  obtain ⟨E, hE⟩ : ∃ E, newestOf X.entries e.path rev = E := ⟨_, rfl⟩
  have HE := hid hE
  clear h hE
  cases h1 : decide (rev < e.rev)
  · cases h2 : (e.rev == E.rev)
    all_goals
      go_enter Tryz.func80, Tryz.ntmps80
      go_wp2_with (first | (go_at_call 78; refine (newest_any _ _ _ (by exact HR.out.alloc _) hn).mono ?_; rw [HE.out]; rintro r y1 ⟨rfl, l1⟩; have bE : Blk y1 w.heap.size 50 e.cells := (Blk.new w 50 e.cells).low l1 (by simp); have L1 : Hid (Low w.heap.size w y1) := ((Low.refl _ w).alloc (Nat.le_refl _) _).trans (l1.mono (by simp)); have BE := hid bE; clear l1 bE) | ((with_reducible refine st50 (.tmp 7) (.tmp 16) y1.heap.size Ent.zero E ?_ ?_ ?_ ?_); rfl; rfl; exact (Blk.new y1 50 Ent.zero.cells); intro W b2 k2 s2; have m1 : W.cell? ⟨y1.heap.size, 1, none⟩ = some (.int .i64 E.rev) := b2.cell 1; have BW : Blk W w.heap.size 50 e.cells := (BE.out.alloc _).kept k2 (by have := BE.out.lt; omega); have n1 : W.cell? ⟨w.heap.size, 1, none⟩ = some (.int .i64 e.rev) := BW.cell 1; have n5 : W.cell? ⟨w.heap.size, 5, none⟩ = some (.bool e.gone) := BW.cell 5; have LW : Hid (Low w.heap.size w W) := low_set (L1.out.alloc L1.out.size _) k2 L1.out.size (by have := L1.out.size; simp; omega); clear b2 k2 s2 BW))
      go_ret
      exact ⟨by simp [outl, h1, HE.out, h2], LW.out⟩
  · go_enter Tryz.func80, Tryz.ntmps80
    go_wp2_with fail
    go_ret
    exact ⟨by simp [outl, h1], (Low.refl _ w).alloc (Nat.le_refl _) _⟩
def pBadCut (X : PS) (rev : Int) : Bool := decide (rev ≤ X.floor) || decide (X.rev < rev)
set_option maxRecDepth 100000 in
theorem pCompact_no (w : World) (rev : Int) (h : XIn w F b X) (hr : pBadCut X rev = true) :
    Calls Tryz.prog 37 #[.pointer (some ⟨b, 0, none⟩), .int .i64 rev] w fun e w' => e = .returned (.int .i64 15) ∧ w' = w := by
  have c0 := xin_rev h
  have c1 := xin_floor h
  clear h
  cases h1 : decide (rev ≤ X.floor)
  · have h2 : decide (X.rev < rev) = true := by simpa [pBadCut, h1] using hr
    clear hr
    go_enter Tryz.func37, Tryz.ntmps37
    go_wp2_with fail
    go_ret
    exact ⟨rfl, rfl⟩
  · clear hr
    go_enter Tryz.func37, Tryz.ntmps37
    go_wp2_with fail
    go_ret
    exact ⟨rfl, rfl⟩
def PS.compact (X : PS) (rev : Int) : PS := { X with floor := rev, entries := X.entries.filter (fun e => outl X e rev) }
theorem filter_snoc {α : Type} (p : α → Bool) (l : List α) (x : α) : (l ++ [x]).filter p = if p x then l.filter p ++ [x] else l.filter p := by
  rw [List.filter_append]
  cases h : p x <;> simp [h]
theorem xin_newE {w w1 : World} {v v' : Value} {n : List Ent} (h : XIn w F b X) (hv : w.cell? ⟨b, 9, none⟩ = some v) (k : Low w.heap.size w w1) (ho : w1.ownsRow 0 50 6 v' n.length (n.flatMap Ent.cells)) (hw : ∀ q, v'.ownBlock = some q → w.heap.size ≤ q) :
    XIn (w1.setCell ⟨b, 9, none⟩ v') (grow F w w1) b { X with entries := n } ∧ Kept F w (w1.setCell ⟨b, 9, none⟩ v') := by
  obtain ⟨vK, vS, vE, vN, hN, hO⟩ := h
  obtain rfl : vE = v := Option.some.inj ((hO.cell 9).symm.trans hv)
  have q1 := hO.rowNew 2 rfl rfl (k.kept.mono (fun _ _ f => f.elim)) ho (Or.inr hw) (X.offs 2 rfl)
  exact ⟨⟨vK, vS, v', vN, hN, q1.cast rfl (by simp [PS.rows])⟩, k.kept.trans (setCell_kept w1 ⟨b, 9, none⟩ v') (fun _ f => f.elim) (fun q _ e => by rw [show q = b from e]; exact hO.inF)⟩
set_option maxRecDepth 100000 in
set_option maxHeartbeats 1000000 in
theorem pCompact_yes (w : World) (rev : Int) (h : XIn w F b X) (hr : pBadCut X rev = false) (hn : X.entries.length ≤ 1000) :
    Calls Tryz.prog 37 #[.pointer (some ⟨b, 0, none⟩), .int .i64 rev] w fun e w' => e = .returned (.int .i64 0) ∧ XIn w' (grow F w w') b (X.compact rev) ∧ Kept F w w' := by
  have HR := hid h
  have c0 := xin_rev h
  have c1 := xin_floor h
  simp only [pBadCut, Bool.or_eq_false_iff] at hr
  have h1 := hr.1
  have h2 := hr.2
  clear h hr
  go_enter Tryz.func37, Tryz.ntmps37
  go_wp2_with fail
  go_loopg [5, 6] X.entries.length (fun left kv iv wr => ∃ i : Nat, left = X.entries.length - i ∧ i ≤ X.entries.length ∧ iv = .int .i64 (i : Int) ∧ Hid (Low w.heap.size w wr ∧ wr.ownsRow 0 50 6 kv ((X.entries.take i).filter (fun e => outl X e rev)).length (((X.entries.take i).filter (fun e => outl X e rev)).flatMap Ent.cells) ∧ ∀ q, kv.ownBlock = some q → w.heap.size ≤ q))
  case atStart =>
    refine ⟨0, rfl, Nat.zero_le _, rfl, (Low.refl _ w).alloc (Nat.le_refl _) _, ?_, fun q hq => ?_⟩
    · exact World.ownsRow_lit w #[] 0 (Nat.zero_le _) (Nat.zero_le _) rfl
    · exact Nat.le_of_eq (Option.some.inj hq)
  case round =>
    obtain ⟨i, hgk, hi, rfl, HI⟩ := hrel
    have HGK := hid hgk
    clear hgk c0 c1
    have XR := hid (HR.out.low HI.out.1)
    obtain ⟨a, cap, c9, hel⟩ := xin_entries XR.out
    rw [List.length_map] at c9
    by_cases h3 : i < X.entries.length
    · have q1 : decide ((i : Int) < (X.entries.length : Int)) = true := by simp; omega
      obtain ⟨k, hk⟩ : ∃ k, X.entries[i]? = some k := ⟨_, List.getElem?_eq_getElem h3⟩
      obtain ⟨g, rfl, hg, hcs, _⟩ := hel i k.cells (by rw [List.getElem?_map, hk]; rfl)
      have d0a : wr.cell? ⟨g, i * 6, none⟩ = some (.string k.path) := hcs 0 (by omega)
      have d1a : wr.cell? ⟨g, i * 6 + 1, none⟩ = some (.int .i64 k.rev) := hcs 1 (by omega)
      have d2a : wr.cell? ⟨g, i * 6 + 2, none⟩ = some (.int .i64 k.key) := hcs 2 (by omega)
      have d3a : wr.cell? ⟨g, i * 6 + 3, none⟩ = some (.int .i64 k.draw) := hcs 3 (by omega)
      have d4a : wr.cell? ⟨g, i * 6 + 4, none⟩ = some (.string k.sealed) := hcs 4 (by omega)
      have d5a : wr.cell? ⟨g, i * 6 + 5, none⟩ = some (.bool k.gone) := hcs 5 (by omega)
      have HT := hid (take_snoc hk)
      have HS := hid (filter_snoc (fun e => outl X e rev) (X.entries.take i) k)
      have hil : (i : Int) < (X.entries.length : Int) := by omega
      have hle : Hid (((X.entries.take i).filter (fun e => outl X e rev)).length + 1 ≤ 1000000000) := by
        have q := List.length_filter_le (fun e => outl X e rev) (X.entries.take i)
        have q2 := List.length_take_le i X.entries
        show _ ≤ _
        omega
      clear hcs hk hel
      cases hqq : outl X k rev
      · have hq := hid hqq
        go_wp2_with (go_at_call 80; refine (outlives_any _ k rev (by exact XR.out) hn).mono ?_; rw [hq.out]; rintro r y1 ⟨rfl, l1⟩; have c9b : y1.cell? ⟨b, 9, none⟩ = some (.slice (some ⟨g, 0, none⟩) X.entries.length cap) := (l1.cell XR.out.lt).trans c9; have d0b : y1.cell? ⟨g, i * 6, none⟩ = some (.string k.path) := (l1.cell hg).trans d0a; have d1b : y1.cell? ⟨g, i * 6 + 1, none⟩ = some (.int .i64 k.rev) := (l1.cell hg).trans d1a; have d2b : y1.cell? ⟨g, i * 6 + 2, none⟩ = some (.int .i64 k.key) := (l1.cell hg).trans d2a; have d3b : y1.cell? ⟨g, i * 6 + 3, none⟩ = some (.int .i64 k.draw) := (l1.cell hg).trans d3a; have d4b : y1.cell? ⟨g, i * 6 + 4, none⟩ = some (.string k.sealed) := (l1.cell hg).trans d4a; have d5b : y1.cell? ⟨g, i * 6 + 5, none⟩ = some (.bool k.gone) := (l1.cell hg).trans d5a; have hgy : g < y1.heap.size := Nat.lt_of_lt_of_le hg l1.size; have L1 : Hid (Low w.heap.size w y1) := HI.out.1.trans (l1.mono HI.out.1.size); have O1 : Hid (y1.ownsRow 0 50 6 u5 ((X.entries.take i).filter (fun e => outl X e rev)).length (((X.entries.take i).filter (fun e => outl X e rev)).flatMap Ent.cells)) := ownsRow_at HI.out.2.1 (fun q hq => l1.block q (HI.out.2.1.lt q hq).2); clear l1)
        go_roundg (X.entries.length - (i + 1))
        case rel => exact ⟨i + 1, rfl, by omega, by simp, L1.out, by rw [HT.out, HS.out, hqq]; exact O1.out, HI.out.2.2⟩
        case measure => have := HGK.out; omega
      · have hq := hid hqq
        go_wp2_with (first | (go_at_call 80; refine (outlives_any _ k rev (by exact XR.out) hn).mono ?_; rw [hq.out]; rintro r y1 ⟨rfl, l1⟩; have c9b : y1.cell? ⟨b, 9, none⟩ = some (.slice (some ⟨g, 0, none⟩) X.entries.length cap) := (l1.cell XR.out.lt).trans c9; have d0b : y1.cell? ⟨g, i * 6, none⟩ = some (.string k.path) := (l1.cell hg).trans d0a; have d1b : y1.cell? ⟨g, i * 6 + 1, none⟩ = some (.int .i64 k.rev) := (l1.cell hg).trans d1a; have d2b : y1.cell? ⟨g, i * 6 + 2, none⟩ = some (.int .i64 k.key) := (l1.cell hg).trans d2a; have d3b : y1.cell? ⟨g, i * 6 + 3, none⟩ = some (.int .i64 k.draw) := (l1.cell hg).trans d3a; have d4b : y1.cell? ⟨g, i * 6 + 4, none⟩ = some (.string k.sealed) := (l1.cell hg).trans d4a; have d5b : y1.cell? ⟨g, i * 6 + 5, none⟩ = some (.bool k.gone) := (l1.cell hg).trans d5a; have hgy : g < y1.heap.size := Nat.lt_of_lt_of_le hg l1.size; have L1 : Hid (Low w.heap.size w y1) := HI.out.1.trans (l1.mono HI.out.1.size); have O1 : Hid (y1.ownsRow 0 50 6 u5 ((X.entries.take i).filter (fun e => outl X e rev)).length (((X.entries.take i).filter (fun e => outl X e rev)).flatMap Ent.cells)) := ownsRow_at HI.out.2.1 (fun q hq => l1.block q (HI.out.2.1.lt q hq).2); clear l1) | (at_builtin; refine wpList_append_mine _ rfl (.tmp 43) (.tmp 51) 46 rfl 50 _ 6 64 Tryz.underlying46 info50 rfl (by omega) u5 _ _ rfl (O1.out.alloc _) ⟨y1.heap.size, 0, none⟩ 1 1 k.cells rfl rfl (by exact news_new y1 k.cells 50) (Ent.one _) ⟨hle.out, by omega⟩ ?_; intro v' w1 o1 k1 p1; have O2 := hid o1; have A2 := hid (append_low L1.out HI.out.2.2 k1 p1); clear o1 k1 p1))
        go_roundg (X.entries.length - (i + 1))
        case rel =>
          refine ⟨i + 1, rfl, by omega, by simp, A2.out.1, ?_, A2.out.2⟩
          rw [HT.out, HS.out, hqq, if_pos rfl, List.length_append, flat_snoc]
          exact O2.out
        case measure => have := HGK.out; omega
    · have q1 : decide ((i : Int) < (X.entries.length : Int)) = false := by simp; omega
      obtain rfl : i = X.entries.length := by omega
      rw [List.take_length] at HI
      have f9 := XR.out.frozen 9
      have f1 := XR.out.frozen 1
      have d1 := xin_floor XR.out
      obtain ⟨a5, cap5, rfl, _, _⟩ := ownsRow_view HI.out.2.1
      obtain ⟨a9, cap9, c9', _, _⟩ := xin_rowE HR.out
      obtain ⟨r1, k1⟩ := xin_newE HR.out c9' HI.out.1 HI.out.2.1 HI.out.2.2
      have r2 := xin_set_floor r1 rev
      have R2 := hid r2
      have K1 := hid k1
      clear r1 k1 r2 hel c9'
      go_wp2_with fail
      go_ret
      refine ⟨rfl, XIn.more R2.out (fun k hk => ?_) (fun k hk => ?_), K1.out.trans (setCell_kept _ ⟨b, 1, none⟩ _) (fun _ f => f) (fun q _ e => by rw [show q = b from e]; exact HR.out.inF)⟩
      · exact hk.imp id (fun hk => ⟨hk.1, by simpa using hk.2⟩)
      · exact hk.elim (fun hk => R2.out.below k (Or.inl hk)) (fun hk => hk.2)
end Go.Proofs.YtphapknfkbgapaaGreatDoor
namespace Go.Proofs.YtphapknfkbgapaaGreatDoor
open Go.RowKit

/-! What the program keeps, and what the document's answer keeps: plain data. -/

/-- Revisions are places. -/
def Revs (all : List RKept) : Prop := ∀ (i : Nat) (k : RKept), all[i]? = some k → k.e.rev = (i : Int) + 1
theorem Revs.init {l : List RKept} {k : RKept} (h : Revs (l ++ [k])) : Revs l := fun i x hx => h i x (by rw [List.getElem?_append_left (List.getElem?_eq_some_iff.1 hx).1]; exact hx)
theorem Revs.last {l : List RKept} {k : RKept} (h : Revs (l ++ [k])) : k.e.rev = (l.length : Int) + 1 := h l.length k (by rw [List.getElem?_append_right (Nat.le_refl _)]; simp)
theorem snoc_ind {α : Type} {P : List α → Prop} (h0 : P []) (h1 : ∀ l x, P l → P (l ++ [x])) (l : List α) : P l := by
  have : ∀ m : List α, P m.reverse := by
    intro m
    induction m with
    | nil => exact h0
    | cons x r ih => rw [List.reverse_cons]; exact h1 _ _ ih
  have := this l.reverse
  rwa [List.reverse_reverse] at this
theorem newest_last (p : ByteArray) (rev : Int) (all : List RKept) : Revs all → newestOf (keptOf all) p rev = (lastOf (all.take rev.toNat) p).getD Ent.zero := by
  refine snoc_ind (P := fun all => Revs all → newestOf (keptOf all) p rev = (lastOf (all.take rev.toNat) p).getD Ent.zero) ?_ ?_ all
  · intro _
    simp [keptOf, newestOf, lastOf]
  · intro l k ih h
    have hl := h.last
    have ih := ih h.init
    rw [keptOf_snoc]
    by_cases hr : l.length + 1 ≤ rev.toNat
    · have hd : decide (k.e.rev ≤ rev) = true := by simp; omega
      rw [List.take_of_length_le (by simp; omega), lastOf_snoc]
      rw [List.take_of_length_le (by omega)] at ih
      cases ho : k.out
      · simp only [Bool.false_eq_true, if_false, newestOf_snoc, hd, Bool.true_and, Bool.not_false]
        cases k.e.path.toList == p.toList
        · exact ih
        · rfl
      · simpa using ih
    · have hd : decide (k.e.rev ≤ rev) = false := by simp; omega
      rw [List.take_append_of_le_length (by omega)]
      cases ho : k.out
      · simp only [Bool.false_eq_true, if_false, newestOf_snoc, hd, Bool.false_and]
        exact ih
      · simpa using ih
/-- The newest of a path, up to the last revision. -/
theorem newest_all (p : ByteArray) (all : List RKept) (h : Revs all) : newestOf (keptOf all) p (all.length : Int) = (lastOf all p).getD Ent.zero := by
  have := newest_last p (all.length : Int) all h
  rw [Int.toNat_natCast, List.take_length] at this
  exact this
theorem lastOf_mem {l : List RKept} {p : ByteArray} {e : Ent} (h : lastOf l p = some e) : ∃ k ∈ l, k.e = e ∧ k.out = false ∧ e.path.toList = p.toList := by
  unfold lastOf at h
  obtain ⟨k, hk, rfl⟩ := Option.map_eq_some_iff.1 h
  have h1 := List.mem_of_find?_eq_some hk
  have h2 := List.find?_some hk
  simp only [Bool.and_eq_true, Bool.not_eq_true', beq_iff_eq] at h2
  exact ⟨k, List.mem_reverse.1 h1, rfl, h2.1, h2.2⟩
end Go.Proofs.YtphapknfkbgapaaGreatDoor
namespace Go.Proofs.YtphapknfkbgapaaGreatDoor
open Go.RowKit

variable {F : Nat → Prop} {b : Nat} {Y : RS}

def RS.commit (Y : RS) (i : Nat) (u : RUnd) : RS :=
  if commitErr Y u == 0 then { Y.setOp i RUnd.zero with all := Y.all ++ [⟨{ u.e with rev := (Y.all.length : Int) + 1 }, false⟩] } else Y.setOp i RUnd.zero
def RS.commitRev (Y : RS) (u : RUnd) : Int := if commitErr Y u == 0 then (Y.all.length : Int) + 1 else 0
theorem RUnd.entry {w : World} {g : Nat} {u : RUnd} (h : Blk w g 77 u.cells) : w.rangeAt g 1 u.e.cells := h.range (fun j hj => by
  have hj : j < 6 := hj
  have : j = 0 ∨ j = 1 ∨ j = 2 ∨ j = 3 ∨ j = 4 ∨ j = 5 := by omega
  rcases this with rfl | rfl | rfl | rfl | rfl | rfl <;> rfl)
theorem Blk.drew {w : World} {b : Nat} {t : TypeId} {cs : List Value} (h : Blk w b t cs) : Blk w.drew b t cs := h
theorem metA {W y2 : World} {X : Ent} {T : Bool} (l : Low W.heap.size W y2) : ∃ M, Value.pointer (some ⟨y2.heap.size, 0, none⟩) = Value.pointer (some ⟨M, 0, none⟩) ∧ Value.bool T = Value.bool T ∧
    Hid (Low W.heap.size W (y2.alloc (Obj.cells #[Value.string X.path, Value.int .i64 X.rev, Value.int .i64 X.key, Value.int .i64 X.draw, Value.string X.sealed, Value.bool X.gone] 50)) ∧ W.heap.size ≤ M ∧ Blk (y2.alloc (Obj.cells #[Value.string X.path, Value.int .i64 X.rev, Value.int .i64 X.key, Value.int .i64 X.draw, Value.string X.sealed, Value.bool X.gone] 50)) M 50 X.cells) :=
  ⟨_, rfl, rfl, l.alloc l.size _, l.size, Blk.new y2 50 X.cells⟩
theorem metB {W y2 : World} {X : Ent} {T : Bool} (l : Low W.heap.size W y2) (z : Blk y2 W.heap.size 50 Ent.zero.cells) : ∃ M, Value.pointer (some ⟨W.heap.size, 0, none⟩) = Value.pointer (some ⟨M, 0, none⟩) ∧ Value.bool T = Value.bool T ∧
    Hid (Low W.heap.size W ((((((y2.setCell ⟨W.heap.size, 0, none⟩ (Value.string X.path)).setCell ⟨W.heap.size, 1, none⟩ (Value.int .i64 X.rev)).setCell ⟨W.heap.size, 2, none⟩ (Value.int .i64 X.key)).setCell ⟨W.heap.size, 3, none⟩ (Value.int .i64 X.draw)).setCell ⟨W.heap.size, 4, none⟩ (Value.string X.sealed)).setCell ⟨W.heap.size, 5, none⟩ (Value.bool X.gone)) ∧ W.heap.size ≤ M ∧ Blk ((((((y2.setCell ⟨W.heap.size, 0, none⟩ (Value.string X.path)).setCell ⟨W.heap.size, 1, none⟩ (Value.int .i64 X.rev)).setCell ⟨W.heap.size, 2, none⟩ (Value.int .i64 X.key)).setCell ⟨W.heap.size, 3, none⟩ (Value.int .i64 X.draw)).setCell ⟨W.heap.size, 4, none⟩ (Value.string X.sealed)).setCell ⟨W.heap.size, 5, none⟩ (Value.bool X.gone)) M 50 X.cells) :=
  ⟨_, rfl, rfl, (((((l.setCell (Nat.le_refl _) _).setCell (Nat.le_refl _) _).setCell (Nat.le_refl _) _).setCell (Nat.le_refl _) _).setCell (Nat.le_refl _) _).setCell (Nat.le_refl _) _, Nat.le_refl _, (((((z.set 0 _).set 1 _).set 2 _).set 3 _).set 4 _).set 5 _⟩
theorem commit_err {w y : World} {i : Nat} {u : RUnd} (c : Int) (hc : commitErr Y u = c) (hne : (c == 0) = false) (R : RIn y F b (Y.setOp i RUnd.zero)) (K : Kept F w y) (r : Ending) (hr : r = .returned (.tuple #[.int .i64 0, .int .i64 c])) :
    r = .returned (.tuple #[.int .i64 (Y.commitRev u), .int .i64 (commitErr Y u)]) ∧ RIn y (grow F w y) b (Y.commit i u) ∧ Kept F w y := by
  unfold RS.commitRev RS.commit
  rw [hc, hne]
  exact ⟨hr, R.grow, K⟩
theorem commit_ok {w y y2 : World} {i : Nat} {u : RUnd} (hc : commitErr Y u = 0) (R : RIn y2 (grow F y y2) b { Y.setOp i RUnd.zero with all := Y.all ++ [⟨{ u.e with rev := (Y.all.length : Int) + 1 }, false⟩] }) (K : Kept F w y) (K2 : Kept F y y2) (r : Ending) (hr : r = .returned (.tuple #[.int .i64 ((Y.all.length : Int) + 1), .int .i64 0])) :
    r = .returned (.tuple #[.int .i64 (Y.commitRev u), .int .i64 (commitErr Y u)]) ∧ RIn y2 (grow F w y2) b (Y.commit i u) ∧ Kept F w y2 := by
  unfold RS.commitRev RS.commit
  rw [hc]
  refine ⟨hr, ?_, K.trans K2 (fun _ f => f) (fun _ _ f => f)⟩
  exact RIn.more R (fun k h => h.elim Or.inl (fun h => Or.inr ⟨Nat.le_trans K.size h.1, h.2⟩)) (fun k h => h.elim (fun h => RIn.below R k (Or.inl h)) (fun h => h.2))
theorem Ent.lit (X : Ent) : X.cells.toArray = #[Value.string X.path, Value.int .i64 X.rev, Value.int .i64 X.key, Value.int .i64 X.draw, Value.string X.sealed, Value.bool X.gone] := rfl
theorem last_lit (w : World) (p : ByteArray) (rev : Int) (h : RIn w F b Y) (hn : Y.all.length ≤ 100000000) (X : Ent) (T : Bool) (hX : (lastOf (Y.all.take rev.toNat) p).getD Ent.zero = X) (hT : (lastOf (Y.all.take rev.toNat) p).isSome = T) :
    Calls Tryz.prog 70 #[.pointer (some ⟨b, 0, none⟩), .string p, .int .i64 rev] w fun e w' =>
      e = .returned (.tuple #[.agg #[.string X.path, .int .i64 X.rev, .int .i64 X.key, .int .i64 X.draw, .string X.sealed, .bool X.gone], .bool T]) ∧ Low w.heap.size w w' := by
  subst hX
  subst hT
  exact last_any w p rev h hn
set_option maxRecDepth 100000 in
set_option maxHeartbeats 2000000 in
theorem Commit_any (w : World) (i : Nat) (sn : Int) (u : RUnd) (h : RIn w F b Y) (ha : At Y i sn u) (hu : u.on = true) (hn : Y.all.length ≤ 100000000) (hk : Y.keys.length ≤ 6) (hk1 : 1 ≤ Y.keys.length) :
    Calls Tryz.prog 30 #[.pointer (some ⟨b, 0, none⟩), .int .i64 i] w fun e w' => e = .returned (.tuple #[.int .i64 (Y.commitRev u), .int .i64 (commitErr Y u)]) ∧ RIn w' (grow F w w') b (Y.commit i u) ∧ Kept F w w' := by
  have HR := hid h
  have HA := hid ha
  have HS := hid ha.srv
  have hb := h.lt
  obtain ⟨gO, capO, hcO, hgO, hcs⟩ := h.opAt ha
  have HC := hid (RUnd.range hcs)
  have i1 : (i : Int) < (Y.ops.length : Int) := by have := ha.len.2; omega
  clear h hcs ha
  go_enter Tryz.func30, Tryz.ntmps30
  go_upto_region 7 with (first | (go_at_call 61; refine (server_any _ _ HR.out).mono ?_; rw [HS.out]; rintro e y1 ⟨rfl, hy⟩; obtain rfl := hy.symm) | ((with_reducible refine ld72 (.tmp 22) gO (i * 9) u ?_ HC.out ?_); rfl) | ((with_reducible refine stB72 (.tmp 7) (.tmp 23) w.heap.size RUnd.zero u ?_ ?_ ?_ ?_); rfl; rfl; exact (Blk.new w 77 RUnd.zero.cells); intro w1 b1 k1 s1; have d0 : w1.cell? ⟨w.heap.size, 0, none⟩ = some (.bool u.on) := b1.cell 0; have K1 := hid k1; have B1 := hid b1; clear b1 k1 s1))
  have l1 : Low w.heap.size w w1 := low_set ((Low.refl _ w).alloc (Nat.le_refl _) _) K1.out (Nat.le_refl _) (by simp)
  have L1 := hid l1
  have R1 := hid (HR.out.low l1)
  obtain ⟨gO2, capO2, hcO2, hgO2, _⟩ := R1.out.opAt HA.out
  obtain ⟨r2, k2, t2⟩ := R1.out.putOp hcO2 i HA.out.len.2 RUnd.zero
  have R2 : Hid (RIn (w1.setCells gO2 (i * 9) RUnd.zero.cells) F b (Y.setOp i RUnd.zero)) := r2
  have K2 := hid k2
  have T2 := hid t2
  clear hcO hgO hb d0 r2 k2 t2 l1 HC K1
  go_upto_region 8 with ((with_reducible refine st72 (.tmp 33) (.tmp 32) gO2 (i * 9) RUnd.zero ?_ ?_ T2.out ?_); rfl; rfl)
  go_name_world W hW
  rw [hW] at R2 K2
  have B2 : Hid (Blk W w.heap.size 77 u.cells) := B1.out.kept K2.out (fun f => by have := HR.out.below _ f; omega)
  have KW : Hid (Kept F w W) := L1.out.kept.trans K2.out (fun _ f => f.elim) (fun _ _ f => f)
  have hlt := B2.out.lt
  have HLT := hid hlt
  clear hcO2 hgO2 T2 hW hlt
  obtain ⟨a3, cap3, hc3', _⟩ := R2.out.all
  rw [List.length_map] at hc3'
  have hc3 : W.cell? ⟨b, 3, none⟩ = some (.slice a3 Y.all.length cap3) := hc3'
  have u1 : W.cell? ⟨w.heap.size, 1, none⟩ = some (.string u.e.path) := B2.out.cell 1
  clear hc3'
  go_upto_region 9 with (go_at_call 69; refine (promoted_any (Y := Y.setOp i RUnd.zero) _ R2.out hk hk1).mono ?_; rintro e y1 ⟨rfl, hy⟩; obtain rfl := hy.symm)
  have lb : b < W.heap.size := R2.out.lt
  have lw := HLT.out
  obtain ⟨L, hL⟩ : ∃ L, L = lastOf Y.all u.e.path := ⟨_, rfl⟩
  have HLL := hid hL
  have HE : Hid (lastOf (List.take (Int.toNat (Y.all.length : Int)) (Y.setOp i RUnd.zero).all) u.e.path = L) := by show lastOf (List.take (Int.toNat (Y.all.length : Int)) Y.all) u.e.path = L; rw [Int.toNat_natCast, List.take_length, hL]
  obtain ⟨X, hX⟩ : ∃ X, X = L.getD Ent.zero := ⟨_, rfl⟩
  have HX := hid hX
  obtain ⟨T, hT⟩ : ∃ T, T = L.isSome := ⟨_, rfl⟩
  have HT := hid hT
  have HX2 : Hid ((lastOf (List.take (Int.toNat (Y.all.length : Int)) (Y.setOp i RUnd.zero).all) u.e.path).getD Ent.zero = X) := by show _ = _; rw [HE.out, hX]
  have HT2 : Hid ((lastOf (List.take (Int.toNat (Y.all.length : Int)) (Y.setOp i RUnd.zero).all) u.e.path).isSome = T) := by show _ = _; rw [HE.out, hT]
  clear hL hX hT
  go_cut [9, 10] (fun m t wc => ∃ M, m = .pointer (some ⟨M, 0, none⟩) ∧ t = .bool T ∧ Hid (Low W.heap.size W wc ∧ W.heap.size ≤ M ∧ Blk wc M 50 X.cells))
  case first =>
    go_region_with (first | (go_at_call 70; refine (last_lit (Y := Y.setOp i RUnd.zero) _ u.e.path (Y.all.length : Int) (by exact R2.out.drew) hn X T HX2.out HT2.out).mono ?_; rintro e y2 ⟨rfl, l2⟩; have LL2 : Hid (Low W.heap.size W y2) := (Low.refl _ W).drew.trans l2; clear l2) | (go_at_call 70; refine (last_lit (Y := Y.setOp i RUnd.zero) _ u.e.path (Y.all.length : Int) (by exact (R2.out.alloc _).drew) hn X T HX2.out HT2.out).mono ?_; rintro e y2 ⟨rfl, l2⟩; have LL2 : Hid (Low W.heap.size W y2) := ((Low.refl _ W).alloc (Nat.le_refl _) _).drew.trans (l2.mono (by simp)); have bz : Blk y2 W.heap.size 50 Ent.zero.cells := (Blk.new W 50 Ent.zero.cells).drew.low l2 (by simp); have z0 : y2.cell? ⟨W.heap.size, 0, none⟩ = some (.string ⟨#[]⟩) := bz.cell 0; have z1 : y2.cell? ⟨W.heap.size, 1, none⟩ = some (.int .i64 0) := bz.cell 1; have z2 : y2.cell? ⟨W.heap.size, 2, none⟩ = some (.int .i64 0) := bz.cell 2; have z3 : y2.cell? ⟨W.heap.size, 3, none⟩ = some (.int .i64 0) := bz.cell 3; have z4 : y2.cell? ⟨W.heap.size, 4, none⟩ = some (.string ⟨#[]⟩) := bz.cell 4; have z5 : y2.cell? ⟨W.heap.size, 5, none⟩ = some (.bool false) := bz.cell 5; have g0 := bz.frozen 0; have g1 := bz.frozen 1; have g2 := bz.frozen 2; have g3 := bz.frozen 3; have g4 := bz.frozen 4; have g5 := bz.frozen 5; have BZ := hid bz; clear l2 bz))
    all_goals
      go_wp2_with fail
      go_meet
    all_goals first | exact metB LL2.out BZ.out | exact metA LL2.out
  case rest =>
    obtain ⟨M, rfl, rfl, HM⟩ := hcut
    have BN : Hid (Blk wc w.heap.size 77 u.cells) := B2.out.low HM.out.1 HLT.out
    have RC : Hid (RIn wc F b (Y.setOp i RUnd.zero)) := R2.out.low HM.out.1
    have m5 : wc.cell? ⟨M, 5, none⟩ = some (.bool X.gone) := HM.out.2.2.cell 5
    obtain ⟨th, hth⟩ : ∃ th, th = (T && !X.gone) := ⟨_, rfl⟩
    have HTH := hid hth
    clear hth hc3 u1 lb lw
    go_upto_region 10 with fail
    go_cut [10] (fun t wx => t = .bool th ∧ wc = wx)
    case first =>
      cases cT : T
      · go_wp2_with fail
        go_meet
        exact ⟨by rw [HTH.out, cT]; rfl, rfl⟩
      · go_wp2_with fail
        go_meet
        exact ⟨by rw [HTH.out, cT]; rfl, rfl⟩
    case rest =>
      obtain ⟨rfl, rfl⟩ := hcut
      go_upto_region 12 with (go_at_call 71; refine (full_any (Y := Y.setOp i RUnd.zero) _ RC.out hn).mono ?_; rintro e y3 ⟨rfl, l3⟩; have L3 := hid l3; have b3 := BN.out.low l3 BN.out.lt; have b4 := HM.out.2.2.low l3 HM.out.2.2.lt; have v6 : y3.cell? ⟨w.heap.size, 6, none⟩ = some (.bool u.e.gone) := b3.cell 6; have v7 : y3.cell? ⟨w.heap.size, 7, none⟩ = some (.int .i64 u.epoch) := b3.cell 7; have v8 : y3.cell? ⟨w.heap.size, 8, none⟩ = some (.int .i64 u.want) := b3.cell 8; have m1 : y3.cell? ⟨M, 1, none⟩ = some (.int .i64 X.rev) := b4.cell 1; have B3 := hid b3; have HEN : Hid (y3.rangeAt w.heap.size 1 u.e.cells) := RUnd.entry b3; clear l3 b3 b4)
      have R3 : Hid (RIn y3 F b (Y.setOp i RUnd.zero)) := RC.out.low L3.out
      have KF : Hid (Kept F w y3) := (KW.out.trans HM.out.1.kept (H := F) (fun _ f => f) (fun _ _ f => f.elim)).trans L3.out.kept (fun _ f => f) (fun _ _ f => f.elim)
      have hp0 : promOf (Y.setOp i RUnd.zero).keys = promOf Y.keys := rfl
      have hf0 : fullOf (Y.setOp i RUnd.zero) = fullOf Y := rfl
      rw [hp0, hf0]
      obtain ⟨p, hp⟩ : ∃ p, p = promOf Y.keys := ⟨_, rfl⟩
      obtain ⟨fu, hfu⟩ : ∃ fu, fu = fullOf Y := ⟨_, rfl⟩
      rw [← hp, ← hfu]
      have hC : Hid (commitErr Y u = (if decide (u.epoch < p) then 9 else if (u.want == 0 && th) || (decide (0 < u.want) && (!th || (X.rev != u.want))) then 10 else if u.e.gone && !th then 12 else if fu then 11 else 0)) := by
        show _ = _
        rw [commitErr, conflictOf, thereOf, ← HLL.out, ← HX.out, ← HT.out, ← HTH.out, ← hp, ← hfu]
      clear hp hfu hp0 hf0 m5
      cases cth : th
      · rw [cth] at hC
        go_wp2_with (first | ((with_reducible refine ld50 (.tmp 94) w.heap.size 1 u.e ?_ HEN.out ?_); rfl) | (go_at_call 72; refine (put_any (Y := Y.setOp i RUnd.zero) _ u.e R3.out hn).mono ?_; rintro e y4 ⟨rfl, r4, k4⟩; have R4 := hid r4; have K4 := hid k4; obtain ⟨a5, cap5, hc5', _⟩ := RIn.all r4; rw [List.length_map] at hc5'; have hc5 : y4.cell? ⟨b, 3, none⟩ = some (.slice a5 (Y.all ++ [RKept.mk { u.e with rev := (Y.all.length : Int) + 1 } false]).length cap5) := hc5'; rw [List.length_append, List.length_singleton] at hc5; clear r4 k4 hc5'))
        all_goals
          go_ret2
          first
            | (refine commit_err 9 ?_ rfl R3.out KF.out _ rfl; rw [hC.out]; (try have hh : ¬ 0 < u.want := by omega); simp [*]; done)
            | (refine commit_err 10 ?_ rfl R3.out KF.out _ rfl; rw [hC.out]; (try have hh : ¬ 0 < u.want := by omega); simp [*]; done)
            | (refine commit_err 12 ?_ rfl R3.out KF.out _ rfl; rw [hC.out]; (try have hh : ¬ 0 < u.want := by omega); simp [*]; done)
            | (refine commit_err 11 ?_ rfl R3.out KF.out _ rfl; rw [hC.out]; (try have hh : ¬ 0 < u.want := by omega); simp [*]; done)
            | (refine commit_ok ?_ R4.out KF.out K4.out _ rfl; rw [hC.out]; (try have hh : ¬ 0 < u.want := by omega); simp [*]; done)
      · rw [cth] at hC
        go_wp2_with (first | ((with_reducible refine ld50 (.tmp 94) w.heap.size 1 u.e ?_ HEN.out ?_); rfl) | (go_at_call 72; refine (put_any (Y := Y.setOp i RUnd.zero) _ u.e R3.out hn).mono ?_; rintro e y4 ⟨rfl, r4, k4⟩; have R4 := hid r4; have K4 := hid k4; obtain ⟨a5, cap5, hc5', _⟩ := RIn.all r4; rw [List.length_map] at hc5'; have hc5 : y4.cell? ⟨b, 3, none⟩ = some (.slice a5 (Y.all ++ [RKept.mk { u.e with rev := (Y.all.length : Int) + 1 } false]).length cap5) := hc5'; rw [List.length_append, List.length_singleton] at hc5; clear r4 k4 hc5'))
        all_goals
          go_ret2
          first
            | (refine commit_err 9 ?_ rfl R3.out KF.out _ rfl; rw [hC.out]; (try have hh : ¬ 0 < u.want := by omega); simp [*]; done)
            | (refine commit_err 10 ?_ rfl R3.out KF.out _ rfl; rw [hC.out]; (try have hh : ¬ 0 < u.want := by omega); simp [*]; done)
            | (refine commit_err 12 ?_ rfl R3.out KF.out _ rfl; rw [hC.out]; (try have hh : ¬ 0 < u.want := by omega); simp [*]; done)
            | (refine commit_err 11 ?_ rfl R3.out KF.out _ rfl; rw [hC.out]; (try have hh : ¬ 0 < u.want := by omega); simp [*]; done)
            | (refine commit_ok ?_ R4.out KF.out K4.out _ rfl; rw [hC.out]; (try have hh : ¬ 0 < u.want := by omega); simp [*]; done)
end Go.Proofs.YtphapknfkbgapaaGreatDoor
