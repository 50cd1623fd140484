import Derived.Test.YtnjkpghchgjbaaaGreatDoorPBToLawE
import Derived.Test.YtnjkpghchgjbaaaGreatDoorPRepToPA
import Derived.Deep.RegionLaw
import Derived.Lib.ItoaWalk
namespace Go.Proofs.YtnjkpghchgjbaaaGreatDoor
open Go.RowKit

section
variable {P : Program} (w : World)
/-- copy of a whole slice into one that was just made. -/
theorem copy_mine (t ty e : TypeId) (size : Nat) (ht : P.underlying t = some (.slice e)) (hi : (P.info? e).map (·.size) = some size) (v : Value) (n : Nat) (xs : List Value) (hown : w.ownsRow 0 e size v n xs)
    (g : Nat) (cur : Array Value) (hg : w.heap[g]? = some (.cells cur e (0, 0))) (hc : cur.size = n * size) (hm : n ≤ maxLen) (h1 : ∀ u ∈ xs, u.oneCell' = true) :
    ∃ w', (Builtin.copy_ #[t, t] ty #[.slice (some ⟨g, 0, none⟩) n n, v]).run P w = .ok (goInt n) w' ∧ w'.ownsRow 0 e size (.slice (some ⟨g, 0, none⟩) n n) n xs ∧ Kept (fun k => k = g) w w' := by
  cases hq : P.info? e with
  | none => simp [hq] at hi
  | some i =>
    have hsz : i.size = size := by simpa [hq] using hi
    have hlen : xs.length = n * size := hown.1
    have hst := run_storeCells_at P g 0 e xs 0 cur w hg (by omega) h1
    have hrow : (cur.toList.take (0 + 0) ++ xs ++ cur.toList.drop (0 + 0 + xs.length)).toArray = xs.toArray := by
      have : cur.toList.drop (0 + 0 + xs.length) = [] := List.drop_eq_nil_of_le (by simp; omega)
      rw [this]; simp
    rw [hrow] at hst
    refine ⟨w.setRow g xs.toArray, ?_, ⟨hlen, Or.inr ⟨g, n, xs.toArray, rfl, Nat.zero_le _, setRow_heap w g cur _ e _ hg, Nat.le_refl _, hm, by simpa using hlen, by rw [List.toList_toArray, ← hlen, List.take_length]⟩⟩, ⟨rfl, rfl, by simp, fun k _ hk => setRow_other w g k _ hk⟩⟩
    rcases hown.2 with ⟨rfl, rfl⟩ | ⟨g', cap, cur', rfl, _, hg', _⟩
    · have hx : xs = [] := List.eq_nil_of_length_eq_zero (by simpa using hlen)
      subst hx
      have hs0 : (storeCells ⟨g, 0, none⟩ [] 0).run P w = .ok () (w.setRow g #[]) := by simpa using hst
      simp [Builtin.copy_, run_underlying ht, Go.sizeOf, typeInfo, hq, Builtin.lenOf, Builtin.firstCells, hs0]
    · have hf := run_firstCells_some (P := P) w i.size n ⟨g', 0, none⟩ n cap xs (by rw [hsz]; exact hlen) (hown.cells (g := g') rfl)
      simp [Builtin.copy_, run_underlying ht, Go.sizeOf, typeInfo, hq, Builtin.lenOf, hf, hst]
theorem wpList_copy_mine {ops : Array Oper} {rest : List Oper} {d : Option Tmp} {t0 : TypeId} {pos : String} {after : Array Edge} {a : Act} {Q : Exit → Act → World → Prop} (x y : Operand) (t e : TypeId) (size : Nat) (ht : P.underlying t = some (.slice e)) (hi : (P.info? e).map (·.size) = some size) (v : Value) (n : Nat) (xs : List Value)
    (g : Nat) (cur : Array Value) (hx : a.eval x = .slice (some ⟨g, 0, none⟩) n n) (hy : a.eval y = v) (hown : w.ownsRow 0 e size v n xs) (hg : w.heap[g]? = some (.cells cur e (0, 0))) (hc : cur.size = n * size) (hm : n ≤ maxLen) (h1 : ∀ u ∈ xs, u.oneCell' = true)
    (h : ∀ w', w'.ownsRow 0 e size (.slice (some ⟨g, 0, none⟩) n n) n xs → Kept (fun k => k = g) w w' → wpList P ops Q rest (a.put d (goInt n)) w') :
    wpList P ops Q ({ dst := d, op := .call { callee := .builtin .copy, args := #[x, y], argTypes := #[t, t] }, type := t0, pos := pos, after := after, guard := none } :: rest) a w := by
  refine wpList_plain rfl fun K hK => ?_
  obtain ⟨w', hr, h2, h3⟩ := copy_mine (P := P) w t t0 e size ht hi v n xs hown g cur hg hc hm h1
  unfold Oper.wp execOp
  simp only [resolve, invoke, builtin, Sem.run_bind, Sem.run_pure, Result.andThen_ok, List.map_toArray, List.map_cons, List.map_nil, hx, hy, hr]
  exact hK _ _ (h w' h2 h3)
end

variable {F : Nat → Prop} {b : Nat} {X : PS}
set_option maxRecDepth 100000 in
set_option maxHeartbeats 1000000 in
theorem pEntries_any (w : World) (h : XIn w F b X) (hn : X.entries.length ≤ 1000) :
    Calls Tryz.prog 56 #[.pointer (some ⟨b, 0, none⟩)] w fun e w' => ∃ v, e = .returned v ∧ Low w.heap.size w w' ∧ w'.ownsRow 0 50 6 v X.entries.length (X.entries.flatMap Ent.cells) ∧ ∀ k, v.ownBlock = some k → w.heap.size ≤ k := by
  obtain ⟨i50, hi50, hz0, hz1, hz2⟩ := info_parts info50
  have hown : ∃ a cap, w.cell? ⟨b, 9, none⟩ = some (.slice a X.entries.length cap) ∧ w.ownsRow 0 50 6 (.slice a X.entries.length cap) X.entries.length (X.entries.flatMap Ent.cells) := by
    obtain ⟨vK, vS, vE, hO⟩ := h
    obtain ⟨v, hv, ho, _⟩ := hO.row 2 rfl
    obtain ⟨a, cap, rfl, _, _⟩ := ownsRow_view ho
    exact ⟨a, cap, by rw [hO.cell]; exact hv, ho⟩
  obtain ⟨a, cap, c9, o9⟩ := hown
  have HR := hid h
  have O9 := hid o9
  have hb := h.lt
  have hby : i50.bytes * X.entries.length ≤ 281474976710656 := by rw [hz2]; omega
  have HBY := hid hby
  have h1 : Hid (∀ u ∈ X.entries.flatMap Ent.cells, u.oneCell' = true) := by
    intro u hu
    obtain ⟨e, _, he⟩ := List.mem_flatMap.1 hu
    exact e.one u he
  have hm : Hid (X.entries.length ≤ maxLen) := by show _ ≤ _; unfold maxLen; omega
  clear h o9 hby
  go_enter Tryz.func56, Tryz.ntmps56
  go_upto_region 2 with (at_make; refine wpList_make_full _ rfl (.tmp 8) (.tmp 8) 46 rfl 0 50 i50 _ 6 Tryz.underlying46 hi50 hz0 hz1 .i64 .i64 _ _ X.entries.length rfl rfl rfl rfl HBY.out hm.out (Nat.zero_le _) ?_; intro W o1 g1; have O1 := hid o1; have G1 := hid g1; clear o1 g1)
  have LW : Hid (Low w.heap.size w W) := ⟨G1.out.os, G1.out.output, G1.out.size, fun k hk => G1.out.block k hk (by simp)⟩
  have c9w : W.cell? ⟨b, 9, none⟩ = some (.slice a X.entries.length cap) := (LW.out.cell hb).trans c9
  have OW : Hid (W.ownsRow 0 50 6 (.slice a X.entries.length cap) X.entries.length (X.entries.flatMap Ent.cells)) := ownsRow_at O9.out (fun q hq => LW.out.block q (O9.out.lt q hq).2)
  have hcur : ∃ cur, W.heap[w.heap.size]? = some (.cells cur 50 (0, 0)) ∧ cur.size = X.entries.length * 6 := by
    rcases O1.out.2 with ⟨q, _⟩ | ⟨g, cap', cur, q, _, hg, _, _, hs, _⟩
    · cases q
    · injection q with q1 q2 q3
      obtain rfl : g = w.heap.size := by injection q1 with q1; injection q1 with q1; exact q1.symm
      exact ⟨cur, hg, by rw [hs, ← q3]⟩
  obtain ⟨cur, hcu, hcs⟩ := hcur
  have HCU := hid hcu
  have HCS := hid hcs
  clear c9 hb hcu hcs
  go_wp2_with ((with_reducible refine wpList_copy_mine _ (.tmp 10) (.tmp 14) 46 50 6 Tryz.underlying46 (show (Tryz.prog.info? 50).map (·.size) = some 6 by kernel_rfl) (.slice a X.entries.length cap) X.entries.length (X.entries.flatMap Ent.cells) w.heap.size cur ?_ ?_ OW.out HCU.out HCS.out hm.out h1.out ?_); rfl; rfl; intro V o2 k2; have O2 := hid o2; have K2 := hid k2; clear o2 k2)
  go_ret
  exact ⟨_, rfl, low_set LW.out K2.out (Nat.le_refl _) LW.out.size, O2.out, fun k hk => Nat.le_of_eq (Option.some.inj hk)⟩
end Go.Proofs.YtnjkpghchgjbaaaGreatDoor
namespace Go.Proofs.YtnjkpghchgjbaaaGreatDoor
open Go.RowKit

theorem win_ptrs {w : World} {F : Nat → Prop} {b bx r : Nat} {outs : List LOut} (h : WIn w F b bx r outs) : w.cell? ⟨b, 0, none⟩ = some (.pointer (some ⟨bx, 0, none⟩)) ∧ w.cell? ⟨b, 1, none⟩ = some (.pointer (some ⟨r, 0, none⟩)) ∧ b < w.heap.size := by
  obtain ⟨v, h⟩ := h
  exact ⟨h.cell 0, h.cell 1, h.lt⟩
theorem pState_lit {F : Nat → Prop} {b : Nat} {X : PS} (w : World) (h : XIn w F b X) :
    Calls Tryz.prog 54 #[.pointer (some ⟨b, 0, none⟩)] w fun e w' => e = .returned (.agg #[.int .i64 X.rev, .int .i64 X.floor, .int .i64 X.epoch, .int .i64 X.write, .int .i64 X.turn]) ∧ Low w.heap.size w w' := pState_any w h
theorem rState_lit {F : Nat → Prop} {b : Nat} {Y : RS} (w : World) (h : RIn w F b Y) (hk : Y.keys.length ≤ 6) (a c d e f : Int) (h1 : (Y.all.length : Int) = a) (h2 : Y.floor = c) (h3 : Y.epoch = d) (h4 : writesOf Y.keys Y.epoch = e) (h5 : Y.turn = f) :
    Calls Tryz.prog 55 #[.pointer (some ⟨b, 0, none⟩)] w fun r w' => r = .returned (.agg #[.int .i64 a, .int .i64 c, .int .i64 d, .int .i64 e, .int .i64 f]) ∧ Low w.heap.size w w' := by
  have q := State_any w h hk
  rw [h1, h2, h4, h3, h5] at q
  exact q
set_option maxRecDepth 100000 in
set_option maxHeartbeats 1000000 in
theorem lstate_any {Fx Fr Fw : Nat → Prop} {bx br bw : Nat} {X : PS} {Y : RS} {outs : List LOut} (w : World) (hx : XIn w Fx bx X) (hr : RIn w Fr br Y) (hw : WIn w Fw bw bx br outs) (hk : Y.keys.length ≤ 6) (h1 : (Y.all.length : Int) = X.rev) (h2 : Y.floor = X.floor) (h3 : Y.epoch = X.epoch) (h4 : writesOf Y.keys Y.epoch = X.write) (h5 : Y.turn = X.turn) :
    Calls Tryz.prog 18 #[.pointer (some ⟨bw, 0, none⟩)] w fun e w' => e = .returned (.bool true) ∧ Low w.heap.size w w' := by
  have HX := hid hx
  have HR := hid hr
  have HW := hid hw
  have H1 := hid h1
  have H2 := hid h2
  have H3 := hid h3
  have H4 := hid h4
  have H5 := hid h5
  obtain ⟨c0, c1, lb⟩ := win_ptrs hw
  clear hx hr hw h1 h2 h3 h4 h5
  go_enter Tryz.func18, Tryz.ntmps18
  go_wp2_with (first | (go_at_call 54; refine (pState_lit _ HX.out).mono ?_; rintro e y1 ⟨rfl, l1⟩; have c1b : y1.cell? ⟨bw, 1, none⟩ = some (.pointer (some ⟨br, 0, none⟩)) := (l1.cell lb).trans c1; have lby : bw < y1.heap.size := Nat.lt_of_lt_of_le lb l1.size; have L1 := hid l1; clear l1) | (go_at_call 55; refine (rState_lit _ (by exact (HR.out.low L1.out).alloc _) hk _ _ _ _ _ H1.out H2.out H3.out H4.out H5.out).mono ?_; rintro e y2 ⟨rfl, l2⟩; have bA : Blk y2 y1.heap.size 54 (stCells X.rev X.floor X.epoch X.write X.turn) := (Blk.new y1 54 (stCells X.rev X.floor X.epoch X.write X.turn)).low l2 (by simp); have a0 : y2.cell? ⟨y1.heap.size, 0, none⟩ = some (.int .i64 X.rev) := bA.cell 0; have a1 : y2.cell? ⟨y1.heap.size, 1, none⟩ = some (.int .i64 X.floor) := bA.cell 1; have a2 : y2.cell? ⟨y1.heap.size, 2, none⟩ = some (.int .i64 X.epoch) := bA.cell 2; have a3 : y2.cell? ⟨y1.heap.size, 3, none⟩ = some (.int .i64 X.write) := bA.cell 3; have a4 : y2.cell? ⟨y1.heap.size, 4, none⟩ = some (.int .i64 X.turn) := bA.cell 4; have lA := bA.lt; have L2 : Hid (Low w.heap.size w y2) := (L1.out.alloc L1.out.size _).trans (l2.mono (by have := L1.out.size; simp; omega)); clear l2 bA))
  go_ret
  exact ⟨by simp, L2.out.alloc L2.out.size _⟩
end Go.Proofs.YtnjkpghchgjbaaaGreatDoor
namespace Go.Proofs.YtnjkpghchgjbaaaGreatDoor
open Go.RowKit

theorem ent_at {w : World} {g n cap : Nat} {l : List Ent} (h : w.ownsRow 0 50 6 (.slice (some ⟨g, 0, none⟩) n cap) n (l.flatMap Ent.cells)) (hn : n = l.length) (i : Nat) (k : Ent) (hk : l[i]? = some k) (q : Nat) (hq : q < 6) : w.cell? ⟨g, i * 6 + q, none⟩ = k.cells[q]? := by
  have hi : i < l.length := (List.getElem?_eq_some_iff.1 hk).1
  rw [h.cellAt (i * 6 + q) (by omega), flat_at 6 Ent.cells Ent.len l i q k hk hq]
set_option maxRecDepth 100000 in
set_option maxHeartbeats 1000000 in
theorem lentries_any {Fx Fr Fw H : Nat → Prop} {bx br bw : Nat} {X : PS} {Y : RS} {outs : List LOut} (w : World) (hx : XIn w Fx bx X) (hr : RIn w Fr br Y) (hw : WIn w Fw bw bx br outs) (ho : ∀ o ∈ outs, OutOk w H o) (hd : ∀ g, H g → ¬ Fw g) (hH : ∀ g, H g → g < w.heap.size)
    (he : keptOf Y.all = X.entries) (hn : X.entries.length ≤ 100) (hl : Y.all.length ≤ 100000000) (hol : outs.length ≤ 100000000) :
    Calls Tryz.prog 19 #[.pointer (some ⟨bw, 0, none⟩)] w fun e w' => e = .returned (.bool true) ∧ ∃ outs' F' H', outs'.length = outs.length + 4 ∧ WIn w' F' bw bx br outs' ∧ (∀ o ∈ outs', OutOk w' H' o) ∧ (∀ g, H' g → ¬ F' g) ∧
      (∀ q, F' q → Fw q ∨ w.heap.size ≤ q) ∧ (∀ q, H' q → H q ∨ w.heap.size ≤ q) ∧ (∀ q, H' q → q < w'.heap.size) ∧ Kept Fw w w' := by
  have HX := hid hx
  have HR := hid hr
  have HW := hid hw
  have HO := hid ho
  have HD := hid hd
  have HH := hid hH
  have HE := hid he
  obtain ⟨c0, c1, lb⟩ := win_ptrs hw
  clear hx hr hw ho hd hH he
  go_enter Tryz.func19, Tryz.ntmps19
  go_upto_region 5 with (first | (go_at_call 56; refine (pEntries_any _ HX.out (by omega)).mono ?_; rintro e y1 ⟨v1, rfl, l1, o1, b1⟩; obtain ⟨a1, cap1, rfl, _, _⟩ := ownsRow_view o1; have c1b : y1.cell? ⟨bw, 1, none⟩ = some (.pointer (some ⟨br, 0, none⟩)) := (l1.cell lb).trans c1; have L1 := hid l1; have O1 := hid o1; have B1 := hid b1; clear l1 o1 b1) | (go_at_call 57; refine (Entries_any _ (by exact HR.out.low L1.out) hl).mono ?_; rw [HE.out]; rintro e y2 ⟨v2, rfl, l2, o2, b2⟩; obtain ⟨a2, cap2, rfl, _, _⟩ := ownsRow_view o2; have L2 := hid l2; have O2 := hid o2; clear l2 o2 b2))
  have L12 : Hid (Low w.heap.size w y2) := L1.out.trans (L2.out.mono L1.out.size)
  have O1' : Hid (y2.ownsRow 0 50 6 (.slice a1 X.entries.length cap1) X.entries.length (X.entries.flatMap Ent.cells)) := ownsRow_at O1.out (fun q hq => L2.out.block q (O1.out.lt q hq).2)
  clear c0 c1 c1b
  go_wp2_with fail
  go_loopg [5] X.entries.length (fun left iv wr => ∃ i : Nat, left = X.entries.length - i ∧ i ≤ X.entries.length ∧ iv = .int .i64 (i : Int) ∧ Hid (Low y2.heap.size y2 wr))
  case atStart => exact ⟨0, rfl, Nat.zero_le _, rfl, Low.refl _ _⟩
  case round =>
    obtain ⟨i, hgk, hi, rfl, HI⟩ := hrel
    have HGK := hid hgk
    clear hgk
    have P1 : Hid (wr.ownsRow 0 50 6 (.slice a1 X.entries.length cap1) X.entries.length (X.entries.flatMap Ent.cells)) := ownsRow_at O1'.out (fun q hq => HI.out.block q (O1'.out.lt q hq).2)
    have P2 : Hid (wr.ownsRow 0 50 6 (.slice a2 X.entries.length cap2) X.entries.length (X.entries.flatMap Ent.cells)) := ownsRow_at O2.out (fun q hq => HI.out.block q (O2.out.lt q hq).2)
    by_cases h3 : i < X.entries.length
    · have q1 : decide ((i : Int) < (X.entries.length : Int)) = true := by simp; omega
      obtain ⟨k, hk⟩ : ∃ k, X.entries[i]? = some k := ⟨_, List.getElem?_eq_getElem h3⟩
      obtain ⟨s1, t1, e1, _, f1⟩ := ownsRow_view P1.out
      obtain ⟨s2, t2, e2, _, f2⟩ := ownsRow_view P2.out
      obtain ⟨g1, rfl, z1, z2, z3⟩ := f1 (by omega)
      obtain ⟨g2, rfl, z4, z5, z6⟩ := f2 (by omega)
      cases e1
      cases e2
      have il : (i : Int) < (X.entries.length : Int) := by omega
      have p0 : wr.cell? ⟨g1, i * 6, none⟩ = some (.string k.path) := ent_at P1.out rfl i k hk 0 (by omega)
      have p1 : wr.cell? ⟨g1, i * 6 + 1, none⟩ = some (.int .i64 k.rev) := ent_at P1.out rfl i k hk 1 (by omega)
      have p2 : wr.cell? ⟨g1, i * 6 + 2, none⟩ = some (.int .i64 k.key) := ent_at P1.out rfl i k hk 2 (by omega)
      have p3 : wr.cell? ⟨g1, i * 6 + 3, none⟩ = some (.int .i64 k.draw) := ent_at P1.out rfl i k hk 3 (by omega)
      have p4 : wr.cell? ⟨g1, i * 6 + 4, none⟩ = some (.string k.sealed) := ent_at P1.out rfl i k hk 4 (by omega)
      have p5 : wr.cell? ⟨g1, i * 6 + 5, none⟩ = some (.bool k.gone) := ent_at P1.out rfl i k hk 5 (by omega)
      have r0 : wr.cell? ⟨g2, i * 6, none⟩ = some (.string k.path) := ent_at P2.out rfl i k hk 0 (by omega)
      have r1 : wr.cell? ⟨g2, i * 6 + 1, none⟩ = some (.int .i64 k.rev) := ent_at P2.out rfl i k hk 1 (by omega)
      have r2 : wr.cell? ⟨g2, i * 6 + 2, none⟩ = some (.int .i64 k.key) := ent_at P2.out rfl i k hk 2 (by omega)
      have r3 : wr.cell? ⟨g2, i * 6 + 3, none⟩ = some (.int .i64 k.draw) := ent_at P2.out rfl i k hk 3 (by omega)
      have r4 : wr.cell? ⟨g2, i * 6 + 4, none⟩ = some (.string k.sealed) := ent_at P2.out rfl i k hk 4 (by omega)
      have r5 : wr.cell? ⟨g2, i * 6 + 5, none⟩ = some (.bool k.gone) := ent_at P2.out rfl i k hk 5 (by omega)
      have qp : (k.path.toList == k.path.toList) = true := beq_self_eq_true _
      have qs : (k.sealed.toList == k.sealed.toList) = true := beq_self_eq_true _
      clear hk f1 f2 z1 z2 z3 z4 z5 z6
      go_upto_region 8 with fail
      go_region
      all_goals go_wp2_with fail
      all_goals
        go_roundg (X.entries.length - (i + 1))
        case rel => exact ⟨i + 1, rfl, by omega, by simp, HI.out.drew⟩
        case measure => have := HGK.out; omega
    · have q1 : decide ((i : Int) < (X.entries.length : Int)) = false := by simp; omega
      have L3 : Hid (Low w.heap.size w wr) := L12.out.trans (HI.out.mono L12.out.size)
      have W3 : Hid (WIn wr Fw bw bx br outs) := win_low HW.out L3.out
      have hfr : Hid (∀ g, (Value.slice a1 X.entries.length cap1).ownBlock = some g → w.heap.size ≤ g) := B1.out
      have hFb : Hid (∀ q, Fw q → q < w.heap.size) := by
        obtain ⟨u, hO⟩ := HW.out
        exact hO.below
      go_wp2_with (go_at_call 58; refine (own_any _ Fw H bw bx br outs _ X.entries W3.out (fun o hm => out_low (HO.out o hm) L3.out) HD.out P1.out (fun g e => ⟨fun f => by have := hFb.out g f; have := hfr.out g e; omega, fun f => by have := HH.out g f; have := hfr.out g e; omega⟩) (fun g f => Nat.lt_of_lt_of_le (HH.out g f) L3.out.size) hn hol).mono ?_; rintro e y3 ⟨rfl, outs', F', H', a1', a2', a3', a4', a5', a6', a8', a7'⟩; have RES : Hid (∃ outs' F' H', outs'.length = outs.length + 4 ∧ WIn y3 F' bw bx br outs' ∧ (∀ o ∈ outs', OutOk y3 H' o) ∧ (∀ g, H' g → ¬ F' g) ∧ (∀ q, F' q → Fw q ∨ w.heap.size ≤ q) ∧ (∀ q, H' q → H q ∨ w.heap.size ≤ q) ∧ (∀ q, H' q → q < y3.heap.size) ∧ Kept Fw w y3) := ⟨outs', F', H', a1', a2', a3', a4', fun q f => (a5' q f).imp id (fun x => Nat.le_trans L3.out.size x), fun q f => (a6' q f).elim Or.inl (fun x => x.elim (fun y => Or.inr (hfr.out q y)) (fun y => Or.inr (Nat.le_trans L3.out.size y))), a8', L3.out.kept.trans a7' (fun _ f => f.elim) (fun q hq f => f.elim id (fun y => by have := hfr.out q y; omega))⟩; clear a1' a2' a3' a4' a5' a6' a7' a8')
      go_ret
      exact ⟨rfl, RES.out⟩
end Go.Proofs.YtnjkpghchgjbaaaGreatDoor
namespace Go.Proofs.YtnjkpghchgjbaaaGreatDoor
open Go.RowKit

variable {F : Nat → Prop} {b : Nat} {X : PS}

theorem xin_rowE {w : World} (h : XIn w F b X) : ∃ a cap, w.cell? ⟨b, 9, none⟩ = some (.slice a X.entries.length cap) ∧ w.ownsRow 0 50 6 (.slice a X.entries.length cap) X.entries.length (X.entries.flatMap Ent.cells) ∧ (Value.slice a X.entries.length cap).ownBlock ≠ some b := by
  obtain ⟨vK, vS, vE, hO⟩ := h
  obtain ⟨v, hv, ho, _⟩ := hO.row 2 rfl
  have hn := hO.apart 2 rfl hv
  obtain ⟨a, cap, rfl, _, _⟩ := ownsRow_view ho
  exact ⟨a, cap, by rw [hO.cell]; exact hv, ho, hn⟩
theorem xin_appE {w w1 : World} {v v' : Value} {o : Obj} (h : XIn w F b X) (hv : w.cell? ⟨b, 9, none⟩ = some v) (k : Kept (fun q => v.ownBlock = some q) (w.alloc o) w1) (K : Ent) (ho : w1.ownsRow 0 50 6 v' (X.entries.length + 1) (X.entries.flatMap Ent.cells ++ K.cells)) (P : v'.ownBlock = v.ownBlock ∨ v'.ownBlock = some (w.alloc o).heap.size) :
    XIn (w1.setCell ⟨b, 9, none⟩ v') (grow F w (w1.setCell ⟨b, 9, none⟩ v')) b { X with entries := X.entries ++ [K] } ∧ Kept F w (w1.setCell ⟨b, 9, none⟩ v') := by
  obtain ⟨vK, vS, vE, hO⟩ := h
  obtain rfl : vE = v := Option.some.inj ((hO.cell 9).symm.trans hv)
  obtain ⟨q1, q2⟩ := hO.appended (Low.refl _ w) 2 rfl rfl k ho P (X.offs 2 rfl)
  exact ⟨⟨vK, vS, v', q1.cast rfl (by simp [PS.rows])⟩, q2⟩
def PS.add (X : PS) (e : Ent) : PS := { X with rev := X.rev + 1, entries := X.entries ++ [{ e with rev := X.rev + 1 }] }
set_option maxRecDepth 100000 in
set_option maxHeartbeats 1000000 in
theorem add_any (w : World) (e : Ent) (h : XIn w F b X) (hn : X.entries.length ≤ 1000) (hr : 0 ≤ X.rev ∧ X.rev ≤ 1000000000000) :
    Calls Tryz.prog 67 #[.pointer (some ⟨b, 0, none⟩), .agg #[.string e.path, .int .i64 e.rev, .int .i64 e.key, .int .i64 e.draw, .string e.sealed, .bool e.gone]] w fun r w' =>
      r = .returned (.int .i64 (X.rev + 1)) ∧ XIn w' (grow F w w') b (X.add e) ∧ Kept F w w' := by
  have HR := hid h
  have c0 := xin_rev h
  have f0 := h.frozen 0
  have hb := h.lt
  have hr0 := hr.1
  have hr1 := hr.2
  clear h hr
  go_enter Tryz.func67, Tryz.ntmps67
  go_upto_region 3 with fail
  go_name_world W hW
  obtain ⟨E, hE⟩ : ∃ E : Ent, E = { e with rev := X.rev + 1 } := ⟨_, rfl⟩
  have hX : XIn W F b { X with rev := X.rev + 1 } := by rw [← hW]; exact (xin_set_rev HR.out (X.rev + 1)).alloc _
  have hB : Blk W w.heap.size 50 E.cells := by
    have q := Blk.new (w.setCell ⟨b, 0, none⟩ (.int .i64 (X.rev + 1))) 50 E.cells
    rw [World.size_setCell] at q
    rw [← hW, hE]
    rw [hE] at q
    exact q
  have hK : Kept F w W := by rw [← hW]; exact (setCell_kept w ⟨b, 0, none⟩ _).trans ((Low.refl _ _).alloc (Nat.le_refl _) _).kept (fun q e => by rw [show q = b from e]; exact HR.out.inF) (fun _ _ f => f.elim)
  obtain ⟨a, cap, c9, o9, n9⟩ := xin_rowE hX
  have c9 : W.cell? ⟨b, 9, none⟩ = some (.slice a X.entries.length cap) := c9
  have o9 : W.ownsRow 0 50 6 (.slice a X.entries.length cap) X.entries.length (X.entries.flatMap Ent.cells) := o9
  have n9 : (Value.slice a X.entries.length cap).ownBlock ≠ some b := n9
  have lb := hX.lt
  have lN := hB.lt
  have hNn : (Value.slice a X.entries.length cap).ownBlock ≠ some w.heap.size := fun q => by
    obtain ⟨vK, vS, vE, hO⟩ := hX
    obtain rfl : vE = .slice a X.entries.length cap := Option.some.inj ((hO.cell 9).symm.trans c9)
    obtain ⟨v2, hv2, _, hF2⟩ := hO.row 2 rfl
    obtain rfl : v2 = _ := (Option.some.inj hv2).symm
    have := HR.out.below _ (hF2 _ q)
    omega
  have HX := hid hX
  have HB := hid hB
  have HK := hid hK
  have HE := hid hE
  have O9 := hid o9
  have N9 := hid n9
  have C9 := hid c9
  have F9 := hid (hX.frozen 9)
  have LB := hid lb
  have LN := hid lN
  have NN := hid hNn
  have e0 : W.cell? ⟨w.heap.size, 0, none⟩ = some (.string E.path) := hB.cell 0
  have e1 : W.cell? ⟨w.heap.size, 1, none⟩ = some (.int .i64 E.rev) := hB.cell 1
  have e2 : W.cell? ⟨w.heap.size, 2, none⟩ = some (.int .i64 E.key) := hB.cell 2
  have e3 : W.cell? ⟨w.heap.size, 3, none⟩ = some (.int .i64 E.draw) := hB.cell 3
  have e4 : W.cell? ⟨w.heap.size, 4, none⟩ = some (.string E.sealed) := hB.cell 4
  have e5 : W.cell? ⟨w.heap.size, 5, none⟩ = some (.bool E.gone) := hB.cell 5
  have E1 := hid e1
  clear hX hB hK hE o9 n9 hNn hW c0 f0
  go_region_law
    ((refine step_append_mine _ rfl (.tmp 24) (.tmp 26) 46 rfl 50 _ 6 64 Tryz.underlying46 info50 rfl (by omega) (.slice a X.entries.length cap) X.entries.length (X.entries.flatMap Ent.cells) ?_ ?_ ⟨W.heap.size, 0, none⟩ 1 1 E.cells ?_ rfl ?_ (Ent.one _) ⟨by omega, by omega⟩ ?_; rfl; exact (World.ownsRow.alloc (w := W) O9.out _); rfl; exact (news_new W E.cells 50); intro v' w1 o1 k1 p1; obtain ⟨a', cap', rfl, _, _⟩ := ownsRow_view o1; have O1 := hid o1; have K1 := hid k1.of_drew; have P1 := hid p1; have c9w := kept_cell K1.out LB.out N9.out C9.out; have f9w := kept_frozen K1.out LB.out N9.out F9.out; have e1w := kept_cell K1.out LN.out NN.out E1.out; clear o1 k1 p1))
  all_goals go_wp2_with fail
  all_goals go_ret
  all_goals
    obtain ⟨q1, q2⟩ := xin_appE HX.out C9.out K1.out E O1.out P1.out
    have hsz := HK.out.size
    refine ⟨by rw [HE.out]; rfl, ?_, HK.out.trans q2 (fun _ f => f) (fun _ _ f => f)⟩
    have hres : ({ X with rev := X.rev + 1, entries := X.entries ++ [E] } : PS) = X.add e := by rw [HE.out]; rfl
    rw [← hres]
    exact XIn.more q1 (fun k hk => hk.elim Or.inl (fun hk => Or.inr ⟨by omega, hk.2⟩)) (fun k hk => hk.elim (fun hk => XIn.below q1 k (Or.inl hk)) (fun hk => hk.2))
end Go.Proofs.YtnjkpghchgjbaaaGreatDoor
