import Derived.Test.YtphapknfkbgapaaGreatDoorRefBToRefH
import Derived.Deep.DeepCutAuto
import Derived.Deep.OwnRows
namespace Go.Proofs.YtphapknfkbgapaaGreatDoor
open Go.RowKit

variable {F : Nat → Prop} {b : Nat} {Y : RS}

theorem setCells_drew (b : Nat) : ∀ (vs : List Value) (o : Nat) (w : World), w.drew.setCells b o vs = (w.setCells b o vs).drew
  | [], _, _ => rfl
  | v :: r, o, w => setCells_drew b r (o + 1) (w.setCell ⟨b, o, none⟩ v)
theorem there_drew {w : World} {b o n : Nat} (h : w.there b o n) : w.drew.there b o n := (World.there_drew w b o n).2 h
def delEnt (path : ByteArray) : Ent := ⟨path, 0, 0, 0, ⟨#[]⟩, true⟩
def RS.setOp (Y : RS) (i : Nat) (u : RUnd) : RS := { Y with ops := Y.ops.set i u }
set_option maxRecDepth 100000 in
set_option maxHeartbeats 1000000 in
theorem Begin_del (w : World) (i : Nat) (sn : Int) (u : RUnd) (o : AOp) (h : RIn w F b Y) (ha : At Y i sn u) (hu : u.on = false) (hsn : (sn == 0) = false) (hp : o.path.size ≤ maxLen) (hq : o.plain.size ≤ maxLen) (ho : properOf o = true) (hk : (o.kind == 1) = false) :
    Calls Tryz.prog 28 #[.pointer (some ⟨b, 0, none⟩), .int .i64 i, .agg #[.int .i64 o.kind, .string o.path, .string o.plain, .int .i64 o.rev]] w fun e w' => e = .returned (.int .i64 0) ∧ RIn w' F b (Y.setOp i ⟨true, delEnt o.path, sn, o.rev⟩) ∧ Kept F w w' := by
  have HR := hid h
  have HA := hid ha
  have HS := hid ha.srv
  have hb := h.lt
  obtain ⟨gO, capO, hcO, hgO, hcs⟩ := h.opAt ha
  have o0 : w.cell? ⟨gO, i * 9, none⟩ = some (.bool u.on) := hcs 0 (by omega)
  obtain ⟨gS, capS, hcS, hgS, s0⟩ := h.seenAt ha
  have i1 : (i : Int) < (Y.ops.length : Int) := by have := ha.len.2; omega
  have i2 : (i : Int) < (Y.seen.length : Int) := by have := ha.len.1; omega
  clear h hcs ha
  have HP := hid hp
  have HQ := hid hq
  have HO := hid ho
  clear hp hq ho
  go_enter Tryz.func28, Tryz.ntmps28
  go_upto_region 17 with (first | (go_at_call 61; refine (server_any _ _ (by exact HR.out.alloc _)).mono ?_; rw [HS.out]; rintro e y1 ⟨rfl, rfl⟩) | (go_at_call 64; refine (proper_any _ o HP.out HQ.out).mono ?_; rw [HO.out]; rintro e y1 ⟨rfl, l1⟩; have L1 := hid l1; have b75 : Blk y1 w.heap.size 80 o.cells := (Blk.new w 80 o.cells).low l1 (by simp); have n0 : y1.cell? ⟨w.heap.size, 0, none⟩ = some (.int .i64 o.kind) := b75.cell 0; have n1 : y1.cell? ⟨w.heap.size, 1, none⟩ = some (.string o.path) := b75.cell 1; have hny : w.heap.size < y1.heap.size := b75.lt; have B75 := hid b75; clear l1 b75))
  go_name_world W hW
  have hRW : RIn W F b Y := by rw [← hW]; exact ((HR.out.alloc _).low L1.out).alloc _
  have hBM : Blk W y1.heap.size 50 (delEnt o.path).cells := by rw [← hW]; exact Blk.new y1 50 (delEnt o.path).cells
  have hBN : Blk W w.heap.size 80 o.cells := by rw [← hW]; exact B75.out.alloc _
  have hLW : Low w.heap.size w W := by rw [← hW]; exact (((Low.refl _ w).alloc (Nat.le_refl _) _).trans (L1.out.mono (by simp))).alloc (by have := B75.out.lt; omega) _
  have RW := hid hRW
  have HBM := hid hBM
  have HBN := hid hBN
  have LW := hid hLW
  have HA2 := HA
  clear hRW hBM hBN hLW hW hb hcO hgO o0 hcS hgS s0 n0 n1
  obtain ⟨gO2, capO2, hcO2, hgO2, _⟩ := RIn.opAt RW.out HA2.out
  obtain ⟨gS2, capS2, hcS2, hgS2, s02⟩ := RIn.seenAt RW.out HA2.out
  obtain ⟨r1, r2, r3⟩ := RIn.putOp RW.out hcO2 i HA2.out.len.2 ⟨true, delEnt o.path, sn, o.rev⟩
  have R1 := hid r1
  have R2 := hid r2
  have R3 := hid r3
  have e0 : W.cell? ⟨y1.heap.size, 0, none⟩ = some (.string (delEnt o.path).path) := HBM.out.cell 0
  have e1 : W.cell? ⟨y1.heap.size, 1, none⟩ = some (.int .i64 (delEnt o.path).rev) := HBM.out.cell 1
  have e2 : W.cell? ⟨y1.heap.size, 2, none⟩ = some (.int .i64 (delEnt o.path).key) := HBM.out.cell 2
  have e3 : W.cell? ⟨y1.heap.size, 3, none⟩ = some (.int .i64 (delEnt o.path).draw) := HBM.out.cell 3
  have e4 : W.cell? ⟨y1.heap.size, 4, none⟩ = some (.string (delEnt o.path).sealed) := HBM.out.cell 4
  have e5 : W.cell? ⟨y1.heap.size, 5, none⟩ = some (.bool (delEnt o.path).gone) := HBM.out.cell 5
  have n3 : W.cell? ⟨w.heap.size, 3, none⟩ = some (.int .i64 o.rev) := HBN.out.cell 3
  clear r1 r2 r3
  refine wp_region_still_tail 17 (by kernel_rfl) (by kernel_rfl) ?_
  (try (change wpStill _ _ (World.drew _) _ _ _))
  simp only [List.take_succ_cons, List.take_zero, List.drop_succ_cons, List.drop_zero]
  repeat still_step
  refine wpStill_nil ?_
  (try (change wpList _ _ _ _ _ (World.drew _)))
  go_wp2_with ((with_reducible refine st72 (.tmp 82) (.tmp 81) gO2 (i * 9) ⟨true, delEnt o.path, sn, o.rev⟩ ?_ ?_ ?_ ?_); rfl; rfl; (exact there_drew R3.out); rw [setCells_drew])
  go_ret
  exact ⟨rfl, R1.out.drew, (LW.out.kept.trans R2.out (H := F) (fun _ f => f.elim) (fun _ _ f => f)).drew⟩
set_option maxRecDepth 100000 in
set_option maxHeartbeats 1000000 in
theorem Begin_gone (w : World) (i : Nat) (sn : Int) (u : RUnd) (o : AOp) (K : RKey) (ki : Nat) (h : RIn w F b Y) (ha : At Y i sn u) (hu : u.on = false) (hsn : (sn == 0) = false) (hp : o.path.size ≤ maxLen) (hq : o.plain.size ≤ maxLen) (ho : properOf o = true) (hk : (o.kind == 1) = true)
    (hk6 : Y.keys.length ≤ 6) (hw : writesOf Y.keys sn = (ki : Int) + 1) (hK : Y.keys[ki]? = some K) (hg : K.gone = true) :
    Calls Tryz.prog 28 #[.pointer (some ⟨b, 0, none⟩), .int .i64 i, .agg #[.int .i64 o.kind, .string o.path, .string o.plain, .int .i64 o.rev]] w fun e w' => e = .returned (.int .i64 14) ∧ Low w.heap.size w w' := by
  have HR := hid h
  have HA := hid ha
  have HS := hid ha.srv
  have hb := h.lt
  obtain ⟨gO, capO, hcO, hgO, hcs⟩ := h.opAt ha
  have o0 : w.cell? ⟨gO, i * 9, none⟩ = some (.bool u.on) := hcs 0 (by omega)
  obtain ⟨gS, capS, hcS, hgS, s0⟩ := h.seenAt ha
  have i1 : (i : Int) < (Y.ops.length : Int) := by have := ha.len.2; omega
  have i2 : (i : Int) < (Y.seen.length : Int) := by have := ha.len.1; omega
  clear h hcs ha
  have HP := hid hp
  have HQ := hid hq
  have HO := hid ho
  clear hp hq ho
  have HW := hid hw
  have HK := hid hK
  have kl : (ki : Int) < (Y.keys.length : Int) := by have := (List.getElem?_eq_some_iff.1 hK).1; omega
  have kz : (ki : Int) + 1 - 1 = (ki : Int) := by omega
  clear hw hK
  go_enter Tryz.func28, Tryz.ntmps28
  go_wp2_with (first | (go_at_call 61; refine (server_any _ _ (by exact HR.out.alloc _)).mono ?_; rw [HS.out]; rintro e y1 ⟨rfl, rfl⟩) | (go_at_call 64; refine (proper_any _ o HP.out HQ.out).mono ?_; rw [HO.out]; rintro e y1 ⟨rfl, l1⟩; have L1 := hid l1; have b75 : Blk y1 w.heap.size 80 o.cells := (Blk.new w 80 o.cells).low l1 (by simp); have n0 : y1.cell? ⟨w.heap.size, 0, none⟩ = some (.int .i64 o.kind) := b75.cell 0; have n1 : y1.cell? ⟨w.heap.size, 1, none⟩ = some (.string o.path) := b75.cell 1; have n2 : y1.cell? ⟨w.heap.size, 2, none⟩ = some (.string o.plain) := b75.cell 2; have hny : w.heap.size < y1.heap.size := b75.lt; have B75 := hid b75; have RY : Hid (RIn y1 F b Y) := (HR.out.alloc _).low l1; obtain ⟨gK, capK, hcK, hgK, hks⟩ := RIn.keyAt RY.out HK.out; have k3 : y1.cell? ⟨gK, ki * 4 + 3, none⟩ = some (.bool K.gone) := hks 3 (by omega); obtain ⟨gS1, capS1, hcS1, hgS1, s01⟩ := RIn.seenAt RY.out HA.out; have hby := RIn.lt RY.out; clear l1 b75 hks) | (go_at_call 65; refine (writes_any _ _ (by exact RIn.alloc RY.out _) hk6).mono ?_; rw [HW.out]; rintro e y2 ⟨rfl, rfl⟩))
  go_ret
  exact ⟨rfl, (((Low.refl _ w).alloc (Nat.le_refl _) _).trans (L1.out.mono (by simp))).alloc (by have := B75.out.lt; omega) _⟩
set_option maxRecDepth 100000 in
set_option maxHeartbeats 1000000 in
theorem Begin_put (w : World) (i : Nat) (sn : Int) (u : RUnd) (o : AOp) (K : RKey) (ki : Nat) (h : RIn w F b Y) (ha : At Y i sn u) (hu : u.on = false) (hsn : (sn == 0) = false) (hp : o.path.size ≤ maxLen) (hq : o.plain.size ≤ maxLen) (ho : properOf o = true) (hk : (o.kind == 1) = true)
    (hk6 : Y.keys.length ≤ 6) (hw : writesOf Y.keys sn = (ki : Int) + 1) (hK : Y.keys[ki]? = some K) (hg : K.gone = false) (hT : K.text.size = 48) (hd : 0 ≤ Y.draws ∧ Y.draws + 1 ≤ 1000000000000) :
    Calls Tryz.prog 28 #[.pointer (some ⟨b, 0, none⟩), .int .i64 i, .agg #[.int .i64 o.kind, .string o.path, .string o.plain, .int .i64 o.rev]] w fun e w' => e = .returned (.int .i64 0) ∧ RIn w' F b ({ Y with draws := Y.draws + 1 }.setOp i ⟨true, closedOf K.text ((ki : Int) + 1) o.path o.plain (Y.draws + 1), sn, o.rev⟩) ∧ Kept F w w' := by
  have hpp := hid ho
  have HR := hid h
  have HA := hid ha
  have HS := hid ha.srv
  have hb := h.lt
  obtain ⟨gO, capO, hcO, hgO, hcs⟩ := h.opAt ha
  have o0 : w.cell? ⟨gO, i * 9, none⟩ = some (.bool u.on) := hcs 0 (by omega)
  obtain ⟨gS, capS, hcS, hgS, s0⟩ := h.seenAt ha
  have i1 : (i : Int) < (Y.ops.length : Int) := by have := ha.len.2; omega
  have i2 : (i : Int) < (Y.seen.length : Int) := by have := ha.len.1; omega
  clear h hcs ha
  have HP := hid hp
  have HQ := hid hq
  have HO := hid ho
  clear hp hq ho
  have HW := hid hw
  have HK := hid hK
  have HT := hid hT
  have HD := hid hd
  have kl : (ki : Int) < (Y.keys.length : Int) := by have := (List.getElem?_eq_some_iff.1 hK).1; omega
  have kz : (ki : Int) + 1 - 1 = (ki : Int) := by omega
  have hki : ki ≤ 6 := by omega
  have gd : Hid ((1 ≤ o.path.size ∧ o.path.size ≤ 16) ∧ o.plain.size ≤ 64) := by
    have q := hpp.out
    have k1 := beq_iff_eq.1 hk
    simp only [properOf, isPath, Bool.and_eq_true, Bool.or_eq_true, decide_eq_true_eq, beq_iff_eq, k1] at q
    show _ ∧ _
    omega
  clear hw hK hT hd hpp
  go_enter Tryz.func28, Tryz.ntmps28
  go_upto_region 17 with (first | (go_at_call 61; refine (server_any _ _ (by exact HR.out.alloc _)).mono ?_; rw [HS.out]; rintro e y1 ⟨rfl, rfl⟩) | (go_at_call 64; refine (proper_any _ o HP.out HQ.out).mono ?_; rw [HO.out]; rintro e y1 ⟨rfl, l1⟩; have L1 := hid l1; have b75 : Blk y1 w.heap.size 80 o.cells := (Blk.new w 80 o.cells).low l1 (by simp); have n0 : y1.cell? ⟨w.heap.size, 0, none⟩ = some (.int .i64 o.kind) := b75.cell 0; have n1 : y1.cell? ⟨w.heap.size, 1, none⟩ = some (.string o.path) := b75.cell 1; have n2 : y1.cell? ⟨w.heap.size, 2, none⟩ = some (.string o.plain) := b75.cell 2; have hny : w.heap.size < y1.heap.size := b75.lt; have B75 := hid b75; have RY : Hid (RIn y1 F b Y) := (HR.out.alloc _).low l1; obtain ⟨gK, capK, hcK, hgK, hks⟩ := RIn.keyAt RY.out HK.out; have k3 : y1.cell? ⟨gK, ki * 4 + 3, none⟩ = some (.bool K.gone) := hks 3 (by omega); obtain ⟨gS1, capS1, hcS1, hgS1, s01⟩ := RIn.seenAt RY.out HA.out; have hby := RIn.lt RY.out; clear l1 b75 hks) | (go_at_call 65; refine (writes_any _ _ (by exact RIn.alloc RY.out _) hk6).mono ?_; rw [HW.out]; rintro e y2 ⟨rfl, rfl⟩) | (go_at_call 66; refine (closed_any _ _ _ _ K ki (by exact RIn.alloc RY.out _) HK.out rfl hki HT.out gd.out.1 gd.out.2 HD.out).mono ?_; rintro e y2 ⟨rfl, r2, k2⟩; have R2c := hid r2; have K2c := hid k2; have B2c : Hid (Blk y2 y1.heap.size 50 (delEnt o.path).cells) := (Blk.new y1 50 (delEnt o.path).cells).kept k2 (fun f => by have := HR.out.below _ f; omega); clear r2 k2) | ((with_reducible refine st50 (.tmp 8) (.tmp 65) y1.heap.size (delEnt o.path) (closedOf K.text ((ki : Int) + 1) o.path o.plain (Y.draws + 1)) ?_ ?_ B2c.out ?_); rfl; rfl; intro W b3 k3 s3; have HBM := hid b3; have K3c := hid k3; have S3c := hid s3; clear b3 k3 s3))
  have RW : Hid (RIn W F b { Y with draws := Y.draws + 1 }) := R2c.out.kept K3c.out (fun q hq e => by have := HR.out.below q hq; omega)
  have HBN : Hid (Blk W w.heap.size 80 o.cells) := ((B75.out.alloc _).kept K2c.out (fun f => by have := HR.out.below _ f; omega)).kept K3c.out (by omega)
  have LW : Hid (Kept F w W) := by
    have a1 : Kept F w (y1.alloc _) := ((((Low.refl _ w).alloc (Nat.le_refl _) _).trans (L1.out.mono (by simp))).alloc (by omega) (.cells (delEnt o.path).cells.toArray 50)).kept.mono (fun _ _ f => f.elim)
    exact (a1.trans K2c.out (H := F) (fun _ f => f) (fun _ _ f => f)).trans K3c.out (fun _ f => f) (fun q hq e => by omega)
  have HA2 : Hid (At { Y with draws := Y.draws + 1 } i sn u) := ⟨HA.out.seen, HA.out.op⟩
  clear hb hcO hgO o0 hcS hgS s0 n0 n1 n2 hcK hgK k3 hcS1 hgS1 s01 hby
  obtain ⟨gO2, capO2, hcO2, hgO2, _⟩ := RIn.opAt RW.out HA2.out
  obtain ⟨gS2, capS2, hcS2, hgS2, s02⟩ := RIn.seenAt RW.out HA2.out
  obtain ⟨r1, r2, r3⟩ := RIn.putOp RW.out hcO2 i HA2.out.len.2 ⟨true, closedOf K.text ((ki : Int) + 1) o.path o.plain (Y.draws + 1), sn, o.rev⟩
  have R1 := hid r1
  have R2 := hid r2
  have R3 := hid r3
  have e0 : W.cell? ⟨y1.heap.size, 0, none⟩ = some (.string (closedOf K.text ((ki : Int) + 1) o.path o.plain (Y.draws + 1)).path) := HBM.out.cell 0
  have e1 : W.cell? ⟨y1.heap.size, 1, none⟩ = some (.int .i64 (closedOf K.text ((ki : Int) + 1) o.path o.plain (Y.draws + 1)).rev) := HBM.out.cell 1
  have e2 : W.cell? ⟨y1.heap.size, 2, none⟩ = some (.int .i64 (closedOf K.text ((ki : Int) + 1) o.path o.plain (Y.draws + 1)).key) := HBM.out.cell 2
  have e3 : W.cell? ⟨y1.heap.size, 3, none⟩ = some (.int .i64 (closedOf K.text ((ki : Int) + 1) o.path o.plain (Y.draws + 1)).draw) := HBM.out.cell 3
  have e4 : W.cell? ⟨y1.heap.size, 4, none⟩ = some (.string (closedOf K.text ((ki : Int) + 1) o.path o.plain (Y.draws + 1)).sealed) := HBM.out.cell 4
  have e5 : W.cell? ⟨y1.heap.size, 5, none⟩ = some (.bool (closedOf K.text ((ki : Int) + 1) o.path o.plain (Y.draws + 1)).gone) := HBM.out.cell 5
  have n3 : W.cell? ⟨w.heap.size, 3, none⟩ = some (.int .i64 o.rev) := HBN.out.cell 3
  clear r1 r2 r3
  refine wp_region_still_tail 17 (by kernel_rfl) (by kernel_rfl) ?_
  (try (change wpStill _ _ (World.drew _) _ _ _))
  simp only [List.take_succ_cons, List.take_zero, List.drop_succ_cons, List.drop_zero]
  repeat still_step
  refine wpStill_nil ?_
  (try (change wpList _ _ _ _ _ (World.drew _)))
  go_wp2_with ((with_reducible refine st72 (.tmp 82) (.tmp 81) gO2 (i * 9) ⟨true, closedOf K.text ((ki : Int) + 1) o.path o.plain (Y.draws + 1), sn, o.rev⟩ ?_ ?_ ?_ ?_); rfl; rfl; (exact there_drew R3.out); rw [setCells_drew])
  go_ret
  exact ⟨rfl, R1.out.drew, (LW.out.trans R2.out (H := F) (fun _ f => f) (fun _ _ f => f)).drew⟩
end Go.Proofs.YtphapknfkbgapaaGreatDoor
namespace Go.Proofs.YtphapknfkbgapaaGreatDoor
open Go.RowKit

variable {F : Nat → Prop} {b : Nat} {Y : RS}

theorem stB72 {ops : Array Oper} {rest : List Oper} {d : Option Tmp} {t0 : TypeId} {pos : String} {after : Array Edge} {a : Act} {w : World} {Q : Exit → Act → World → Prop} (x y : Operand) (b : Nat) (old e : RUnd)
    (hx : a.eval x = .pointer (some ⟨b, 0, none⟩)) (hy : a.eval y = .agg e.cells.toArray) (hB : Blk w b 77 old.cells)
    (h : ∀ w', Blk w' b 77 e.cells → Kept (fun k => k = b) w w' → w'.heap.size = w.heap.size → wpList Tryz.prog ops Q rest (a.put d undef) w') :
    wpList Tryz.prog ops Q ({ dst := d, op := .store 77 x y, type := t0, pos := pos, after := after, guard := none } :: rest) a w :=
  stBlk 77 x y b 77 old.cells e.cells hx hy hB rfl (sz72 e) e.one h
theorem Commit_srv (w : World) (s : Int) (h : RIn w F b Y) (hs : isSrv Y.seen.length s = false) :
    Calls Tryz.prog 30 #[.pointer (some ⟨b, 0, none⟩), .int .i64 s] w fun e w' => e = .returned (.tuple #[.int .i64 0, .int .i64 4]) ∧ w' = w := by
  have HR := hid h
  have HS := hid hs
  clear h hs
  go_enter Tryz.func30, Tryz.ntmps30
  go_wp2_with (go_at_call 61; refine (server_any _ _ HR.out).mono ?_; rw [HS.out]; rintro e y1 ⟨rfl, rfl⟩)
  go_ret2
  exact ⟨rfl, rfl⟩
theorem RUnd.range {w : World} {g o : Nat} {u : RUnd} (hc : ∀ j, j < 9 → w.cell? ⟨g, o + j, none⟩ = u.cells[j]?) : w.rangeAt g o u.cells := range_of hc (fun _ _ e => ⟨(List.getElem?_eq_some_iff.1 e).1, e⟩)
/-- Is there a secret, of which revision? -/
def thereOf (L : Option Ent) : Bool := L.isSome && !(L.getD Ent.zero).gone
def conflictOf (L : Option Ent) (want : Int) : Bool := (want == 0 && thereOf L) || (decide (0 < want) && (!thereOf L || ((L.getD Ent.zero).rev != want)))
/-- Why an operation may not be committed. -/
def commitErr (Y : RS) (u : RUnd) : Int :=
  if decide (u.epoch < promOf Y.keys) then 9 else if conflictOf (lastOf Y.all u.e.path) u.want then 10 else if u.e.gone && !thereOf (lastOf Y.all u.e.path) then 12 else if fullOf Y then 11 else 0
set_option maxRecDepth 100000 in
set_option maxHeartbeats 1000000 in
theorem Commit_idle (w : World) (i : Nat) (sn : Int) (u : RUnd) (h : RIn w F b Y) (ha : At Y i sn u) (hu : u.on = false) :
    Calls Tryz.prog 30 #[.pointer (some ⟨b, 0, none⟩), .int .i64 i] w fun e w' => e = .returned (.tuple #[.int .i64 0, .int .i64 8]) ∧ Low w.heap.size w w' := by
  have HR := hid h
  have HS := hid ha.srv
  have hb := h.lt
  obtain ⟨gO, capO, hcO, hgO, hcs⟩ := h.opAt ha
  have HC := hid (RUnd.range hcs)
  have i1 : (i : Int) < (Y.ops.length : Int) := by have := ha.len.2; omega
  clear h hcs ha
  go_enter Tryz.func30, Tryz.ntmps30
  go_wp2_with (first | (go_at_call 61; refine (server_any _ _ HR.out).mono ?_; rw [HS.out]; rintro e y1 ⟨rfl, hy⟩; obtain rfl := hy.symm) | ((with_reducible refine ld72 (.tmp 22) gO (i * 9) u ?_ HC.out ?_); rfl) | ((with_reducible refine stB72 (.tmp 7) (.tmp 23) w.heap.size RUnd.zero u ?_ ?_ ?_ ?_); rfl; rfl; exact (Blk.new w 77 RUnd.zero.cells); intro w1 b1 k1 s1; have d0 : w1.cell? ⟨w.heap.size, 0, none⟩ = some (.bool u.on) := b1.cell 0; have K1 := hid k1; clear b1 k1 s1))
  go_ret2
  exact ⟨rfl, low_set ((Low.refl _ w).alloc (Nat.le_refl _) _) K1.out (Nat.le_refl _) (by simp)⟩
end Go.Proofs.YtphapknfkbgapaaGreatDoor
namespace Go.Proofs.YtphapknfkbgapaaGreatDoor
open Go.RowKit

variable {F : Nat → Prop} {b : Nat} {Y : RS}

theorem flat_set1 {α : Type} (k : Nat) (f : α → List Value) (hf : ∀ x, (f x).length = k) (l : List α) (i q : Nat) (x x' : α) (hx : l[i]? = some x) (hq : q < k) (u : Value) (hx' : f x' = (f x).set q u) : (l.flatMap f).set (i * k + q) u = (l.set i x').flatMap f := by
  have hi : i < l.length := (List.getElem?_eq_some_iff.1 hx).1
  rw [← flat_set k f hf l i x' hi]
  have hL := flat_length k f hf l
  have hle : (i + 1) * k ≤ l.length * k := Nat.mul_le_mul_right _ hi
  rw [Nat.add_mul] at hle
  apply List.ext_getElem?
  intro p
  rw [over_at _ _ _ _ (by rw [hL, hf]; omega), hf]
  by_cases h1 : p = i * k + q
  · subst h1
    rw [List.getElem?_set_self (by rw [hL]; omega), if_pos (by omega), Nat.add_sub_cancel_left, hx', List.getElem?_set_self (by rw [hf]; exact hq)]
  · rw [List.getElem?_set_ne (fun e => h1 e.symm)]
    by_cases h2 : i * k ≤ p ∧ p < i * k + k
    · rw [if_pos h2, hx', List.getElem?_set_ne (by omega)]
      obtain ⟨c, rfl⟩ : ∃ c, p = i * k + c := ⟨p - i * k, by omega⟩
      rw [Nat.add_sub_cancel_left, flat_at k f hf l i c x hx (by omega)]
    · rw [if_neg h2]
theorem own_cellSet {w : World} {t : TypeId} {C : List Value} {R : List Row} (h : Own w F b t C R) (j : Nat) {off : Nat} {e : TypeId} {k : Nat} {α : Type} {l : List α} {f : α → List Value} (hf : ∀ x, (f x).length = k) (hj : R[j]? = some ⟨off, e, k, l.length, l.flatMap f⟩)
    {g cap : Nat} (hv : C[off]? = some (.slice (some ⟨g, 0, none⟩) l.length cap)) (i : Nat) (x x' : α) (hx : l[i]? = some x) (q : Nat) (hq : q < k) (u : Value) (hx' : f x' = (f x).set q u) :
    Own (w.setCell ⟨g, i * k + q, none⟩ u) F b t C (R.set j ⟨off, e, k, l.length, (l.set i x').flatMap f⟩) ∧ Kept F w (w.setCell ⟨g, i * k + q, none⟩ u) := by
  obtain ⟨v0, hv0, ho, hF⟩ := h.row j hj
  obtain rfl : v0 = .slice (some ⟨g, 0, none⟩) l.length cap := Option.some.inj (hv0.symm.trans hv)
  have hk : Kept (fun p => (Value.slice (some ⟨g, 0, none⟩) l.length cap).ownBlock = some p) w (w.setCell ⟨g, i * k + q, none⟩ u) :=
    (setCell_kept w ⟨g, i * k + q, none⟩ u).mono (fun p _ (e : p = g) => by rw [e]; rfl)
  have h2 := h.rowSet j hj hv0 hk (ho.stored (i * k + q) u).1
  rw [flat_set1 k f hf l i q x x' hx hq u hx'] at h2
  exact ⟨h2, hk.mono (fun p _ e => hF p e)⟩
theorem rin_setOut {w : World} (h : RIn w F b Y) {g cap : Nat} (hc : w.cell? ⟨b, 3, none⟩ = some (.slice (some ⟨g, 0, none⟩) Y.all.length cap)) (i : Nat) (k : RKept) (hk : Y.all[i]? = some k) (v : Bool) :
    RIn (w.setCell ⟨g, i * 7 + 6, none⟩ (.bool v)) F b { Y with all := Y.all.set i { k with out := v } } ∧ Kept F w (w.setCell ⟨g, i * 7 + 6, none⟩ (.bool v)) := by
  obtain ⟨vA, vK, vS, vO, vN, hO, c3, c4, c5, c6⟩ := h.vals
  obtain rfl : vA = _ := Option.some.inj (c3.symm.trans hc)
  obtain ⟨q1, q2⟩ := own_cellSet hO 0 RKept.len rfl rfl i k { k with out := v } hk 6 (by omega) (.bool v) rfl
  exact ⟨⟨h.1, _, vK, vS, vO, vN, q1.cast rfl (by simp [RS.rows])⟩, q2⟩
theorem rin_setFloor {w : World} (h : RIn w F b Y) (n : Int) : RIn (w.setCell ⟨b, 8, none⟩ (.int .i64 n)) F b { Y with floor := n } := by
  obtain ⟨h8, vA, vK, vS, vO, vN, h⟩ := h
  exact ⟨h8, vA, vK, vS, vO, vN, (h.set 8 (.int .i64 n) (by simp [RS.rows])).cast rfl rfl⟩
/-- Is the j-th entry given up, when all is compacted up to r? -/
def outAt (all : List RKept) (r j : Nat) : Bool := match all[j]? with
  | some k => (((lastOf (all.take r) k.e.path).getD Ent.zero).rev != (j : Int) + 1) || ((lastOf (all.take r) k.e.path).getD Ent.zero).gone
  | none => false
def allTo (all : List RKept) (f : Nat → Bool) (n : Nat) : List RKept := all.mapIdx (fun j k => if j < n then { k with out := k.out || f j } else k)
theorem allTo_zero (all : List RKept) (f : Nat → Bool) : allTo all f 0 = all := by
  apply List.ext_getElem?
  intro p
  simp [allTo, List.getElem?_mapIdx]
theorem allTo_len (all : List RKept) (f : Nat → Bool) (n : Nat) : (allTo all f n).length = all.length := by simp [allTo]
theorem allTo_at (all : List RKept) (f : Nat → Bool) (n : Nat) (k : RKept) (h : all[n]? = some k) : (allTo all f n)[n]? = some k := by
  simp [allTo, List.getElem?_mapIdx, h]
theorem allTo_succ (all : List RKept) (f : Nat → Bool) (n : Nat) (k : RKept) (h : all[n]? = some k) : (allTo all f n).set n { k with out := k.out || f n } = allTo all f (n + 1) := by
  have hn : n < all.length := (List.getElem?_eq_some_iff.1 h).1
  apply List.ext_getElem?
  intro p
  by_cases hp : p = n
  · subst hp
    rw [List.getElem?_set_self (by rw [allTo_len]; exact hn)]
    simp [allTo, List.getElem?_mapIdx, h]
  · rw [List.getElem?_set_ne (fun e => hp e.symm)]
    simp only [allTo, List.getElem?_mapIdx]
    cases all[p]? with
    | none => rfl
    | some k2 =>
      simp only [Option.map_some]
      by_cases h2 : p < n
      · rw [if_pos h2, if_pos (by omega)]
      · rw [if_neg h2, if_neg (by omega)]
def boolsTo (f : Nat → Bool) (i r : Nat) : List Value := (List.range r).map (fun j => .bool (if j < i then f j else false))
theorem boolsTo_len (f : Nat → Bool) (i r : Nat) : (boolsTo f i r).length = r := by simp [boolsTo]
theorem boolsTo_succ (f : Nat → Bool) (i r : Nat) : (boolsTo f i r).set i (.bool (f i)) = boolsTo f (i + 1) r := by
  apply List.ext_getElem?
  intro p
  by_cases hr : p < r
  · by_cases hp : p = i
    · subst hp
      rw [List.getElem?_set_self (by rw [boolsTo_len]; exact hr)]
      simp [boolsTo, hr]
    · rw [List.getElem?_set_ne (fun e => hp e.symm)]
      simp only [boolsTo, List.getElem?_map, List.getElem?_range hr, Option.map_some]
      by_cases h2 : p < i
      · rw [if_pos h2, if_pos (by omega)]
      · rw [if_neg h2, if_neg (by omega)]
  · rw [List.getElem?_eq_none (by rw [List.length_set, boolsTo_len]; omega), List.getElem?_eq_none (by rw [boolsTo_len]; omega)]
theorem boolsTo_zero (f : Nat → Bool) (r : Nat) : boolsTo f 0 r = List.replicate r (.bool false) := by
  apply List.ext_getElem?
  intro p
  by_cases hr : p < r
  · simp [boolsTo, hr]
  · rw [List.getElem?_eq_none (by rw [boolsTo_len]; omega), List.getElem?_eq_none (by simp; omega)]
theorem boolsTo_at (f : Nat → Bool) (i r j : Nat) (h : j < r) : (boolsTo f i r)[j]? = some (.bool (if j < i then f j else false)) := by simp [boolsTo, h]
theorem made_bools (f : Nat → Bool) (r : Nat) : madeCells #[Value.bool false] r = (boolsTo f 0 r).toArray := by
  rw [boolsTo_zero, ← toList_madeCells_one]
theorem info4 : (Tryz.prog.info? 4).map (fun i => (i.zero, i.size, i.bytes)) = some (some (.bool false), 1, 1) := by kernel_rfl
def badCut (Y : RS) (rev : Int) : Bool := decide (rev ≤ Y.floor) || decide ((Y.all.length : Int) < rev)
set_option maxRecDepth 100000 in
set_option maxHeartbeats 1000000 in
theorem Compact_no (w : World) (rev : Int) (h : RIn w F b Y) (hr : badCut Y rev = true) :
    Calls Tryz.prog 38 #[.pointer (some ⟨b, 0, none⟩), .int .i64 rev] w fun e w' => e = .returned (.int .i64 15) ∧ w' = w := by
  obtain ⟨a3, cap3, hc3, _⟩ := h.all
  rw [List.length_map] at hc3
  have c8 := h.floor
  clear h
  cases h1 : decide (rev ≤ Y.floor)
  · have h2 : decide ((Y.all.length : Int) < rev) = true := by simpa [badCut, h1] using hr
    clear hr
    go_enter Tryz.func38, Tryz.ntmps38
    go_wp2_with fail
    go_ret
    exact ⟨rfl, rfl⟩
  · clear hr
    go_enter Tryz.func38, Tryz.ntmps38
    go_wp2_with fail
    go_ret
    exact ⟨rfl, rfl⟩
def RS.compact (Y : RS) (r : Nat) : RS := { Y with floor := r, all := allTo Y.all (outAt Y.all r) r }
set_option maxRecDepth 100000 in
set_option maxHeartbeats 2000000 in
theorem Compact_yes (w : World) (r : Nat) (h : RIn w F b Y) (h1 : Y.floor < (r : Int)) (h2 : r ≤ Y.all.length) (hn : Y.all.length ≤ 100000000) :
    Calls Tryz.prog 38 #[.pointer (some ⟨b, 0, none⟩), .int .i64 (r : Int)] w fun e w' => e = .returned (.int .i64 0) ∧ RIn w' F b (Y.compact r) ∧ Kept F w w' := by
  obtain ⟨a3, cap3, hc3, _⟩ := h.all
  rw [List.length_map] at hc3
  have c8 := h.floor
  have f8 := h.frozen 8
  have p1 : decide ((r : Int) ≤ Y.floor) = false := by simp; omega
  have p2 : decide ((Y.all.length : Int) < (r : Int)) = false := by simp; omega
  have p3 : decide (Y.all.length < r) = false := by simp; omega
  have hmk := run_make_row' (P := Tryz.prog) 119 4 (.bool false) 1 Tryz.underlying119 info4 rfl .i64 .i64 r (by omega) (by omega)
  have hb := h.lt
  have HR := hid h
  obtain ⟨f, hf⟩ : ∃ f, f = outAt Y.all r := ⟨_, rfl⟩
  have HF := hid hf
  clear h h1 hf
  go_enter Tryz.func38, Tryz.ntmps38
  go_wp2_with fail
  generalize hG : w.heap.size = G at *
  go_loopg [6, 7, 8] r (fun left iv ev ov wr => ∃ i : Nat, left = r - i ∧ i ≤ r ∧ iv = .int .i64 (i : Int) ∧ Hid (RIn wr F b { Y with floor := r } ∧ Kept F w wr ∧ Blk wr G 4 (boolsTo f i r)))
  case atStart =>
    refine ⟨0, rfl, Nat.zero_le _, rfl, (rin_setFloor HR.out r).alloc _, ?_, ?_⟩
    · exact (setCell_kept w ⟨b, 8, none⟩ _).trans ((Low.refl _ _).alloc (Nat.le_refl _) _).kept (fun q e => by rw [show q = b from e]; exact HR.out.inF) (fun _ _ f => f.elim)
    · have q := Blk.new (w.setCell ⟨b, 8, none⟩ (.int .i64 (r : Int))) 4 (boolsTo f 0 r)
      rw [World.size_setCell, hG, ← made_bools] at q
      exact q
  case round =>
    obtain ⟨i, hgk, hi, rfl, HI⟩ := hrel
    clear hmk c8 f8 hc3
    have HGK := hid hgk
    clear hgk
    by_cases h3 : i < r
    · have q1 : decide ((i : Int) < (r : Int)) = true := by simp; omega
      obtain ⟨a, cap, hc, hel⟩ := HI.out.1.all
      rw [List.length_map] at hc
      have hc : wr.cell? ⟨b, 3, none⟩ = some (.slice a Y.all.length cap) := hc
      obtain ⟨k, hk⟩ : ∃ k, Y.all[i]? = some k := ⟨_, List.getElem?_eq_getElem (by omega)⟩
      obtain ⟨g, rfl, hg, hcs, _⟩ := hel i k.cells (by rw [List.getElem?_map, show ({ Y with floor := (r : Int) } : RS).all[i]? = some k from hk]; rfl)
      have c0 : wr.cell? ⟨g, i * 7, none⟩ = some (.string k.e.path) := hcs 0 (by omega)
      have hil : (i : Int) < (Y.all.length : Int) := by omega
      obtain ⟨X, hX⟩ : ∃ X, (lastOf (Y.all.take r) k.e.path).getD Ent.zero = X := ⟨_, rfl⟩
      have HX : Hid ((lastOf (({ Y with floor := (r : Int) } : RS).all.take (Int.toNat (r : Int))) k.e.path).getD Ent.zero = X) := by show _ = _; rw [Int.toNat_natCast]; exact hX
      have HV : Hid (f i = ((X.rev != (i : Int) + 1) || X.gone)) := by show _ = _; rw [HF.out]; unfold outAt; rw [hk]; simp only [hX]
      have HGF : Hid (¬ F G) := fun ff => by have := HR.out.below _ ff; omega
      have lG := HI.out.2.2.lt
      clear hcs hel hk hX
      go_upto_region 9 with (first | (go_at_call 70; refine (last_any (Y := { Y with floor := (r : Int) }) _ _ _ HI.out.1 hn).mono ?_; rw [HX.out]; rintro e y1 ⟨rfl, l1⟩; have L1 := hid l1; clear l1) | ((with_reducible refine st50 (.tmp 7) (.tmp 49) y1.heap.size Ent.zero X ?_ ?_ ?_ ?_); rfl; rfl; exact (Blk.new y1 50 Ent.zero.cells); intro W b2 k2 s2; have B2 := hid b2; have LW : Hid (Low wr.heap.size wr W) := low_set (L1.out.alloc L1.out.size _) k2 L1.out.size (by have := L1.out.size; simp; omega); clear b2 k2 s2))
      have bG : Hid (Blk W G 4 (boolsTo f i r)) := HI.out.2.2.low LW.out lG
      have x1 : W.cell? ⟨y1.heap.size, 1, none⟩ = some (.int .i64 X.rev) := B2.out.cell 1
      have x5 : W.cell? ⟨y1.heap.size, 5, none⟩ = some (.bool X.gone) := B2.out.cell 5
      have gI : W.cell? ⟨G, i, none⟩ = some (.bool false) := by rw [bG.out.cell, boolsTo_at f i r i h3, if_neg (by omega)]
      have gF : W.frozen? ⟨G, i, none⟩ = false := bG.out.frozen i
      have lGW : G < W.heap.size := bG.out.lt
      clear hc c0 hg
      cases qa : (X.rev != (i : Int) + 1)
      · go_wp2_with fail
        go_roundg (r - (i + 1))
        case rel =>
          refine ⟨i + 1, rfl, by omega, by simp, (HI.out.1.low LW.out).kept (setCell_kept W ⟨G, i, none⟩ _) (fun q hq e => HGF.out (by rw [← show q = G from e]; exact hq)), ?_, ?_⟩
          · exact (HI.out.2.1.trans LW.out.kept (H := F) (fun _ f => f) (fun _ _ f => f.elim)).trans (setCell_kept W ⟨G, i, none⟩ _) (fun _ f => f) (fun q hq e => by have : q = G := e; omega)
          · rw [← boolsTo_succ, HV.out, qa]
            exact bG.out.set i _
        case measure => have := HGK.out; omega
      · go_wp2_with fail
        go_roundg (r - (i + 1))
        case rel =>
          refine ⟨i + 1, rfl, by omega, by simp, (HI.out.1.low LW.out).kept (setCell_kept W ⟨G, i, none⟩ _) (fun q hq e => HGF.out (by rw [← show q = G from e]; exact hq)), ?_, ?_⟩
          · exact (HI.out.2.1.trans LW.out.kept (H := F) (fun _ f => f) (fun _ _ f => f.elim)).trans (setCell_kept W ⟨G, i, none⟩ _) (fun _ f => f) (fun q hq e => by have : q = G := e; omega)
          · rw [← boolsTo_succ, HV.out, qa]
            exact bG.out.set i _
        case measure => have := HGK.out; omega
    · have q1 : decide ((i : Int) < (r : Int)) = false := by simp; omega
      obtain rfl : i = r := by omega
      go_wp2_with fail
      go_loopw [9] (fun iv wx => ∃ j : Nat, j ≤ i ∧ iv = .int .i64 (j : Int) ∧ Hid (RIn wx F b { Y with floor := i, all := allTo Y.all f j } ∧ Kept F w wx ∧ Blk wx G 4 (boolsTo f i i))) (fun iv _ => i - (intOf iv).toNat)
      case atStart =>
        refine ⟨0, Nat.zero_le _, rfl, ?_, HI.out.2.1, HI.out.2.2⟩
        rw [allTo_zero]
        exact HI.out.1
      case round =>
        obtain ⟨j, hj, rfl, HJ⟩ := hrel
        clear HI
        by_cases h3 : j < i
        · have q2 : decide ((j : Int) < (i : Int)) = true := by simp; omega
          obtain ⟨a, cap, hcx, hel⟩ := HJ.out.1.all
          rw [List.length_map] at hcx
          have hc : wr.cell? ⟨b, 3, none⟩ = some (.slice a Y.all.length cap) := by
            have q : wr.cell? ⟨b, 3, none⟩ = some (.slice a (allTo Y.all f j).length cap) := hcx
            rw [allTo_len] at q; exact q
          obtain ⟨k, hk⟩ : ∃ k, Y.all[j]? = some k := ⟨_, List.getElem?_eq_getElem (by omega)⟩
          obtain ⟨g, rfl, hg, hcs, hfz⟩ := hel j k.cells (by rw [List.getElem?_map, show ({ Y with floor := (i : Int), all := allTo Y.all f j } : RS).all[j]? = some k from allTo_at _ _ _ _ hk]; rfl)
          have c6 : wr.cell? ⟨g, j * 7 + 6, none⟩ = some (.bool k.out) := hcs 6 (by omega)
          have f6 := hfz (j * 7 + 6)
          have gJ : wr.cell? ⟨G, j, none⟩ = some (.bool (f j)) := by rw [HJ.out.2.2.cell, boolsTo_at f i i j h3, if_pos h3]
          obtain ⟨r1, k1⟩ := rin_setOut HJ.out.1 hcx j k (allTo_at _ _ _ _ hk) (k.out || f j)
          have e1 : Hid ((allTo Y.all f j).set j { k with out := k.out || f j } = allTo Y.all f (j + 1)) := allTo_succ _ _ _ _ hk
          have R1 := hid r1
          have K1 := hid k1
          have B1 : Hid (Blk (wr.setCell ⟨g, j * 7 + 6, none⟩ (.bool (k.out || f j))) G 4 (boolsTo f i i)) := HJ.out.2.2.kept k1 (fun ff => by have := HR.out.below _ ff; omega)
          have jl : (j : Int) < (Y.all.length : Int) := by omega
          clear hcx hel hcs hfz r1 k1 hk
          cases ko : k.out
          · rw [ko, Bool.false_or] at R1 K1 B1 e1
            go_upto_region 13 with fail
            go_region
            all_goals go_wp2_with fail
            all_goals go_roundw
            all_goals first
              | (case rel => exact ⟨j + 1, by omega, by simp, by rw [← e1.out]; exact R1.out.drew, (HJ.out.2.1.trans K1.out (H := F) (fun _ f => f) (fun _ _ f => f)).drew, B1.out⟩)
              | (case measure => simp [intOf]; omega)
          · rw [ko, Bool.true_or] at R1 K1 B1 e1
            go_upto_region 13 with fail
            go_region
            all_goals go_wp2_with fail
            all_goals go_roundw
            all_goals first
              | (case rel => exact ⟨j + 1, by omega, by simp, by rw [← e1.out]; exact R1.out.drew, (HJ.out.2.1.trans K1.out (H := F) (fun _ f => f) (fun _ _ f => f)).drew, B1.out⟩)
              | (case measure => simp [intOf]; omega)
        · have q2 : decide ((j : Int) < (i : Int)) = false := by simp; omega
          obtain rfl : j = i := by omega
          go_wp2_with fail
          go_ret
          refine ⟨rfl, ?_, HJ.out.2.1⟩
          unfold RS.compact
          rw [← HF.out]
          exact HJ.out.1
end Go.Proofs.YtphapknfkbgapaaGreatDoor
namespace Go.Proofs.YtphapknfkbgapaaGreatDoor
open Go.RowKit

/-! The law's own functions: marks, and the lists that are the caller's. -/

def markE (k : Int) : Ent := ⟨⟨#[109, 97, 114, 107]⟩, -1 - k, 0, 0, ⟨#[]⟩, true⟩
theorem lmark_any (w : World) (k : Int) (h0 : 0 ≤ k) (h1 : k ≤ 1000000000) :
    Calls Tryz.prog 20 #[.int .i64 k] w fun e w' => e = .returned (.agg #[.string ⟨#[109, 97, 114, 107]⟩, .int .i64 (-1 - k), .int .i64 0, .int .i64 0, .string ⟨#[]⟩, .bool true]) ∧ Low w.heap.size w w' := by
  go_enter Tryz.func20, Tryz.ntmps20
  go_wp2
  (try simp only [Exit.inBlock, Exit.then])
  refine bodyPost_ret (results_cell rfl w.heap.size (markE k).cells _ rfl (by exact (Blk.new w 50 (markE k).cells).whole) Tryz.underlying50 rfl (sz50 _)) rfl ?_
  exact ⟨rfl, (Low.refl _ w).alloc (Nat.le_refl _) _⟩
structure LOut where
  l : Value
  mark : Int
def LOut.cells (o : LOut) : List Value := [o.l, .int .i64 o.mark]
theorem LOut.len (o : LOut) : o.cells.length = 2 := rfl
/-- A list of the caller's reads as the caller has written it. -/
def OutOk (w : World) (H : Nat → Prop) (o : LOut) : Prop := 0 ≤ o.mark ∧ o.mark ≤ 1000000000 ∧ ∃ a n cap, o.l = .slice a n cap ∧ n ≤ 1000000 ∧ (0 < n → ∃ g, a = some ⟨g, 0, none⟩ ∧ H g ∧ g < w.heap.size ∧ ∀ j, j < n → w.rangeAt g (j * 6) (markE o.mark).cells)
/-- The law's world: the two coffers, and the lists. -/
def WIn (w : World) (F : Nat → Prop) (b bx r : Nat) (outs : List LOut) : Prop := ∃ v, Own w F b 45 [.pointer (some ⟨bx, 0, none⟩), .pointer (some ⟨r, 0, none⟩), v] [⟨2, 48, 2, outs.length, outs.flatMap LOut.cells⟩]
theorem win_outs {w : World} {F : Nat → Prop} {b bx r : Nat} {outs : List LOut} (h : WIn w F b bx r outs) : Sl w b 2 2 (outs.map LOut.cells) := by
  obtain ⟨v, h⟩ := h
  exact h.sl 0 LOut.len rfl
theorem win_low {w w' : World} {F : Nat → Prop} {b bx r : Nat} {outs : List LOut} (h : WIn w F b bx r outs) (k : Low w.heap.size w w') : WIn w' F b bx r outs := by
  obtain ⟨v, h⟩ := h
  exact ⟨v, h.low k⟩
theorem out_low {w w' : World} {H : Nat → Prop} {o : LOut} (h : OutOk w H o) (k : Low w.heap.size w w') : OutOk w' H o := by
  obtain ⟨m0, m1, a, n, cap, hl, hn, hg⟩ := h
  refine ⟨m0, m1, a, n, cap, hl, hn, fun h0 => ?_⟩
  obtain ⟨g, ha, hH, hlt, hr⟩ := hg h0
  exact ⟨g, ha, hH, Nat.lt_of_lt_of_le hlt k.size, fun j hj q v hv => (k.cell hlt).trans (hr j hj q v hv)⟩
set_option maxRecDepth 100000 in
set_option maxHeartbeats 1000000 in
theorem looks_any (w : World) (F H : Nat → Prop) (b bx r : Nat) (outs : List LOut) (h : WIn w F b bx r outs) (ho : ∀ o ∈ outs, OutOk w H o) (hn : outs.length ≤ 1000000000) :
    Calls Tryz.prog 10 #[.pointer (some ⟨b, 0, none⟩)] w fun e w' => e = .returned (.bool true) ∧ Low w.heap.size w w' := by
  have HW := hid h
  have HO := hid ho
  clear h ho
  go_enter Tryz.func10, Tryz.ntmps10
  go_wp2
  go_loopg [3, 4, 5] outs.length (fun left iv ov kv wr => ∃ i : Nat, left = outs.length - i ∧ i ≤ outs.length ∧ iv = .int .i64 (i : Int) ∧ Hid (Low w.heap.size w wr))
  case atStart => exact ⟨0, rfl, Nat.zero_le _, rfl, Low.refl _ _⟩
  case round =>
    obtain ⟨i, hgk, hi, rfl, HL⟩ := hrel
    have HGK := hid hgk
    clear hgk
    obtain ⟨a, cap, hc, hel⟩ := win_outs (win_low HW.out HL.out)
    rw [List.length_map] at hc
    by_cases h1 : i < outs.length
    · have q1 : decide ((i : Int) < (outs.length : Int)) = true := by simp; omega
      obtain ⟨o, hk⟩ : ∃ o, outs[i]? = some o := ⟨_, List.getElem?_eq_getElem h1⟩
      obtain ⟨g, rfl, hg, hcs, _⟩ := hel i o.cells (by rw [List.getElem?_map, hk]; rfl)
      obtain ⟨m0, m1, a2, n, cap2, hl2, hn2, hg2⟩ := out_low (HO.out o (List.mem_of_getElem? hk)) HL.out
      have c0 : wr.cell? ⟨g, i * 2, none⟩ = some (.slice a2 n cap2) := by have := hcs 0 (by omega); rw [← hl2]; exact this
      have c1 : wr.cell? ⟨g, i * 2 + 1, none⟩ = some (.int .i64 o.mark) := hcs 1 (by omega)
      have HG2 := hid hg2
      clear hcs hel hl2 hg2
      generalize o.mark = mk at *
      go_upto_region 5 with fail
      go_name_world V hV
      have hL0 : Low w.heap.size w V := by rw [← hV]; exact HL.out.alloc HL.out.size _
      have hLV : Low wr.heap.size wr V := by rw [← hV]; exact (Low.refl _ wr).alloc (Nat.le_refl _) _
      have hBV : Blk V wr.heap.size 48 [.slice a2 n cap2, .int .i64 mk] := by rw [← hV]; exact Blk.new wr 48 [.slice a2 n cap2, .int .i64 mk]
      have L0 := hid hL0
      have LV := hid hLV
      have BV := hid hBV
      generalize hM : wr.heap.size = M at *
      clear hL0 hLV hBV hV c0 c1 hc hg
      go_wp2_with fail
      go_loopg [5] n (fun left kv wx => ∃ j : Nat, left = n - j ∧ j ≤ n ∧ kv = .int .i64 (j : Int) ∧ Hid (Low V.heap.size V wx))
      case atStart => exact ⟨0, rfl, Nat.zero_le _, rfl, Low.refl _ _⟩
      case round =>
        obtain ⟨j, hgj, hj, rfl, HX⟩ := hrel
        have HGJ := hid hgj
        clear hgj
        have bx2 := BV.out.low HX.out BV.out.lt
        have v0 : wr.cell? ⟨M, 0, none⟩ = some (.slice a2 n cap2) := bx2.cell 0
        have v1 : wr.cell? ⟨M, 1, none⟩ = some (.int .i64 mk) := bx2.cell 1
        clear bx2
        by_cases h2 : j < n
        · have q2 : decide ((j : Int) < (n : Int)) = true := by simp; omega
          obtain ⟨g2, rfl, _, hlt, hr⟩ := HG2.out (by omega)
          have hr2 : wr.rangeAt g2 (j * 6) (markE mk).cells := fun q v hv => (HX.out.cell (show g2 < V.heap.size by have := LV.out.size; omega)).trans ((LV.out.cell hlt).trans (hr j h2 q v hv))
          have e0 : wr.cell? ⟨g2, j * 6, none⟩ = some (.string ⟨#[109, 97, 114, 107]⟩) := hr2 0 _ rfl
          have e1 : wr.cell? ⟨g2, j * 6 + 1, none⟩ = some (.int .i64 (-1 - mk)) := hr2 1 _ rfl
          have e2 : wr.cell? ⟨g2, j * 6 + 2, none⟩ = some (.int .i64 0) := hr2 2 _ rfl
          have e3 : wr.cell? ⟨g2, j * 6 + 3, none⟩ = some (.int .i64 0) := hr2 3 _ rfl
          have e4 : wr.cell? ⟨g2, j * 6 + 4, none⟩ = some (.string ⟨#[]⟩) := hr2 4 _ rfl
          have e5 : wr.cell? ⟨g2, j * 6 + 5, none⟩ = some (.bool true) := hr2 5 _ rfl
          have jn : (j : Int) < (n : Int) := by omega
          clear hr2 hr hlt
          go_upto_region 8 with fail
          have lM : M < wr.heap.size := World.block_lt_of_cell? wr _ v0
          have lg : g2 < wr.heap.size := World.block_lt_of_cell? wr _ e0
          go_region_held3 (fun W' => W'.cell? ⟨M, 0, none⟩ = some (.slice (some ⟨g2, 0, none⟩) n cap2) ∧ W'.cell? ⟨M, 1, none⟩ = some (.int .i64 mk) ∧ W'.cell? ⟨g2, j * 6, none⟩ = some (.string ⟨#[109, 97, 114, 107]⟩) ∧ W'.cell? ⟨g2, j * 6 + 1, none⟩ = some (.int .i64 (-1 - mk)) ∧ W'.cell? ⟨g2, j * 6 + 2, none⟩ = some (.int .i64 0) ∧ W'.cell? ⟨g2, j * 6 + 3, none⟩ = some (.int .i64 0) ∧ W'.cell? ⟨g2, j * 6 + 4, none⟩ = some (.string ⟨#[]⟩) ∧ W'.cell? ⟨g2, j * 6 + 5, none⟩ = some (.bool true)) (first | assumption | go_keep)
            (first | (go_at_call 20; refine (lmark_any _ _ m0 m1).mono ?_; rintro e y1 ⟨rfl, l1⟩; have S1 : y1.cell? ⟨M, 0, none⟩ = some (.slice (some ⟨g2, 0, none⟩) n cap2) ∧ y1.cell? ⟨M, 1, none⟩ = some (.int .i64 mk) ∧ y1.cell? ⟨g2, j * 6, none⟩ = some (.string ⟨#[109, 97, 114, 107]⟩) ∧ y1.cell? ⟨g2, j * 6 + 1, none⟩ = some (.int .i64 (-1 - mk)) ∧ y1.cell? ⟨g2, j * 6 + 2, none⟩ = some (.int .i64 0) ∧ y1.cell? ⟨g2, j * 6 + 3, none⟩ = some (.int .i64 0) ∧ y1.cell? ⟨g2, j * 6 + 4, none⟩ = some (.string ⟨#[]⟩) ∧ y1.cell? ⟨g2, j * 6 + 5, none⟩ = some (.bool true) := ⟨(l1.cell lM).trans v0, (l1.cell lM).trans v1, (l1.cell lg).trans e0, (l1.cell lg).trans e1, (l1.cell lg).trans e2, (l1.cell lg).trans e3, (l1.cell lg).trans e4, (l1.cell lg).trans e5⟩; have L1 := hid l1; clear l1))
          go_wp2_with fail
          go_roundg (n - (j + 1))
          case rel => exact ⟨j + 1, rfl, by omega, by simp, HX.out.drew.trans (L1.out.mono (by have := HX.out.size; simpa using this))⟩
          case measure => have := HGJ.out; omega
        · have q2 : decide ((j : Int) < (n : Int)) = false := by simp; omega
          go_wp2_with fail
          go_roundg (outs.length - (i + 1))
          case rel => exact ⟨i + 1, rfl, by omega, by simp, L0.out.trans (HX.out.mono L0.out.size)⟩
          case measure => have := HGK.out; omega
    · have q1 : decide ((i : Int) < (outs.length : Int)) = false := by simp; omega
      clear hel
      go_wp2_with fail
      go_ret
      exact ⟨rfl, HL.out⟩
end Go.Proofs.YtphapknfkbgapaaGreatDoor
namespace Go.Proofs.YtphapknfkbgapaaGreatDoor
open Go.RowKit

/-! A list that came out is the caller's. -/

/-- A row is another one now; what is owned is told exactly. -/
theorem own_rowNew2 {w w' : World} {F : Nat → Prop} {b : Nat} {t : TypeId} {C : List Value} {r : Row} (h : Own w F b t C [r]) {v : Value} (hv : C[r.off]? = some v) (k : Kept (fun q => v.ownBlock = some q) w w') {v' : Value} {n : Nat} {xs : List Value}
    (ho : w'.ownsRow 0 r.e r.size v' n xs) (hw : v'.ownBlock = v.ownBlock ∨ ∀ q, v'.ownBlock = some q → w.heap.size ≤ q) :
    Own (w'.setCell ⟨b, r.off, none⟩ v') (fun q => F q ∨ v'.ownBlock = some q) b t (C.set r.off v') [{ r with n := n, xs := xs }] := by
  have h1 := h.rowNew 0 rfl hv k ho hw (fun i s hi hne => by
    have : i < 1 := (List.getElem?_eq_some_iff.1 hi).1
    omega)
  have hne := h.apart 0 rfl hv
  have hb := h.lt
  have hvb : v'.ownBlock ≠ some b := by
    rcases hw with e | e
    · rw [e]; exact hne
    · intro q; have := e b q; omega
  refine ⟨h1.blk, Or.inl h.inF, fun q hq => ?_, fun q => if q = b then 0 else 1, by simp, fun j s hj => ?_⟩
  · rcases hq with hq | hq
    · exact h1.below q (Or.inl hq)
    · simpa using (ho.lt q hq).2
  · have hj0 : j = 0 := by
      have : j < 1 := (List.getElem?_eq_some_iff.1 hj).1
      omega
    subst hj0
    obtain rfl := (Option.some.inj hj).symm
    refine ⟨v', List.getElem?_set_self (List.getElem?_eq_some_iff.1 hv).1, ownsRow_at ho (fun q hq => Below.heap_setCell _ _ _ _ (fun e => hvb (by rw [hq]; rw [show q = b from e]))), fun q hq => ⟨Or.inr hq, ?_⟩⟩
    show (if q = b then 0 else 1) = 1
    rw [if_neg (fun e => hvb (by rw [hq, e]))]
theorem info48 : (Tryz.prog.info? 48).map (fun i => (i.zero, i.size, i.bytes)) = some (some (.agg #[.slice none 0 0, .int .i64 0]), 2, 32) := by kernel_rfl
theorem fits_serve (w : World) (k s n q : Int) (p t : ByteArray) (on : Bool) (hk : k < 8 ∨ 16 < k) (parts : Int) :
    Calls Tryz.prog 12 #[.agg #[.int .i64 k, .int .i64 s, .int .i64 n, .int .i64 q, .string p, .string t, .bool on], .int .i64 parts] w fun e w' => e = .returned (.bool true) ∧ Low w.heap.size w w' := by
  have q8 : (k == 8) = false := beq_eq_false_iff_ne.2 (by omega)
  have q9 : (k == 9) = false := beq_eq_false_iff_ne.2 (by omega)
  have q10 : (k == 10) = false := beq_eq_false_iff_ne.2 (by omega)
  have q11 : (k == 11) = false := beq_eq_false_iff_ne.2 (by omega)
  have q12 : (k == 12) = false := beq_eq_false_iff_ne.2 (by omega)
  have q13 : (k == 13) = false := beq_eq_false_iff_ne.2 (by omega)
  have q14 : (k == 14) = false := beq_eq_false_iff_ne.2 (by omega)
  have q15 : (k == 15) = false := beq_eq_false_iff_ne.2 (by omega)
  have q16 : (k == 16) = false := beq_eq_false_iff_ne.2 (by omega)
  clear hk
  go_enter Tryz.func12, Tryz.ntmps12
  go_wp2
  go_ret
  exact ⟨rfl, (Low.refl _ w).alloc (Nat.le_refl _) _⟩
end Go.Proofs.YtphapknfkbgapaaGreatDoor
namespace Go.Proofs.YtphapknfkbgapaaGreatDoor
open Go.RowKit

section
variable {P : Program} (w : World)
/-- Behind an append the old slice reads as it did. -/
theorem append_old (t ty e : TypeId) (i : TypeInfo) (z : Value) (size bytes : Nat) (ht : P.underlying t = some (.slice e)) (hi : P.info? e = some i) (hz : i.zero = some z)
    (hsize : i.size = size) (hby : i.bytes = bytes) (hzs : z.cells.size = size) (hsz : 0 < size)
    (v : Value) (n : Nat) (xs : List Value) (hown : w.ownsRow 0 e size v n xs)
    (a : Addr) (m c : Nat) (news : List Value) (hl : news.length = m * size) (hnews : ∀ j u, news[j]? = some u → w.cell? (a.add j) = some u) (h1 : ∀ u ∈ news, u.oneCell' = true)
    (h63 : n + m ≤ maxLen) (hbytes : (n + m) * bytes ≤ 140737488355328) (v' : Value) (w' : World)
    (hr : (Builtin.append_ #[t, t] ty #[v, .slice (some a) m c]).run P w = .ok v' w') : w'.ownsRow 0 e size v n xs := by
  subst hsize
  subst hby
  have hsmall : n + m ≤ 9223372036854775807 := by simp only [maxLen] at h63; omega
  have hown0 := hown
  rcases hown.2 with ⟨rfl, rfl⟩ | ⟨g, cap, cur, rfl, hbg, hg, hnc, hcm, hcs, htake⟩
  · have : xs = [] := List.eq_nil_of_length_eq_zero (by simpa using hown.1)
    subst this
    exact World.ownsRow_nil _ _ _ _
  · by_cases hroom : n + m ≤ cap
    · have hfit : n * i.size + news.length ≤ cur.size := by rw [hl, hcs, ← Nat.add_mul]; exact Nat.mul_le_mul_right _ hroom
      have e2 := run_append_room (P := P) w t ty e i ht hi g n cap cur hg a m c news hl hnews h1 hroom hfit
      rw [e2] at hr
      injection hr with q1 q2
      subst q2
      refine ⟨hown.1, Or.inr ⟨g, cap, _, rfl, hbg, setRow_heap w g cur _ e _ hg, hnc, hcm, ?_, ?_⟩⟩
      · simp only [List.size_toArray, List.length_append, List.length_take, List.length_drop, Array.length_toList]
        omega
      · have hlen : (cur.toList.take (n * i.size)).length = n * i.size := by rw [htake]; exact hown.1
        show List.take (n * i.size) (cur.toList.take (n * i.size) ++ news ++ cur.toList.drop (n * i.size + news.length)) = xs
        rw [List.append_assoc, List.take_append_of_le_length (by omega), List.take_of_length_le (by omega)]
        exact htake
    · have holds : ∀ j u, xs[j]? = some u → w.cell? ((⟨g, 0, none⟩ : Addr).add j) = some u := hown.cells (g := g) rfl
      have e2 := run_append_grow (P := P) w t ty e i z ht hi hz ⟨g, 0, none⟩ n cap xs hown.1 holds a m c news hl hnews (by omega) (by omega) (growslice_fits (by omega) hbytes)
      rw [e2] at hr
      injection hr with q1 q2
      subst q2
      exact World.ownsRow.alloc (w := w.drew) hown0 _
theorem wpList_append_both {ops : Array Oper} {rest : List Oper} {o : Oper} {a : Act} {Q : Exit → Act → World → Prop} (hgd : o.guard = none) (s x : Operand) (t : TypeId)
    (ho : o.op = .call { callee := .builtin .append, args := #[s, x], argTypes := #[t, t] })
    (e : TypeId) (z : Value) (size bytes : Nat) (ht : P.underlying t = some (.slice e)) (hinfo : (P.info? e).map (fun i => (i.zero, i.size, i.bytes)) = some (some z, size, bytes)) (hzs : z.cells.size = size) (hsz : 0 < size)
    (v : Value) (n : Nat) (xs : List Value) (hs : a.eval s = v) (hown : w.ownsRow 0 e size v n xs)
    (ad : Addr) (m c : Nat) (news : List Value) (hx : a.eval x = .slice (some ad) m c) (hl : news.length = m * size) (hnews : ∀ j u, news[j]? = some u → w.cell? (ad.add j) = some u) (h1 : ∀ u ∈ news, u.oneCell' = true)
    (hbytes : n + m ≤ 1000000000 ∧ bytes ≤ 100)
    (h : ∀ v' w', w'.ownsRow 0 e size v' (n + m) (xs ++ news) → Kept (fun k => v.ownBlock = some k) w w' → (v'.ownBlock = v.ownBlock ∨ v'.ownBlock = some w.heap.size) → w'.ownsRow 0 e size v n xs → wpList P ops Q rest (a.put o.dst v') w') : wpList P ops Q (o :: rest) a w := by
  refine wpList_plain hgd fun K hK => ?_
  obtain ⟨i, hi, hz, hsize, hby⟩ := info_parts hinfo
  have h63 : n + m ≤ maxLen := by unfold maxLen; omega
  have hb2 : (n + m) * bytes ≤ 140737488355328 := Nat.le_trans (Nat.mul_le_mul hbytes.1 hbytes.2) (by decide)
  obtain ⟨v', w', hr, h2, h3, _⟩ := run_append_own (P := P) w 0 t o.type e i z size bytes ht hi hz hsize hby hzs hsz v n xs hown ad m c news hl hnews h1 h63 hb2 (Nat.zero_le _)
  have hw := append_where (P := P) w t o.type e i z size bytes ht hi hz hsize hby hzs hsz v n xs hown ad m c news hl hnews h1 h63 hb2 v' w' hr
  have h4 := append_old (P := P) w t o.type e i z size bytes ht hi hz hsize hby hzs hsz v n xs hown ad m c news hl hnews h1 h63 hb2 v' w' hr
  unfold Oper.wp execOp
  simp only [ho, resolve, invoke, builtin, Sem.run_bind, Sem.run_pure, Result.andThen_ok, List.map_toArray, List.map_cons, List.map_nil, hs, hx, hr]
  exact hK _ _ (h v' w' h2 ⟨h3.os, h3.output, h3.size, fun k hk hn => h3.block k hk (fun e => hn e.symm)⟩ hw h4)
end
/-- n marks. -/
def marks (n : Nat) (k : Int) : List Ent := List.replicate n (markE k)
/-- A slice full of marks is one of the caller's lists. -/
theorem out_marks {w : World} {H : Nat → Prop} {v : Value} {n : Nat} {k : Int} (h : w.ownsRow 0 50 6 v n ((marks n k).flatMap Ent.cells)) (hH : ∀ g, v.ownBlock = some g → H g) (k0 : 0 ≤ k) (k1 : k ≤ 1000000000) (hn : n ≤ 1000000) : OutOk w H ⟨v, k⟩ := by
  obtain ⟨a, cap, rfl, _, hg⟩ := ownsRow_view h
  refine ⟨k0, k1, a, n, cap, rfl, hn, fun h0 => ?_⟩
  obtain ⟨g, rfl, hlt, hc, _⟩ := hg h0
  refine ⟨g, rfl, hH g rfl, hlt, fun j hj q u hu => ?_⟩
  have hq : q < 6 := (List.getElem?_eq_some_iff.1 hu).1
  rw [hc (j * 6 + q) (by omega), flat_at 6 Ent.cells Ent.len (marks n k) j q (markE k) (by simp [marks, hj]) hq]
  exact hu
theorem out_more {w : World} {H H' : Nat → Prop} {o : LOut} (h : OutOk w H o) (hs : ∀ g, H g → H' g) : OutOk w H' o := by
  obtain ⟨m0, m1, a, n, cap, hl, hn, hg⟩ := h
  exact ⟨m0, m1, a, n, cap, hl, hn, fun h0 => by obtain ⟨g, ha, hH, r⟩ := hg h0; exact ⟨g, ha, hs g hH, r⟩⟩
theorem out_kept {w w' : World} {H G : Nat → Prop} {o : LOut} (h : OutOk w H o) (k : Kept G w w') (hd : ∀ g, H g → ¬ G g) : OutOk w' H o := by
  obtain ⟨m0, m1, a, n, cap, hl, hn, hg⟩ := h
  refine ⟨m0, m1, a, n, cap, hl, hn, fun h0 => ?_⟩
  obtain ⟨g, ha, hH, hlt, hr⟩ := hg h0
  exact ⟨g, ha, hH, Nat.lt_of_lt_of_le hlt k.size, fun j hj q v hv => k.cell (hr j hj q v hv) (hd g hH)⟩
/-- One more list is told. -/
theorem win_app {w w1 : World} {F : Nat → Prop} {b bx r : Nat} {outs : List LOut} {v v' : Value} {ob : Obj} (h : WIn w F b bx r outs) (hv : w.cell? ⟨b, 2, none⟩ = some v) (k : Kept (fun q => v.ownBlock = some q) (w.alloc ob) w1) (o : LOut)
    (ho : w1.ownsRow 0 48 2 v' (outs.length + 1) (outs.flatMap LOut.cells ++ o.cells)) (P : v'.ownBlock = v.ownBlock ∨ v'.ownBlock = some (w.alloc ob).heap.size) :
    WIn (w1.setCell ⟨b, 2, none⟩ v') (fun q => F q ∨ v'.ownBlock = some q) b bx r (outs ++ [o]) ∧ Kept F w (w1.setCell ⟨b, 2, none⟩ v') ∧ ∀ q, v'.ownBlock = some q → F q ∨ w.heap.size ≤ q := by
  obtain ⟨u, hO⟩ := h
  obtain rfl : u = v := Option.some.inj ((hO.cell 2).symm.trans hv)
  have hk : Kept (fun q => u.ownBlock = some q) w w1 := ((Low.refl _ w).alloc (Nat.le_refl _) ob).kept.trans k (fun _ f => f.elim) (fun _ _ e => e)
  obtain ⟨u2, hu2, _, hF⟩ := hO.row 0 rfl
  obtain rfl : u2 = u := (Option.some.inj hu2).symm
  have hw : v'.ownBlock = u2.ownBlock ∨ ∀ q, v'.ownBlock = some q → w.heap.size ≤ q := P.imp id (fun e q hq => by rw [e] at hq; have := Option.some.inj hq; simp at this; omega)
  have h2 := own_rowNew2 hO rfl hk ho hw
  refine ⟨⟨v', h2.cast rfl (by simp)⟩, hk.trans (setCell_kept w1 ⟨b, 2, none⟩ v') (fun q e => hF q e) (fun q _ e => by rw [show q = b from e]; exact hO.inF), fun q hq => ?_⟩
  rcases hw with e | e
  · exact Or.inl (hF q (by rw [← e]; exact hq))
  · exact Or.inr (e q hq)
theorem win_row {w : World} {F : Nat → Prop} {b bx r : Nat} {outs : List LOut} (h : WIn w F b bx r outs) : ∃ a cap, w.cell? ⟨b, 2, none⟩ = some (.slice a outs.length cap) ∧ w.ownsRow 0 48 2 (.slice a outs.length cap) outs.length (outs.flatMap LOut.cells) ∧ (Value.slice a outs.length cap).ownBlock ≠ some b ∧ w.frozen? ⟨b, 2, none⟩ = false ∧ (∀ q, (Value.slice a outs.length cap).ownBlock = some q → F q) := by
  obtain ⟨u, hO⟩ := h
  obtain ⟨v, hv, ho, hF⟩ := hO.row 0 rfl
  have hn := hO.apart 0 rfl hv
  obtain ⟨a, cap, rfl, _, _⟩ := ownsRow_view ho
  exact ⟨a, cap, by rw [hO.cell]; exact hv, ho, hn, hO.frozen 2, hF⟩
end Go.Proofs.YtphapknfkbgapaaGreatDoor
