import Derived.Test.YtphapknfkbgapabDoorPMToPF
import Derived.Deep.DeepCutAuto
import Derived.Test.YtphapknfkbgapabDoorRefBToPH
namespace Go.Proofs.YtphapknfkbgapabDoor
open Go.RowKit

variable {F : Nat → Prop} {b : Nat} {X : PS}

set_option maxRecDepth 100000 in
set_option maxHeartbeats 1000000 in
theorem pBegin_srv (w : World) (s : Int) (o : AOp) (h : XIn w F b X) (hs : isSrv X.servers.length s = false) :
    Calls Tryd.prog 36 #[.pointer (some ⟨b, 0, none⟩), .int .i64 s, .agg #[.int .i64 o.kind, .string o.path, .string o.plain, .int .i64 o.rev]] w fun e w' => e = .returned (.int .i64 4) ∧ Low w.heap.size w w' := by
  have HR := hid h
  have HS := hid hs
  clear h hs
  go_enter Tryd.func36, Tryd.ntmps36
  go_wp2_with (go_at_call 23; refine (isServer_any _ _ (by exact HR.out.alloc _)).mono ?_; rw [HS.out]; rintro e y1 ⟨rfl, rfl⟩)
  go_ret
  exact ⟨rfl, (Low.refl _ w).alloc (Nat.le_refl _) _⟩
set_option maxRecDepth 100000 in
set_option maxHeartbeats 1000000 in
theorem pBegin_busy (w : World) (i : Nat) (s : PSrv) (o : AOp) (h : XIn w F b X) (ha : X.servers[i]? = some s) (hu : s.busy = true) :
    Calls Tryd.prog 36 #[.pointer (some ⟨b, 0, none⟩), .int .i64 (i : Int), .agg #[.int .i64 o.kind, .string o.path, .string o.plain, .int .i64 o.rev]] w fun e w' => e = .returned (.int .i64 5) ∧ Low w.heap.size w w' := by
  have HR := hid h
  have HA := hid ha
  have HS := hid (psrv ha).1
  have hb := h.lt
  obtain ⟨gS, capS, hcS, hgS, hcs, _⟩ := xin_srvAt h ha
  have s0 : w.cell? ⟨gS, i * 10, none⟩ = some (.int .i64 s.seen) := hcs 0 (by omega)
  have s1 : w.cell? ⟨gS, i * 10 + 1, none⟩ = some (.bool s.busy) := hcs 1 (by omega)
  have i1 := (psrv ha).2
  clear h hcs ha
  go_enter Tryd.func36, Tryd.ntmps36
  go_wp2_with (go_at_call 23; refine (isServer_any _ _ (by exact HR.out.alloc _)).mono ?_; rw [HS.out]; rintro e y1 ⟨rfl, rfl⟩)
  go_ret
  exact ⟨rfl, (Low.refl _ w).alloc (Nat.le_refl _) _⟩
set_option maxRecDepth 100000 in
set_option maxHeartbeats 1000000 in
theorem pBegin_blind (w : World) (i : Nat) (s : PSrv) (o : AOp) (h : XIn w F b X) (ha : X.servers[i]? = some s) (hu : s.busy = false) (hsn : (s.seen == 0) = true) :
    Calls Tryd.prog 36 #[.pointer (some ⟨b, 0, none⟩), .int .i64 (i : Int), .agg #[.int .i64 o.kind, .string o.path, .string o.plain, .int .i64 o.rev]] w fun e w' => e = .returned (.int .i64 6) ∧ Low w.heap.size w w' := by
  have HR := hid h
  have HA := hid ha
  have HS := hid (psrv ha).1
  have hb := h.lt
  obtain ⟨gS, capS, hcS, hgS, hcs, _⟩ := xin_srvAt h ha
  have s0 : w.cell? ⟨gS, i * 10, none⟩ = some (.int .i64 s.seen) := hcs 0 (by omega)
  have s1 : w.cell? ⟨gS, i * 10 + 1, none⟩ = some (.bool s.busy) := hcs 1 (by omega)
  have i1 := (psrv ha).2
  clear h hcs ha
  go_enter Tryd.func36, Tryd.ntmps36
  go_wp2_with (go_at_call 23; refine (isServer_any _ _ (by exact HR.out.alloc _)).mono ?_; rw [HS.out]; rintro e y1 ⟨rfl, rfl⟩)
  go_ret
  exact ⟨rfl, (Low.refl _ w).alloc (Nat.le_refl _) _⟩
set_option maxRecDepth 100000 in
set_option maxHeartbeats 1000000 in
theorem pBegin_op (w : World) (i : Nat) (s : PSrv) (o : AOp) (h : XIn w F b X) (ha : X.servers[i]? = some s) (hu : s.busy = false) (hsn : (s.seen == 0) = false) (hp : o.path.size ≤ maxLen) (hq : o.plain.size ≤ maxLen) (ho : properOf o = false) :
    Calls Tryd.prog 36 #[.pointer (some ⟨b, 0, none⟩), .int .i64 (i : Int), .agg #[.int .i64 o.kind, .string o.path, .string o.plain, .int .i64 o.rev]] w fun e w' => e = .returned (.int .i64 7) ∧ Low w.heap.size w w' := by
  have HR := hid h
  have HA := hid ha
  have HS := hid (psrv ha).1
  have hb := h.lt
  obtain ⟨gS, capS, hcS, hgS, hcs, _⟩ := xin_srvAt h ha
  have s0 : w.cell? ⟨gS, i * 10, none⟩ = some (.int .i64 s.seen) := hcs 0 (by omega)
  have s1 : w.cell? ⟨gS, i * 10 + 1, none⟩ = some (.bool s.busy) := hcs 1 (by omega)
  have i1 := (psrv ha).2
  clear h hcs ha
  have HP := hid hp
  have HQ := hid hq
  have HO := hid ho
  clear hp hq ho
  go_enter Tryd.func36, Tryd.ntmps36
  go_wp2_with (first | (go_at_call 23; refine (isServer_any _ _ (by exact HR.out.alloc _)).mono ?_; rw [HS.out]; rintro e y1 ⟨rfl, rfl⟩) | (go_at_call 55; refine (isOperation_any _ o HP.out HQ.out).mono ?_; rw [HO.out]; rintro e y1 ⟨rfl, l1⟩; have L1 := hid l1; clear l1))
  go_ret
  exact ⟨rfl, ((Low.refl _ w).alloc (Nat.le_refl _) _).trans (L1.out.mono (by simp))⟩
def PS.setSrv (X : PS) (i : Nat) (u : PSrv) : PS := { X with servers := X.servers.set i u }
set_option maxRecDepth 100000 in
set_option maxHeartbeats 1000000 in
theorem pBegin_del (w : World) (i : Nat) (s : PSrv) (o : AOp) (h : XIn w F b X) (ha : X.servers[i]? = some s) (hu : s.busy = false) (hsn : (s.seen == 0) = false) (hp : o.path.size ≤ maxLen) (hq : o.plain.size ≤ maxLen) (ho : properOf o = true) (hk : (o.kind == 2) = true) :
    Calls Tryd.prog 36 #[.pointer (some ⟨b, 0, none⟩), .int .i64 (i : Int), .agg #[.int .i64 o.kind, .string o.path, .string o.plain, .int .i64 o.rev]] w fun e w' => e = .returned (.int .i64 0) ∧ XIn w' F b ((X).setSrv i ⟨s.seen, true, s.seen, o.rev, delEnt o.path⟩) ∧ Kept F w w' := by
  have HR := hid h
  have HA := hid ha
  have HS := hid (psrv ha).1
  have hb := h.lt
  obtain ⟨gS, capS, hcS, hgS, hcs, _⟩ := xin_srvAt h ha
  have s0 : w.cell? ⟨gS, i * 10, none⟩ = some (.int .i64 s.seen) := hcs 0 (by omega)
  have s1 : w.cell? ⟨gS, i * 10 + 1, none⟩ = some (.bool s.busy) := hcs 1 (by omega)
  have i1 := (psrv ha).2
  clear h hcs ha
  have HP := hid hp
  have HQ := hid hq
  have HO := hid ho
  clear hp hq ho
  obtain ⟨E, hE⟩ : ∃ E, E = delEnt o.path := ⟨_, rfl⟩
  have HE := hid hE
  clear hE
  go_enter Tryd.func36, Tryd.ntmps36
  go_upto_region 13 with (first | (go_at_call 23; refine (isServer_any _ _ (by exact HR.out.alloc _)).mono ?_; rw [HS.out]; rintro e y1 ⟨rfl, rfl⟩) | (go_at_call 55; refine (isOperation_any _ o HP.out HQ.out).mono ?_; rw [HO.out]; rintro e y1 ⟨rfl, l1⟩; have L1 : Hid (Low w.heap.size w y1) := ((Low.refl _ w).alloc (Nat.le_refl _) _).trans (l1.mono (by simp)); have b75 : Blk y1 w.heap.size 90 o.cells := (Blk.new w 90 o.cells).low l1 (by simp); have n0 : y1.cell? ⟨w.heap.size, 0, none⟩ = some (.int .i64 o.kind) := b75.cell 0; have n1 : y1.cell? ⟨w.heap.size, 1, none⟩ = some (.string o.path) := b75.cell 1; have n2 : y1.cell? ⟨w.heap.size, 2, none⟩ = some (.string o.plain) := b75.cell 2; have n3 : y1.cell? ⟨w.heap.size, 3, none⟩ = some (.int .i64 o.rev) := b75.cell 3; have B75 := hid b75; have X1 : Hid (XIn y1 F b X) := HR.out.low L1.out; clear l1 b75) | (go_at_call 56; refine (prepared_del (b := b) _ _ o hk).mono ?_; rw [← HE.out]; rintro e y2 ⟨rfl, l2⟩; have X2 : Hid (XIn y2 F b X) := X1.out.low l2; have K2 : Hid (Kept F w y2) := (L1.out.trans (l2.mono L1.out.size)).kept.mono (fun _ _ f => f.elim); have B2 : Hid (Blk y2 w.heap.size 90 o.cells) := B75.out.low l2 B75.out.lt; clear l2) | ((with_reducible refine st50 (.tmp 8) (.tmp 41) y2.heap.size Ent.zero E ?_ ?_ ?_ ?_); rfl; rfl; exact (Blk.new y2 65 Ent.zero.cells); intro W b3 k3 t3; have BM := hid b3; have X3 : Hid (XIn W F b (X)) := (X2.out.alloc _).kept k3 (fun q hq e => by have := X2.out.below q hq; omega); have KW : Hid (Kept F w W) := (K2.out.trans ((Low.refl _ y2).alloc (Nat.le_refl _) _).kept (H := F) (fun _ f => f) (fun _ _ f => f.elim)).trans k3 (fun _ f => f) (fun q hq e => by have := K2.out.size; omega); have BW : Hid (Blk W w.heap.size 90 o.cells) := (B2.out.alloc _).kept k3 (by have := B2.out.lt; omega); clear b3 k3 t3))
  have w3 : W.cell? ⟨w.heap.size, 3, none⟩ = some (.int .i64 o.rev) := BW.out.cell 3
  have e0 : W.cell? ⟨y2.heap.size, 0, none⟩ = some (.string E.path) := BM.out.cell 0
  have e1 : W.cell? ⟨y2.heap.size, 1, none⟩ = some (.int .i64 E.rev) := BM.out.cell 1
  have e2 : W.cell? ⟨y2.heap.size, 2, none⟩ = some (.int .i64 E.key) := BM.out.cell 2
  have e3 : W.cell? ⟨y2.heap.size, 3, none⟩ = some (.int .i64 E.draw) := BM.out.cell 3
  have e4 : W.cell? ⟨y2.heap.size, 4, none⟩ = some (.string E.sealed) := BM.out.cell 4
  have e5 : W.cell? ⟨y2.heap.size, 5, none⟩ = some (.bool E.gone) := BM.out.cell 5
  clear hb hcS hgS s0 s1 n0 n1 n2 n3
  go_upto_region 14 with fail
  go_name_world V hV
  have XV : Hid (XIn V F b (X)) := by
    show XIn V F b _
    rw [← hV]; exact X3.out.alloc _
  have KV : Hid (Kept F w V) := by
    show Kept F w V
    rw [← hV]; exact KW.out.trans ((Low.refl _ W).alloc (Nat.le_refl _) _).kept (fun _ f => f) (fun _ _ f => f.elim)
  have BV : Hid (Blk V W.heap.size 84 [.int .i64 s.seen, .int .i64 o.rev, .string E.path, .int .i64 E.rev, .int .i64 E.key, .int .i64 E.draw, .string E.sealed, .bool E.gone]) := by
    show Blk V _ _ _
    rw [← hV]; exact Blk.new W 84 [.int .i64 s.seen, .int .i64 o.rev, .string E.path, .int .i64 E.rev, .int .i64 E.key, .int .i64 E.draw, .string E.sealed, .bool E.gone]
  obtain ⟨g2, cap2, hc2, hg2, _, _⟩ := xin_srvAt XV.out (show (X).servers[i]? = some s from HA.out)
  have hc2 : V.cell? ⟨b, 8, none⟩ = some (.slice (some ⟨g2, 0, none⟩) X.servers.length cap2) := hc2
  obtain ⟨r1, r2, r3⟩ := xin_putSrv XV.out hc2 i (List.getElem?_eq_some_iff.1 HA.out).1 ⟨s.seen, true, s.seen, o.rev, E⟩
  have R1 := hid r1
  have R2 := hid r2
  have R3 := hid r3
  have v0 : V.cell? ⟨W.heap.size, 0, none⟩ = some (.int .i64 s.seen) := BV.out.cell 0
  have v1 : V.cell? ⟨W.heap.size, 1, none⟩ = some (.int .i64 o.rev) := BV.out.cell 1
  have v2 : V.cell? ⟨W.heap.size, 2, none⟩ = some (.string E.path) := BV.out.cell 2
  have v3 : V.cell? ⟨W.heap.size, 3, none⟩ = some (.int .i64 E.rev) := BV.out.cell 3
  have v4 : V.cell? ⟨W.heap.size, 4, none⟩ = some (.int .i64 E.key) := BV.out.cell 4
  have v5 : V.cell? ⟨W.heap.size, 5, none⟩ = some (.int .i64 E.draw) := BV.out.cell 5
  have v6 : V.cell? ⟨W.heap.size, 6, none⟩ = some (.string E.sealed) := BV.out.cell 6
  have v7 : V.cell? ⟨W.heap.size, 7, none⟩ = some (.bool E.gone) := BV.out.cell 7
  clear r1 r2 r3 hV w3 e0 e1 e2 e3 e4 e5
  refine wp_region_still_tail 9 (by kernel_rfl) (by kernel_rfl) ?_
  (try (change wpStill _ _ (World.drew _) _ _ _))
  simp only [List.take_succ_cons, List.take_zero, List.drop_succ_cons, List.drop_zero]
  repeat still_step
  refine wpStill_nil ?_
  (try (change wpList _ _ _ _ _ (World.drew _)))
  go_wp2_with ((with_reducible refine st96 (.tmp 59) (.tmp 58) g2 (i * 10) ⟨s.seen, true, s.seen, o.rev, E⟩ ?_ ?_ ?_ ?_); rfl; rfl; (exact there_drew R3.out); rw [setCells_drew])
  go_ret
  rw [← HE.out]
  exact ⟨rfl, R1.out.drew, (KV.out.trans R2.out (H := F) (fun _ f => f) (fun _ _ f => f)).drew⟩
set_option maxRecDepth 100000 in
set_option maxHeartbeats 1000000 in
theorem pBegin_put (w : World) (i : Nat) (s : PSrv) (o : AOp) (K : PKey) (ki : Nat) (h : XIn w F b X) (ha : X.servers[i]? = some s) (hu : s.busy = false) (hsn : (s.seen == 0) = false) (hp : o.path.size ≤ maxLen) (hq : o.plain.size ≤ maxLen) (ho : properOf o = true) (hk2 : (o.kind == 1) = true) (hw : writerOf X.keys s.seen = (ki : Int) + 1) (hk : X.keys[ki]? = some K) (hl : X.keys.length ≤ 6) (hK : K.text.size = 48) (hd : 0 ≤ X.draws ∧ X.draws + 1 ≤ 100000000000000) (hF : Fours w) (h1 : 1 ≤ w.heap.size) :
    Calls Tryd.prog 36 #[.pointer (some ⟨b, 0, none⟩), .int .i64 (i : Int), .agg #[.int .i64 o.kind, .string o.path, .string o.plain, .int .i64 o.rev]] w fun e w' => e = .returned (.int .i64 0) ∧ XIn w' F b (({ X with draws := X.draws + 1 }).setSrv i ⟨s.seen, true, s.seen, o.rev, closedOf K.text ((ki : Int) + 1) o.path o.plain (X.draws + 1)⟩) ∧ Kept F w w' := by
  have gd : Hid ((1 ≤ o.path.size ∧ o.path.size ≤ 16) ∧ o.plain.size ≤ 64) := by
    have q := ho
    have k1 := beq_iff_eq.1 hk2
    simp only [properOf, isPath, Bool.and_eq_true, Bool.or_eq_true, decide_eq_true_eq, beq_iff_eq, k1] at q
    show _ ∧ _
    omega
  have hk3 : (o.kind == 2) = false := beq_eq_false_iff_ne.2 (by have := beq_iff_eq.1 hk2; omega)
  have HR := hid h
  have HA := hid ha
  have HS := hid (psrv ha).1
  have hb := h.lt
  obtain ⟨gS, capS, hcS, hgS, hcs, _⟩ := xin_srvAt h ha
  have s0 : w.cell? ⟨gS, i * 10, none⟩ = some (.int .i64 s.seen) := hcs 0 (by omega)
  have s1 : w.cell? ⟨gS, i * 10 + 1, none⟩ = some (.bool s.busy) := hcs 1 (by omega)
  have i1 := (psrv ha).2
  clear h hcs ha
  have HP := hid hp
  have HQ := hid hq
  have HO := hid ho
  clear hp hq ho
  have HW := hid hw
  have HKK := hid hk
  have HT := hid hK
  have HDD := hid hd
  have HF := hid hF
  clear hw hk hK hd hF
  obtain ⟨E, hE⟩ : ∃ E, E = closedOf K.text ((ki : Int) + 1) o.path o.plain (X.draws + 1) := ⟨_, rfl⟩
  have HE := hid hE
  clear hE
  go_enter Tryd.func36, Tryd.ntmps36
  go_upto_region 13 with (first | (go_at_call 23; refine (isServer_any _ _ (by exact HR.out.alloc _)).mono ?_; rw [HS.out]; rintro e y1 ⟨rfl, rfl⟩) | (go_at_call 55; refine (isOperation_any _ o HP.out HQ.out).mono ?_; rw [HO.out]; rintro e y1 ⟨rfl, l1⟩; have L1 : Hid (Low w.heap.size w y1) := ((Low.refl _ w).alloc (Nat.le_refl _) _).trans (l1.mono (by simp)); have b75 : Blk y1 w.heap.size 90 o.cells := (Blk.new w 90 o.cells).low l1 (by simp); have n0 : y1.cell? ⟨w.heap.size, 0, none⟩ = some (.int .i64 o.kind) := b75.cell 0; have n1 : y1.cell? ⟨w.heap.size, 1, none⟩ = some (.string o.path) := b75.cell 1; have n2 : y1.cell? ⟨w.heap.size, 2, none⟩ = some (.string o.plain) := b75.cell 2; have n3 : y1.cell? ⟨w.heap.size, 3, none⟩ = some (.int .i64 o.rev) := b75.cell 3; have B75 := hid b75; have X1 : Hid (XIn y1 F b X) := HR.out.low L1.out; clear l1 b75) | (go_at_call 56; refine (prepared_put _ _ o K ki hk3 X1.out HW.out HKK.out hl HT.out gd.out.1 gd.out.2 HDD.out (fours_low HF.out h1 L1.out) (Nat.le_trans h1 L1.out.size)).mono ?_; rw [← HE.out]; rintro e y2 ⟨rfl, r2, k2⟩; have X2 := hid r2; have K2 : Hid (Kept F w y2) := L1.out.kept.trans k2 (fun _ f => f.elim) (fun _ _ f => f); have B2 : Hid (Blk y2 w.heap.size 90 o.cells) := B75.out.kept k2 (fun f => by have := HR.out.below _ f; omega); clear r2 k2) | ((with_reducible refine st50 (.tmp 8) (.tmp 41) y2.heap.size Ent.zero E ?_ ?_ ?_ ?_); rfl; rfl; exact (Blk.new y2 65 Ent.zero.cells); intro W b3 k3 t3; have BM := hid b3; have X3 : Hid (XIn W F b ({ X with draws := X.draws + 1 })) := (X2.out.alloc _).kept k3 (fun q hq e => by have := X2.out.below q hq; omega); have KW : Hid (Kept F w W) := (K2.out.trans ((Low.refl _ y2).alloc (Nat.le_refl _) _).kept (H := F) (fun _ f => f) (fun _ _ f => f.elim)).trans k3 (fun _ f => f) (fun q hq e => by have := K2.out.size; omega); have BW : Hid (Blk W w.heap.size 90 o.cells) := (B2.out.alloc _).kept k3 (by have := B2.out.lt; omega); clear b3 k3 t3))
  have w3 : W.cell? ⟨w.heap.size, 3, none⟩ = some (.int .i64 o.rev) := BW.out.cell 3
  have e0 : W.cell? ⟨y2.heap.size, 0, none⟩ = some (.string E.path) := BM.out.cell 0
  have e1 : W.cell? ⟨y2.heap.size, 1, none⟩ = some (.int .i64 E.rev) := BM.out.cell 1
  have e2 : W.cell? ⟨y2.heap.size, 2, none⟩ = some (.int .i64 E.key) := BM.out.cell 2
  have e3 : W.cell? ⟨y2.heap.size, 3, none⟩ = some (.int .i64 E.draw) := BM.out.cell 3
  have e4 : W.cell? ⟨y2.heap.size, 4, none⟩ = some (.string E.sealed) := BM.out.cell 4
  have e5 : W.cell? ⟨y2.heap.size, 5, none⟩ = some (.bool E.gone) := BM.out.cell 5
  clear hb hcS hgS s0 s1 n0 n1 n2 n3
  go_upto_region 14 with fail
  go_name_world V hV
  have XV : Hid (XIn V F b ({ X with draws := X.draws + 1 })) := by
    show XIn V F b _
    rw [← hV]; exact X3.out.alloc _
  have KV : Hid (Kept F w V) := by
    show Kept F w V
    rw [← hV]; exact KW.out.trans ((Low.refl _ W).alloc (Nat.le_refl _) _).kept (fun _ f => f) (fun _ _ f => f.elim)
  have BV : Hid (Blk V W.heap.size 84 [.int .i64 s.seen, .int .i64 o.rev, .string E.path, .int .i64 E.rev, .int .i64 E.key, .int .i64 E.draw, .string E.sealed, .bool E.gone]) := by
    show Blk V _ _ _
    rw [← hV]; exact Blk.new W 84 [.int .i64 s.seen, .int .i64 o.rev, .string E.path, .int .i64 E.rev, .int .i64 E.key, .int .i64 E.draw, .string E.sealed, .bool E.gone]
  obtain ⟨g2, cap2, hc2, hg2, _, _⟩ := xin_srvAt XV.out (show ({ X with draws := X.draws + 1 }).servers[i]? = some s from HA.out)
  have hc2 : V.cell? ⟨b, 8, none⟩ = some (.slice (some ⟨g2, 0, none⟩) X.servers.length cap2) := hc2
  obtain ⟨r1, r2, r3⟩ := xin_putSrv XV.out hc2 i (List.getElem?_eq_some_iff.1 HA.out).1 ⟨s.seen, true, s.seen, o.rev, E⟩
  have R1 := hid r1
  have R2 := hid r2
  have R3 := hid r3
  have v0 : V.cell? ⟨W.heap.size, 0, none⟩ = some (.int .i64 s.seen) := BV.out.cell 0
  have v1 : V.cell? ⟨W.heap.size, 1, none⟩ = some (.int .i64 o.rev) := BV.out.cell 1
  have v2 : V.cell? ⟨W.heap.size, 2, none⟩ = some (.string E.path) := BV.out.cell 2
  have v3 : V.cell? ⟨W.heap.size, 3, none⟩ = some (.int .i64 E.rev) := BV.out.cell 3
  have v4 : V.cell? ⟨W.heap.size, 4, none⟩ = some (.int .i64 E.key) := BV.out.cell 4
  have v5 : V.cell? ⟨W.heap.size, 5, none⟩ = some (.int .i64 E.draw) := BV.out.cell 5
  have v6 : V.cell? ⟨W.heap.size, 6, none⟩ = some (.string E.sealed) := BV.out.cell 6
  have v7 : V.cell? ⟨W.heap.size, 7, none⟩ = some (.bool E.gone) := BV.out.cell 7
  clear r1 r2 r3 hV w3 e0 e1 e2 e3 e4 e5
  refine wp_region_still_tail 9 (by kernel_rfl) (by kernel_rfl) ?_
  (try (change wpStill _ _ (World.drew _) _ _ _))
  simp only [List.take_succ_cons, List.take_zero, List.drop_succ_cons, List.drop_zero]
  repeat still_step
  refine wpStill_nil ?_
  (try (change wpList _ _ _ _ _ (World.drew _)))
  go_wp2_with ((with_reducible refine st96 (.tmp 59) (.tmp 58) g2 (i * 10) ⟨s.seen, true, s.seen, o.rev, E⟩ ?_ ?_ ?_ ?_); rfl; rfl; (exact there_drew R3.out); rw [setCells_drew])
  go_ret
  rw [← HE.out]
  exact ⟨rfl, R1.out.drew, (KV.out.trans R2.out (H := F) (fun _ f => f) (fun _ _ f => f)).drew⟩
end Go.Proofs.YtphapknfkbgapabDoor
namespace Go.Proofs.YtphapknfkbgapabDoor
open Go.RowKit

variable {F : Nat → Prop} {b : Nat} {X : PS}

theorem blk_drew {w : World} {b : Nat} {t : TypeId} {cs : List Value} (h : Blk w b t cs) : Blk w.drew b t cs := h
theorem pCommit_srv (w : World) (s : Int) (h : XIn w F b X) (hs : isSrv X.servers.length s = false) :
    Calls Tryd.prog 37 #[.pointer (some ⟨b, 0, none⟩), .int .i64 s] w fun e w' => e = .returned (.tuple #[.int .i64 0, .int .i64 4]) ∧ w' = w := by
  have HR := hid h
  have HS := hid hs
  clear h hs
  go_enter Tryd.func37, Tryd.ntmps37
  go_wp2_with (go_at_call 23; refine (isServer_any _ _ HR.out).mono ?_; rw [HS.out]; rintro e y1 ⟨rfl, hy⟩; obtain rfl := hy.symm)
  go_ret2
  exact ⟨rfl, rfl⟩
set_option maxRecDepth 100000 in
theorem pCommit_idle (w : World) (i : Nat) (s : PSrv) (h : XIn w F b X) (ha : X.servers[i]? = some s) (hu : s.busy = false) :
    Calls Tryd.prog 37 #[.pointer (some ⟨b, 0, none⟩), .int .i64 (i : Int)] w fun e w' => e = .returned (.tuple #[.int .i64 0, .int .i64 8]) ∧ w' = w := by
  have HR := hid h
  have HS := hid (psrv ha).1
  obtain ⟨gS, capS, hcS, hgS, hcs, _⟩ := xin_srvAt h ha
  have s1 : w.cell? ⟨gS, i * 10 + 1, none⟩ = some (.bool s.busy) := hcs 1 (by omega)
  have i1 := (psrv ha).2
  clear h hcs ha
  go_enter Tryd.func37, Tryd.ntmps37
  go_wp2_with (go_at_call 23; refine (isServer_any _ _ HR.out).mono ?_; rw [HS.out]; rintro e y1 ⟨rfl, hy⟩; obtain rfl := hy.symm)
  go_ret2
  exact ⟨rfl, rfl⟩
def PSrv.rest (s : PSrv) : PSrv := { PSrv.zero with seen := s.seen }
def pCommitErr (X : PS) (wrote : Int) (s : PSrv) : Int := pErr wrote (pRevOf X s.e.path) (pFull X) s
def PS.commit (X : PS) (wrote : Int) (i : Nat) (s : PSrv) : PS := if pCommitErr X wrote s == 0 then (X.setSrv i s.rest).add s.e else X.setSrv i s.rest
def PS.commitRev (X : PS) (wrote : Int) (s : PSrv) : Int := if pCommitErr X wrote s == 0 then X.rev + 1 else 0
set_option maxRecDepth 100000 in
set_option maxHeartbeats 1000000 in
theorem pCommit_any (w : World) (i : Nat) (s : PSrv) (K : PKey) (ki : Nat) (h : XIn w F b X) (ha : X.servers[i]? = some s) (hu : s.busy = true) (hw : X.write = (ki : Int) + 1) (hk : X.keys[ki]? = some K) (hl : X.keys.length ≤ 6) (hn : X.entries.length ≤ 1000) (hr : 0 ≤ X.rev ∧ X.rev ≤ 100000000000000) :
    Calls Tryd.prog 37 #[.pointer (some ⟨b, 0, none⟩), .int .i64 (i : Int)] w fun e w' => e = .returned (.tuple #[.int .i64 (X.commitRev K.wrote s), .int .i64 (pCommitErr X K.wrote s)]) ∧ XIn w' (grow F w w') b (X.commit K.wrote i s) ∧ Kept F w w' := by
  have HR := hid h
  have HS := hid (psrv ha).1
  have HA := hid ha
  have HW := hid hw
  have HK := hid hk
  have HRR := hid hr
  obtain ⟨gS, capS, hcS, hgS, hcs, _⟩ := xin_srvAt h ha
  have s1 : w.cell? ⟨gS, i * 10 + 1, none⟩ = some (.bool s.busy) := hcs 1 (by omega)
  have s2 : w.cell? ⟨gS, i * 10 + 2, none⟩ = some (.int .i64 s.epoch) := hcs 2 (by omega)
  have s3 : w.cell? ⟨gS, i * 10 + 3, none⟩ = some (.int .i64 s.rev) := hcs 3 (by omega)
  have s4 : w.cell? ⟨gS, i * 10 + 4, none⟩ = some (.string s.e.path) := hcs 4 (by omega)
  have s5 : w.cell? ⟨gS, i * 10 + 5, none⟩ = some (.int .i64 s.e.rev) := hcs 5 (by omega)
  have s6 : w.cell? ⟨gS, i * 10 + 6, none⟩ = some (.int .i64 s.e.key) := hcs 6 (by omega)
  have s7 : w.cell? ⟨gS, i * 10 + 7, none⟩ = some (.int .i64 s.e.draw) := hcs 7 (by omega)
  have s8 : w.cell? ⟨gS, i * 10 + 8, none⟩ = some (.string s.e.sealed) := hcs 8 (by omega)
  have s9 : w.cell? ⟨gS, i * 10 + 9, none⟩ = some (.bool s.e.gone) := hcs 9 (by omega)
  have i1 := (psrv ha).2
  clear h hcs ha hw hk hr
  go_enter Tryd.func37, Tryd.ntmps37
  go_upto_region 6 with (go_at_call 23; refine (isServer_any _ _ HR.out).mono ?_; rw [HS.out]; rintro e y1 ⟨rfl, hy⟩; obtain rfl := hy.symm)
  go_name_world W hW
  have XW : Hid (XIn W F b X) := by
    show XIn W F b X
    rw [← hW]; exact HR.out.alloc _
  have LW : Hid (Low w.heap.size w W) := by
    show Low _ _ _
    rw [← hW]; exact (Low.refl _ w).alloc (Nat.le_refl _) _
  have BW : Hid (Blk W w.heap.size 84 (opCells s)) := by
    show Blk W _ _ _
    rw [← hW]; exact Blk.new w 84 (opCells s)
  obtain ⟨g2, cap2, hc2, hg2, hcs2, _⟩ := xin_srvAt XW.out HA.out
  have t0 : W.cell? ⟨g2, i * 10, none⟩ = some (.int .i64 s.seen) := hcs2 0 (by omega)
  obtain ⟨r1, r2, r3⟩ := xin_putSrv XW.out hc2 i (List.getElem?_eq_some_iff.1 HA.out).1 s.rest
  have R1 : Hid (XIn (W.setCells g2 (i * 10) s.rest.cells) F b (X.setSrv i s.rest)) := r1
  have R2 := hid r2
  have R3 := hid r3
  clear r1 r2 r3 hW hcS hgS s1 s2 s3 s4 s5 s6 s7 s8 s9 hcs2
  refine wp_region_still_tail 15 (by kernel_rfl) (by kernel_rfl) ?_
  (try (change wpStill _ _ (World.drew _) _ _ _))
  simp only [List.take_succ_cons, List.take_zero, List.drop_succ_cons, List.drop_zero]
  repeat still_step
  refine wpStill_nil ?_
  (try (change wpList _ _ _ _ _ (World.drew _)))
  go_upto_region 7 with ((with_reducible refine st96 (.tmp 43) (.tmp 42) g2 (i * 10) s.rest ?_ ?_ ?_ ?_); rfl; rfl; (exact there_drew R3.out); rw [setCells_drew])
  go_name_world V hV
  have XV : Hid (XIn V F b (X.setSrv i s.rest)) := by
    show XIn V F b _
    rw [← hV]; exact R1.out.drew
  have KV : Hid (Kept F w V) := by
    show Kept F w V
    rw [← hV]; exact (LW.out.kept.trans R2.out (H := F) (fun _ f => f.elim) (fun _ _ f => f)).drew
  have BV : Hid (Blk V w.heap.size 84 (opCells s)) := by
    show Blk V _ _ _
    rw [← hV]; exact blk_drew (BW.out.kept R2.out (fun f => by have := HR.out.below _ f; omega))
  have v0 : V.cell? ⟨w.heap.size, 0, none⟩ = some (.int .i64 s.epoch) := BV.out.cell 0
  have v1 : V.cell? ⟨w.heap.size, 1, none⟩ = some (.int .i64 s.rev) := BV.out.cell 1
  have v2 : V.cell? ⟨w.heap.size, 2, none⟩ = some (.string s.e.path) := BV.out.cell 2
  have v3 : V.cell? ⟨w.heap.size, 3, none⟩ = some (.int .i64 s.e.rev) := BV.out.cell 3
  have v4 : V.cell? ⟨w.heap.size, 4, none⟩ = some (.int .i64 s.e.key) := BV.out.cell 4
  have v5 : V.cell? ⟨w.heap.size, 5, none⟩ = some (.int .i64 s.e.draw) := BV.out.cell 5
  have v6 : V.cell? ⟨w.heap.size, 6, none⟩ = some (.string s.e.sealed) := BV.out.cell 6
  have v7 : V.cell? ⟨w.heap.size, 7, none⟩ = some (.bool s.e.gone) := BV.out.cell 7
  obtain ⟨er, her⟩ : ∃ er, pCommitErr X K.wrote s = er := ⟨_, rfl⟩
  have HER : Hid (pErr K.wrote (pRevOf (X.setSrv i s.rest) s.e.path) (pFull (X.setSrv i s.rest)) s = er) := her
  have HER2 := hid her
  clear her hV t0 hc2 hg2
  cases hz : (er == 0)
  · have q : (er != 0) = true := by rw [bne, hz]; rfl
    go_wp2_with (go_at_call 57; refine (mayCommit_any (X := X.setSrv i s.rest) _ s K ki XV.out HW.out HK.out hl hn).mono ?_; rw [HER.out]; rintro e y ⟨rfl, l⟩; have LY := hid l; clear l)
    go_ret2
    unfold PS.commitRev PS.commit
    rw [HER2.out, hz]
    have xy := XV.out.low LY.out
    refine ⟨rfl, XIn.more xy (fun _ e => Or.inl e) (fun k e => e.elim (xy.below k) (fun e => e.2)), KV.out.trans LY.out.kept (fun _ f => f) (fun _ _ f => f.elim)⟩
  · have q : (er != 0) = false := by rw [bne, hz]; rfl
    have z : er = 0 := by simpa using hz
    go_wp2_with (first | (go_at_call 57; refine (mayCommit_any (X := X.setSrv i s.rest) _ s K ki XV.out HW.out HK.out hl hn).mono ?_; rw [HER.out]; rintro e y ⟨rfl, l⟩; have LY := hid l; have BY := BV.out.low l BV.out.lt; have y2 : y.cell? ⟨w.heap.size, 2, none⟩ = some (.string s.e.path) := BY.cell 2; have y3 : y.cell? ⟨w.heap.size, 3, none⟩ = some (.int .i64 s.e.rev) := BY.cell 3; have y4 : y.cell? ⟨w.heap.size, 4, none⟩ = some (.int .i64 s.e.key) := BY.cell 4; have y5 : y.cell? ⟨w.heap.size, 5, none⟩ = some (.int .i64 s.e.draw) := BY.cell 5; have y6 : y.cell? ⟨w.heap.size, 6, none⟩ = some (.string s.e.sealed) := BY.cell 6; have y7 : y.cell? ⟨w.heap.size, 7, none⟩ = some (.bool s.e.gone) := BY.cell 7; have XY := hid (XV.out.low l); clear l BY) | (go_at_call 58; refine (add_any (X := X.setSrv i s.rest) _ s.e XY.out hn HRR.out).mono ?_; rintro e y2' ⟨rfl, r4, k4⟩; have R4 := hid r4; have K4 := hid k4; clear r4 k4))
    go_ret2
    unfold PS.commitRev PS.commit
    rw [HER2.out, hz]
    refine ⟨by rw [z]; rfl, ?_, (KV.out.trans LY.out.kept (H := F) (fun _ f => f) (fun _ _ f => f.elim)).trans K4.out (fun _ f => f) (fun _ _ f => f)⟩
    have hs1 := KV.out.size
    have hs2 := LY.out.size
    exact XIn.more R4.out (fun k hk => hk.elim Or.inl (fun hk => Or.inr ⟨by omega, hk.2⟩)) (fun k hk => hk.elim (fun hk => XIn.below R4.out k (Or.inl hk)) (fun hk => hk.2))
end Go.Proofs.YtphapknfkbgapabDoor
namespace Go.Proofs.YtphapknfkbgapabDoor
open Go.RowKit

variable {F : Nat → Prop} {b : Nat} {X : PS}

set_option maxRecDepth 100000 in
set_option maxHeartbeats 1000000 in
theorem openedFor_none (w : World) (i : Nat) (E : Ent) (hz : (E.rev == 0 || E.gone) = true) :
    Calls Tryd.prog 28 #[.pointer (some ⟨b, 0, none⟩), .int .i64 (i : Int), .agg #[.string E.path, .int .i64 E.rev, .int .i64 E.key, .int .i64 E.draw, .string E.sealed, .bool E.gone]] w fun e w' => e = .returned (.tuple #[.string ⟨#[]⟩, .int .i64 12]) ∧ Low w.heap.size w w' := by
  cases h0 : (E.rev == 0)
  · have hg : E.gone = true := by simpa [h0] using hz
    clear hz
    go_enter Tryd.func28, Tryd.ntmps28
    go_wp2_with fail
    go_ret2
    exact ⟨rfl, (Low.refl _ w).alloc (Nat.le_refl _) _⟩
  · clear hz
    go_enter Tryd.func28, Tryd.ntmps28
    go_wp2_with fail
    go_ret2
    exact ⟨rfl, (Low.refl _ w).alloc (Nat.le_refl _) _⟩
def pRead (K : PKey) (e : Ent) (seen : Int) : ByteArray × Int := if decide (seen < K.came) then (⟨#[]⟩, 13) else pOpened K e
def pRevOr (O : ByteArray × Int) (r : Int) : Int := if O.2 == 0 then r else 0
theorem pRead_zero (K : PKey) (e : Ent) (seen : Int) (h : (pRead K e seen).2 ≠ 0) : (pRead K e seen).1 = ⟨#[]⟩ := by
  unfold pRead pOpened at h ⊢
  (repeat' split) <;> simp_all
set_option maxRecDepth 100000 in
set_option maxHeartbeats 1000000 in
theorem openedFor_some (w : World) (i : Nat) (s : PSrv) (E : Ent) (K : PKey) (ki : Nat) (h : XIn w F b X) (ha : X.servers[i]? = some s) (h0 : (E.rev == 0) = false) (hg : E.gone = false)
    (hk : X.keys[ki]? = some K) (hi : E.key = (ki : Int) + 1) (hi6 : ki ≤ 6) (hK : K.text.size = 48) (hO : EntOk E) (hF : Fours w) (h1 : 1 ≤ w.heap.size) :
    Calls Tryd.prog 28 #[.pointer (some ⟨b, 0, none⟩), .int .i64 (i : Int), .agg #[.string E.path, .int .i64 E.rev, .int .i64 E.key, .int .i64 E.draw, .string E.sealed, .bool E.gone]] w fun e w' =>
      e = .returned (.tuple #[.string (pRead K E s.seen).1, .int .i64 (pRead K E s.seen).2]) ∧ Low w.heap.size w w' := by
  obtain ⟨xp, xr, xk, xd, xs, xg⟩ := E
  obtain rfl : xg = false := hg
  obtain rfl : xk = (ki : Int) + 1 := hi
  have HR := hid h
  have HA := hid ha
  have HK := hid hk
  have HT := hid hK
  have HO := hid hO
  have HF := hid hF
  have i1 := (psrv ha).2
  have h0' : (xr == 0) = false := h0
  clear h ha hk hK hO hF h0
  obtain ⟨O, hOO⟩ : ∃ O, O = pOpened K (Ent.mk xp xr ((ki : Int) + 1) xd xs false) := ⟨_, rfl⟩
  have HOO := hid hOO
  clear hOO
  go_enter Tryd.func28, Tryd.ntmps28
  go_upto_region 3 with fail
  go_name_world W hW
  have BM : Hid (Blk W w.heap.size 65 (Ent.mk xp xr ((ki : Int) + 1) xd xs false).cells) := by
    show Blk W _ _ _
    rw [← hW]; exact Blk.new w 65 (Ent.mk xp xr ((ki : Int) + 1) xd xs false).cells
  have LW : Hid (Low w.heap.size w W) := by
    show Low _ _ _
    rw [← hW]; exact (Low.refl _ w).alloc (Nat.le_refl _) _
  have m2 : W.cell? ⟨w.heap.size, 2, none⟩ = some (.int .i64 ((ki : Int) + 1)) := BM.out.cell 2
  clear hW
  go_upto_region 4 with (go_at_call 53; refine (key_any _ ki K (by exact HR.out.low LW.out) HK.out (by omega)).mono ?_; rintro e y2 ⟨rfl, l2⟩; have L2 : Hid (Low w.heap.size w y2) := LW.out.trans (l2.mono LW.out.size); have BM2 : Hid (Blk y2 w.heap.size 65 (Ent.mk xp xr ((ki : Int) + 1) xd xs false).cells) := BM.out.low l2 BM.out.lt; clear l2 m2)
  go_name_world V hV
  have LV : Hid (Low w.heap.size w V) := by
    show Low _ _ _
    rw [← hV]; exact L2.out.alloc L2.out.size _
  have BV : Hid (Blk V w.heap.size 65 (Ent.mk xp xr ((ki : Int) + 1) xd xs false).cells) := by
    show Blk V _ _ _
    rw [← hV]; exact BM2.out.alloc _
  have BK : Hid (Blk V y2.heap.size 81 K.cells) := by
    show Blk V _ _ _
    rw [← hV]; exact Blk.new y2 81 K.cells
  have XV := hid (HR.out.low LV.out)
  obtain ⟨g2, cap2, hc2, hg2, hcs2, _⟩ := xin_srvAt XV.out HA.out
  have t0 : V.cell? ⟨g2, i * 10, none⟩ = some (.int .i64 s.seen) := hcs2 0 (by omega)
  have k1 : V.cell? ⟨y2.heap.size, 1, none⟩ = some (.int .i64 K.came) := BK.out.cell 1
  have x0 : V.cell? ⟨w.heap.size, 0, none⟩ = some (.string xp) := BV.out.cell 0
  have x1 : V.cell? ⟨w.heap.size, 1, none⟩ = some (.int .i64 xr) := BV.out.cell 1
  have x2 : V.cell? ⟨w.heap.size, 2, none⟩ = some (.int .i64 ((ki : Int) + 1)) := BV.out.cell 2
  have x3 : V.cell? ⟨w.heap.size, 3, none⟩ = some (.int .i64 xd) := BV.out.cell 3
  have x4 : V.cell? ⟨w.heap.size, 4, none⟩ = some (.string xs) := BV.out.cell 4
  have x5 : V.cell? ⟨w.heap.size, 5, none⟩ = some (.bool false) := BV.out.cell 5
  clear hV hcs2
  cases q1 : decide (s.seen < K.came)
  · go_region
    all_goals go_wp2_with (go_at_call 54; refine (popened_any _ (Ent.mk xp xr ((ki : Int) + 1) xd xs false) K ki (by exact XV.out.drew) HK.out rfl hi6 HT.out HO.out (by exact fours_low HF.out h1 LV.out.drew) (by have := LV.out.size; simp; omega)).mono ?_; rw [← HOO.out]; rintro e y3 ⟨rfl, l3⟩; have L3 : Hid (Low w.heap.size w y3) := LV.out.drew.trans (l3.mono (by have := LV.out.size; simpa using this)); clear l3)
    all_goals go_ret2
    all_goals exact ⟨by simp [pRead, q1, ← HOO.out], L3.out⟩
  · go_region
    all_goals go_wp2_with fail
    all_goals go_ret2
    all_goals exact ⟨by simp [pRead, q1], LV.out.drew⟩
set_option maxRecDepth 100000 in
set_option maxHeartbeats 1000000 in
theorem read_via (w : World) (i : Nat) (p : ByteArray) (rev : Int) (E : Ent) (O : ByteArray × Int) (h : XIn w F b X) (hn : X.entries.length ≤ 1000) (hE : newestOf X.entries p rev = E) (hz : O.2 ≠ 0 → O.1 = ⟨#[]⟩)
    (hO : ∀ (V : World), Low w.heap.size w V → Calls Tryd.prog 28 #[.pointer (some ⟨b, 0, none⟩), .int .i64 (i : Int), .agg #[.string E.path, .int .i64 E.rev, .int .i64 E.key, .int .i64 E.draw, .string E.sealed, .bool E.gone]] V fun e w' => e = .returned (.tuple #[.string O.1, .int .i64 O.2]) ∧ Low V.heap.size V w') :
    Calls Tryd.prog 29 #[.pointer (some ⟨b, 0, none⟩), .int .i64 (i : Int), .string p, .int .i64 rev] w fun e w' => e = .returned (.tuple #[.string O.1, .int .i64 (pRevOr O E.rev), .int .i64 O.2]) ∧ Low w.heap.size w w' := by
  have HR := hid h
  have HE := hid hE
  have HO := hid hO
  have HZ := hid hz
  clear h hE hO hz
  go_enter Tryd.func29, Tryd.ntmps29
  go_upto_region 3 with (first | (go_at_call 27; refine (newest_any _ _ _ HR.out hn).mono ?_; rw [HE.out]; rintro e y1 ⟨rfl, l1⟩; have L1 := hid l1; clear l1) | ((with_reducible refine st50 (.tmp 11) (.tmp 17) y1.heap.size Ent.zero E ?_ ?_ ?_ ?_); rfl; rfl; exact (Blk.new y1 65 Ent.zero.cells); intro W b2 k2 s2; have BM := hid b2; have LW : Hid (Low w.heap.size w W) := low_set (L1.out.alloc L1.out.size _) k2 L1.out.size (by have := L1.out.size; simp; omega); clear b2 k2 s2) | ((with_reducible refine ld50 (.tmp 11) y1.heap.size 0 E ?_ BM.out.whole ?_); rfl) | (go_at_call 28; refine (HO.out _ LW.out).mono ?_; rintro e y3 ⟨rfl, l3⟩; have L3 : Hid (Low w.heap.size w y3) := LW.out.trans (l3.mono LW.out.size); have z1 : y3.cell? ⟨y1.heap.size, 1, none⟩ = some (.int .i64 E.rev) := (l3.cell BM.out.lt).trans (BM.out.cell 1); clear l3))
  cases hz : (O.2 == 0)
  · have q2 : (O.2 != 0) = true := by rw [bne, hz]; rfl
    have hne : ¬ O.2 = 0 := by simpa using hz
    go_wp2_with fail
    go_ret3
    exact ⟨by simp [pRevOr, hne, HZ.out hne], L3.out⟩
  · have q2 : (O.2 != 0) = false := by rw [bne, hz]; rfl
    have z : O.2 = 0 := by simpa using hz
    go_upto_region 5 with fail
    go_region
    all_goals go_wp2_with fail
    all_goals go_ret3
    all_goals exact ⟨by simp [pRevOr, z], L3.out.drew⟩
theorem read_none (w : World) (i : Nat) (p : ByteArray) (rev : Int) (h : XIn w F b X) (hn : X.entries.length ≤ 1000) (hz : ((newestOf X.entries p rev).rev == 0 || (newestOf X.entries p rev).gone) = true) :
    Calls Tryd.prog 29 #[.pointer (some ⟨b, 0, none⟩), .int .i64 (i : Int), .string p, .int .i64 rev] w fun e w' => e = .returned (.tuple #[.string ⟨#[]⟩, .int .i64 0, .int .i64 12]) ∧ Low w.heap.size w w' :=
  read_via w i p rev (newestOf X.entries p rev) (⟨#[]⟩, 12) h hn rfl (fun _ => rfl) (fun V _ => openedFor_none V i _ hz)
theorem read_some (w : World) (i : Nat) (s : PSrv) (p : ByteArray) (rev : Int) (E : Ent) (K : PKey) (ki : Nat) (h : XIn w F b X) (ha : X.servers[i]? = some s) (hn : X.entries.length ≤ 1000) (hE : newestOf X.entries p rev = E) (h0 : (E.rev == 0) = false) (hg : E.gone = false)
    (hk : X.keys[ki]? = some K) (hi : E.key = (ki : Int) + 1) (hi6 : ki ≤ 6) (hK : K.text.size = 48) (hO : EntOk E) (hF : Fours w) (h1 : 1 ≤ w.heap.size) :
    Calls Tryd.prog 29 #[.pointer (some ⟨b, 0, none⟩), .int .i64 (i : Int), .string p, .int .i64 rev] w fun e w' =>
      e = .returned (.tuple #[.string (pRead K E s.seen).1, .int .i64 (pRevOr (pRead K E s.seen) E.rev), .int .i64 (pRead K E s.seen).2]) ∧ Low w.heap.size w w' :=
  read_via w i p rev E (pRead K E s.seen) h hn hE (pRead_zero K E s.seen) (fun V l => openedFor_some V i s E K ki (h.low l) ha h0 hg hk hi hi6 hK hO (fours_low hF h1 l) (Nat.le_trans h1 l.size))
end Go.Proofs.YtphapknfkbgapabDoor
namespace Go.Proofs.YtphapknfkbgapabDoor
open Go.RowKit

/-- An operation under way, on either side. -/
structure Same (s : PSrv) (sn : Int) (u : RUnd) : Prop where
  seen : s.seen = sn
  busy : s.busy = u.on
  epoch : s.busy = true → s.epoch = u.epoch ∧ s.rev = u.want ∧ s.e = u.e ∧ -1 ≤ u.want ∧ 1 ≤ u.epoch ∧ (1 ≤ u.e.path.size ∧ u.e.path.size ≤ 16) ∧ (u.e.gone = false → EntOk u.e ∧ u.e.key = 1)
/-- The program's coffer and the document's, under one key. -/
structure Rel (X : PS) (Y : RS) (key : ByteArray) : Prop where
  ksize : key.size = 48
  kx : X.keys = [⟨key, 1, 1⟩]
  ky : Y.keys = [⟨key, 1, 1, false⟩]
  write : X.write = 1
  ep : X.epoch = 1 ∧ Y.epoch = 1
  turn : X.turn = 0 ∧ Y.turn = 0
  room : X.room = Y.room
  rooms : 1 ≤ Y.room ∧ Y.room ≤ 60
  rev : X.rev = (Y.all.length : Int)
  floor : X.floor = Y.floor
  floor0 : 0 ≤ Y.floor
  draws : X.draws = Y.draws
  len : X.servers.length = Y.seen.length ∧ Y.ops.length = Y.seen.length
  srv : ∀ (i : Nat) (s : PSrv), X.servers[i]? = some s → ∃ sn u, Y.seen[i]? = some sn ∧ Y.ops[i]? = some u ∧ Same s sn u
  sn : ∀ (i : Nat) (sn : Int), Y.seen[i]? = some sn → sn = 0 ∨ sn = 1
  ent : X.entries = keptOf Y.all
  few : (X.entries.length : Int) ≤ Y.room
  revs : Revs Y.all
  eok : ∀ k ∈ Y.all, k.e.gone = false → EntOk k.e ∧ k.e.key = 1

theorem rev_there (L : Option Ent) (h : ∀ e, L = some e → 1 ≤ e.rev) : ((if (L.getD Ent.zero).gone then (0 : Int) else (L.getD Ent.zero).rev) == 0) = !thereOf L ∧ (thereOf L = true → (if (L.getD Ent.zero).gone then (0 : Int) else (L.getD Ent.zero).rev) = (L.getD Ent.zero).rev) := by
  cases L with
  | none => exact ⟨rfl, fun h => by cases h⟩
  | some e =>
    have h1 := h e rfl
    cases hg : e.gone
    · refine ⟨?_, fun _ => by simp [hg]⟩
      simp [thereOf, hg]
      omega
    · exact ⟨by simp [thereOf, hg], fun h => by simp [thereOf, hg] at h⟩
theorem conflict_same (L : Option Ent) (r want : Int) (hw : -1 ≤ want) (h0 : (r == 0) = !thereOf L) (h1 : thereOf L = true → r = (L.getD Ent.zero).rev) (hr : thereOf L = true → 1 ≤ r) : ((want != -1) && (want != r)) = conflictOf L want := by
  unfold conflictOf
  cases ht : thereOf L
  · have r0 : r = 0 := by simpa [ht] using h0
    subst r0
    rw [Bool.eq_iff_iff]
    simp
    omega
  · have e1 := h1 ht
    have e2 := hr ht
    rw [← e1]
    rw [Bool.eq_iff_iff]
    simp
    omega
theorem commit_same {X : PS} {Y : RS} {key : ByteArray} (h : Rel X Y key) {s : PSrv} {sn : Int} {u : RUnd} (hs : Same s sn u) (hb : s.busy = true) : pCommitErr X 1 s = commitErr Y u := by
  obtain ⟨e1, e2, e3, e4, e5, _, _⟩ := hs.epoch hb
  unfold pCommitErr pErr commitErr
  have hp : promOf Y.keys = 0 := by rw [h.ky]; rfl
  have hn : newestOf X.entries s.e.path X.rev = (lastOf Y.all u.e.path).getD Ent.zero := by rw [h.ent, h.rev, newest_all _ _ h.revs, e3]
  obtain ⟨L, hL⟩ : ∃ L, L = lastOf Y.all u.e.path := ⟨_, rfl⟩
  rw [← hL] at hn
  have h1 : ∀ e, L = some e → 1 ≤ e.rev := by
    intro e he
    rw [hL] at he
    obtain ⟨k, hk, rfl, _⟩ := lastOf_mem he
    obtain ⟨i, hi⟩ := List.getElem?_of_mem hk
    have := h.revs i k hi
    omega
  obtain ⟨q1, q2⟩ := rev_there L h1
  have hpr : pRevOf X s.e.path = (if (L.getD Ent.zero).gone then (0 : Int) else (L.getD Ent.zero).rev) := by unfold pRevOf; rw [hn]
  obtain ⟨r, hr⟩ : ∃ r, r = pRevOf X s.e.path := ⟨_, rfl⟩
  rw [← hpr, ← hr] at q1 q2
  have q3 : thereOf L = true → 1 ≤ r := fun ht => by
    rw [q2 ht]
    cases L with
    | none => cases ht
    | some e => exact h1 e rfl
  have hf : pFull X = fullOf Y := by unfold pFull fullOf; rw [h.room, h.ent]
  rw [hp, ← hr, hf, e1, e2, e3, ← hL, conflict_same L r u.want e4 q1 q2 q3, q1]
  rw [decide_eq_false (by omega), decide_eq_false (by omega)]
end Go.Proofs.YtphapknfkbgapabDoor
namespace Go.Proofs.YtphapknfkbgapabDoor
open Go.RowKit

theorem allTo_snoc (l : List RKept) (k : RKept) (f : Nat → Bool) (r : Nat) : allTo (l ++ [k]) f r = allTo l f r ++ [if l.length < r then { k with out := k.out || f l.length } else k] := by
  unfold allTo
  rw [List.mapIdx_append]
  simp
theorem kept_filter (P : Ent → Bool) (f : Nat → Bool) (r : Nat) (l : List RKept) : (∀ (j : Nat) (k : RKept), l[j]? = some k → k.out = false → P k.e = !(decide (j < r) && f j)) → (keptOf l).filter P = keptOf (allTo l f r) := by
  refine snoc_ind (P := fun l => (∀ (j : Nat) (k : RKept), l[j]? = some k → k.out = false → P k.e = !(decide (j < r) && f j)) → (keptOf l).filter P = keptOf (allTo l f r)) ?_ ?_ l
  · intro _; rfl
  · intro l k ih h
    have ih := ih (fun j x hx => h j x (by rw [List.getElem?_append_left (List.getElem?_eq_some_iff.1 hx).1]; exact hx))
    have hk := h l.length k (by rw [List.getElem?_append_right (Nat.le_refl _)]; simp)
    rw [keptOf_snoc, allTo_snoc, keptOf_snoc, ← ih]
    cases ho : k.out
    · have hk := hk ho
      by_cases hr : l.length < r
      · rw [if_pos hr]
        cases hf : f l.length
        · simp [hr, hf] at hk
          simp [hk]
        · simp [hr, hf] at hk
          simp [hk]
      · rw [if_neg hr]
        simp [hr] at hk
        simp [ho, hk]
    · by_cases hr : l.length < r
      · rw [if_pos hr]; simp
      · rw [if_neg hr]; simp [ho]
theorem compact_same {X : PS} {Y : RS} {key : ByteArray} (h : Rel X Y key) (r : Nat) : (X.compact (r : Int)).entries = keptOf (Y.compact r).all := by
  show X.entries.filter (fun e => outl X e (r : Int)) = keptOf (allTo Y.all (outAt Y.all r) r)
  have e0 : ∀ e : Ent, outl X e (r : Int) = (decide ((r : Int) < e.rev) || ((e.rev == ((lastOf (Y.all.take r) e.path).getD Ent.zero).rev) && !e.gone)) := by
    intro e
    unfold outl
    rw [h.ent, newest_last _ _ _ h.revs, Int.toNat_natCast]
  rw [h.ent]
  refine kept_filter (fun e => outl X e (r : Int)) (outAt Y.all r) r Y.all (fun j k hk ho => ?_)
  show outl X k.e (r : Int) = _
  rw [e0]
  have hrev := h.revs j k hk
  have hout : outAt Y.all r j = ((((lastOf (Y.all.take r) k.e.path).getD Ent.zero).rev != (j : Int) + 1) || ((lastOf (Y.all.take r) k.e.path).getD Ent.zero).gone) := by
    unfold outAt; rw [hk]
  rw [hout, hrev]
  by_cases hj : j < r
  · have d1 : decide ((r : Int) < (j : Int) + 1) = false := by simp; omega
    rw [d1, decide_eq_true hj, Bool.false_or, Bool.true_and]
    cases hL : lastOf (Y.all.take r) k.e.path with
    | none =>
      have : ((0 : Int) != (j : Int) + 1) = true := by rw [bne_iff_ne]; omega
      have h2 : (((j : Int) + 1) == (0 : Int)) = false := by rw [beq_eq_false_iff_ne]; omega
      simp [Ent.zero, this, h2]
    | some e =>
      simp only [Option.getD_some]
      by_cases he : e.rev = (j : Int) + 1
      · obtain ⟨k2, hm, rfl, _, _⟩ := lastOf_mem hL
        obtain ⟨i, hi⟩ := List.getElem?_of_mem hm
        have hi2 : Y.all[i]? = some k2 := by
          rw [List.getElem?_take] at hi
          split at hi
          · exact hi
          · cases hi
        have hr2 := h.revs i k2 hi2
        obtain rfl : i = j := by omega
        obtain rfl : k2 = k := Option.some.inj (hi2.symm.trans hk)
        simp [he]
      · have a1 : (((j : Int) + 1) == e.rev) = false := by rw [beq_eq_false_iff_ne]; omega
        have a2 : (e.rev != (j : Int) + 1) = true := by rw [bne_iff_ne]; exact he
        simp [a1, a2]
  · have d1 : decide ((r : Int) < (j : Int) + 1) = true := by simp; omega
    rw [d1, decide_eq_false hj]
    simp
end Go.Proofs.YtphapknfkbgapabDoor
namespace Go.Proofs.YtphapknfkbgapabDoor
open Go.RowKit

/-! Many keys, on either side: plain data. -/

/-- A key on either side. -/
structure KSame (p : PKey) (k : RKey) : Prop where
  came : p.came = k.came
  wrote : p.wrote = k.writes
  size : k.text.size = 48
  text : k.gone = false → p.text = k.text
  gone : k.gone = true → p.text = ⟨#[]⟩
structure Keys2 (ks : List PKey) (rs : List RKey) (ep turn : Int) : Prop where
  len : ks.length = rs.length
  few : 1 ≤ rs.length ∧ rs.length ≤ 6
  same : ∀ (i : Nat) (p : PKey) (k : RKey), ks[i]? = some p → rs[i]? = some k → KSame p k
  first : ∀ k, rs[0]? = some k → k.came = 1 ∧ k.writes = 1
  came : ∀ (i : Nat) (k : RKey), rs[i]? = some k → 1 ≤ k.came ∧ k.came ≤ ep
  wr : ∀ (i : Nat) (k : RKey), rs[i]? = some k → 0 ≤ k.writes ∧ k.writes ≤ ep
  zero : ∀ (i : Nat) (k : RKey), rs[i]? = some k → k.writes = 0 → i + 1 = rs.length ∧ turn = 1
  rise : ∀ (i j : Nat) (a c : RKey), i < j → rs[i]? = some a → rs[j]? = some c → c.writes ≠ 0 → a.writes < c.writes
  staged : turn = 1 → ∀ k, rs[rs.length - 1]? = some k → k.writes = 0
  fresh : ∀ (i : Nat) (k : RKey), rs[i]? = some k → k.writes = 0 → k.gone = false
def writesAt (k : RKey) (e : Int) : Bool := decide (0 < k.writes) && decide (k.writes ≤ e)
/-- The key that wrote in an epoch is the last one that writes since then. -/
theorem writes_spec (e : Int) (rs : List RKey) : (writesOf rs e = 0 ∧ ∀ (i : Nat) (k : RKey), rs[i]? = some k → writesAt k e = false) ∨ ∃ (j : Nat) (K : RKey), writesOf rs e = (j : Int) + 1 ∧ rs[j]? = some K ∧ writesAt K e = true ∧ ∀ (i : Nat) (k : RKey), j < i → rs[i]? = some k → writesAt k e = false := by
  refine snoc_ind (P := fun rs => (writesOf rs e = 0 ∧ ∀ (i : Nat) (k : RKey), rs[i]? = some k → writesAt k e = false) ∨ ∃ (j : Nat) (K : RKey), writesOf rs e = (j : Int) + 1 ∧ rs[j]? = some K ∧ writesAt K e = true ∧ ∀ (i : Nat) (k : RKey), j < i → rs[i]? = some k → writesAt k e = false) ?_ ?_ rs
  · exact Or.inl ⟨rfl, fun i k h => by simp at h⟩
  · intro l x ih
    have last : ∀ (i : Nat) (k : RKey), (l ++ [x])[i]? = some k → l[i]? = some k ∨ (i = l.length ∧ k = x) := by
      intro i k hk
      by_cases hi : i < l.length
      · rw [List.getElem?_append_left hi] at hk; exact Or.inl hk
      · rw [List.getElem?_append_right (by omega)] at hk
        have : i - l.length < 1 := (List.getElem?_eq_some_iff.1 hk).1
        have hi2 : i = l.length := by omega
        subst hi2
        rw [Nat.sub_self] at hk
        exact Or.inr ⟨rfl, (Option.some.inj hk).symm⟩
    rw [writesOf_snoc]
    cases hx : writesAt x e
    · have hx' : (decide (0 < x.writes) && decide (x.writes ≤ e)) = false := hx
      rw [hx', if_neg (by simp)]
      rcases ih with ⟨h0, h1⟩ | ⟨j, K, h0, h1, h2, h3⟩
      · refine Or.inl ⟨h0, fun i k hk => ?_⟩
        rcases last i k hk with q | ⟨_, rfl⟩
        · exact h1 i k q
        · exact hx
      · have hj : j < l.length := (List.getElem?_eq_some_iff.1 h1).1
        refine Or.inr ⟨j, K, h0, by rw [List.getElem?_append_left hj]; exact h1, h2, fun i k hij hk => ?_⟩
        rcases last i k hk with q | ⟨_, rfl⟩
        · exact h3 i k hij q
        · exact hx
    · have hx' : (decide (0 < x.writes) && decide (x.writes ≤ e)) = true := hx
      rw [hx', if_pos rfl]
      refine Or.inr ⟨l.length, x, by simp, by rw [List.getElem?_append_right (Nat.le_refl _)]; simp, hx, fun i k hij hk => ?_⟩
      rcases last i k hk with q | ⟨rfl, _⟩
      · have := (List.getElem?_eq_some_iff.1 q).1; omega
      · omega
/-- Two that are the last ones are one. -/
theorem writes_unique {e : Int} {rs : List RKey} {j : Nat} {K : RKey} (h1 : rs[j]? = some K) (h2 : writesAt K e = true) (h3 : ∀ (i : Nat) (k : RKey), j < i → rs[i]? = some k → writesAt k e = false) : writesOf rs e = (j : Int) + 1 := by
  rcases writes_spec e rs with ⟨_, q⟩ | ⟨j', K', q0, q1, q2, q3⟩
  · rw [q j K h1] at h2; cases h2
  · rcases Nat.lt_trichotomy j j' with hlt | rfl | hlt
    · rw [h3 j' K' hlt q1] at q2; cases q2
    · exact q0
    · rw [q3 j K hlt h1] at h2; cases h2
theorem writer_tail (e : Int) (k0 : RKey) (h0 : writesAt k0 e = true) : ∀ (l : List PKey) (l' : List RKey), l.length = l'.length → (∀ (i : Nat) (p : PKey) (k : RKey), l[i]? = some p → l'[i]? = some k → p.wrote = k.writes ∧ 0 ≤ k.writes) → writerR l e = writesR (l' ++ [k0]) e
  | [], [], _, _ => by
    have h0' : (decide (0 < k0.writes) && decide (k0.writes ≤ e)) = true := h0
    simp only [List.nil_append, writerR, writesR, h0']
    rfl
  | p :: r, k :: r', hl, hs => by
    have hl' : r.length = r'.length := by simpa using hl
    obtain ⟨a1, a2⟩ := hs 0 p k rfl rfl
    have ih := writer_tail e k0 h0 r r' hl' (fun i p k hp hk => hs (i + 1) p k (by simpa using hp) (by simpa using hk))
    have hb : ((p.wrote != 0) && decide (p.wrote ≤ e)) = (decide (0 < k.writes) && decide (k.writes ≤ e)) := by
      rw [a1]
      congr 1
      rw [Bool.eq_iff_iff, bne_iff_ne, decide_eq_true_eq]
      omega
    show (if (p.wrote != 0) && decide (p.wrote ≤ e) then (r.length + 2 : Int) else writerR r e) = (if decide (0 < k.writes) && decide (k.writes ≤ e) then ((r' ++ [k0]).length + 1 : Int) else writesR (r' ++ [k0]) e)
    rw [hb, ih, hl']
    simp
    rfl
theorem Keys2.writer {ks : List PKey} {rs : List RKey} {ep turn : Int} (h : Keys2 ks rs ep turn) {e : Int} (he : 1 ≤ e) : writerOf ks e = writesOf rs e := by
  have hf := h.few.1
  have hl := h.len
  cases rs with
  | nil => simp at hf
  | cons k r' =>
    cases ks with
    | nil => simp at hl
    | cons p r =>
      have hl' : r.length = r'.length := by simpa using hl
      have h0 : writesAt k e = true := by
        obtain ⟨_, q⟩ := h.first k rfl
        simp [writesAt, q]
        omega
      unfold writerOf writesOf
      rw [List.reverse_cons]
      show writerR r.reverse e = _
      refine writer_tail e k h0 r.reverse r'.reverse (by simp [hl']) (fun i p2 k2 hp hk => ?_)
      have hi : i < r.length := by simpa using (List.getElem?_eq_some_iff.1 hp).1
      rw [List.getElem?_reverse hi] at hp
      rw [List.getElem?_reverse (by omega)] at hk
      have e1 : r.length - 1 - i = r'.length - 1 - i := by omega
      rw [e1] at hp
      have hs := h.same (r'.length - 1 - i + 1) p2 k2 (by simpa using hp) (by simpa using hk)
      exact ⟨hs.wrote, (h.wr (r'.length - 1 - i + 1) k2 (by simpa using hk)).1⟩
/-- There is one that writes. -/
theorem Keys2.writing {ks : List PKey} {rs : List RKey} {ep turn : Int} (h : Keys2 ks rs ep turn) {e : Int} (he : 1 ≤ e) : ∃ (j : Nat) (p : PKey) (K : RKey), writesOf rs e = (j : Int) + 1 ∧ ks[j]? = some p ∧ rs[j]? = some K ∧ KSame p K ∧ 0 < K.writes ∧ K.writes ≤ e ∧ ∀ (i : Nat) (k : RKey), j < i → rs[i]? = some k → writesAt k e = false := by
  rcases writes_spec e rs with ⟨_, q⟩ | ⟨j, K, q0, q1, q2, q3⟩
  · exfalso
    obtain ⟨k, hk⟩ : ∃ k, rs[0]? = some k := ⟨_, List.getElem?_eq_getElem (by have := h.few.1; omega)⟩
    have h1 := q 0 k hk
    have h2 := (h.first k hk).2
    simp [writesAt, h2] at h1
    omega
  · have hj : j < rs.length := (List.getElem?_eq_some_iff.1 q1).1
    obtain ⟨p, hp⟩ : ∃ p, ks[j]? = some p := ⟨_, List.getElem?_eq_getElem (by rw [h.len]; exact hj)⟩
    simp [writesAt] at q2
    exact ⟨j, p, K, q0, hp, q1, h.same j p K hp q1, q2.1, q2.2, q3⟩
theorem prom_snoc (l : List RKey) (x k0 : RKey) : promOf (k0 :: (l ++ [x])) = if decide (promOf (k0 :: l) < x.writes) then x.writes else promOf (k0 :: l) := by
  unfold promOf
  simp [promR]
theorem prom_spec (k0 : RKey) (t : List RKey) : 0 ≤ promOf (k0 :: t) ∧ (∀ k ∈ t, k.writes ≤ promOf (k0 :: t)) ∧ (promOf (k0 :: t) = 0 ∨ ∃ k ∈ t, promOf (k0 :: t) = k.writes) := by
  refine snoc_ind (P := fun t => 0 ≤ promOf (k0 :: t) ∧ (∀ k ∈ t, k.writes ≤ promOf (k0 :: t)) ∧ (promOf (k0 :: t) = 0 ∨ ∃ k ∈ t, promOf (k0 :: t) = k.writes)) ?_ ?_ t
  · exact ⟨Int.le_refl 0, fun k hk => by simp at hk, Or.inl rfl⟩
  · intro l x ⟨h1, h2, h3⟩
    rw [prom_snoc]
    by_cases hx : promOf (k0 :: l) < x.writes
    · rw [decide_eq_true hx, if_pos rfl]
      refine ⟨by omega, fun k hk => ?_, Or.inr ⟨x, by simp, rfl⟩⟩
      rcases List.mem_append.1 hk with q | q
      · have := h2 k q; omega
      · obtain rfl := List.mem_singleton.1 q; omega
    · rw [decide_eq_false hx, if_neg (by simp)]
      refine ⟨h1, fun k hk => ?_, ?_⟩
      · rcases List.mem_append.1 hk with q | q
        · exact h2 k q
        · obtain rfl := List.mem_singleton.1 q; omega
      · rcases h3 with q | ⟨k, hk, q⟩
        · exact Or.inl q
        · exact Or.inr ⟨k, by simp [hk], q⟩
/-- The last Promote: that of the key that writes now, if it is not the first. -/
theorem Keys2.prom {ks : List PKey} {rs : List RKey} {ep turn : Int} (h : Keys2 ks rs ep turn) {j : Nat} {K : RKey} (hj : writesOf rs ep = (j : Int) + 1) (hK : rs[j]? = some K) : promOf rs = if j = 0 then 0 else K.writes := by
  have hf := h.few.1
  have hW : ∀ (i : Nat) (k : RKey), j < i → rs[i]? = some k → k.writes = 0 := by
    intro i k hi hk
    rcases writes_spec ep rs with ⟨q, _⟩ | ⟨j', K', q0, q1, q2, q3⟩
    · omega
    · have : j' = j := by omega
      subst this
      have q := q3 i k hi hk
      have := h.wr i k hk
      simp [writesAt] at q
      omega
  cases rs with
  | nil => simp at hf
  | cons k0 t =>
    obtain ⟨s1, s2, s3⟩ := prom_spec k0 t
    by_cases hz : j = 0
    · subst hz
      rw [if_pos rfl]
      rcases s3 with q | ⟨k, hk, q⟩
      · exact q
      · obtain ⟨i, hi⟩ := List.getElem?_of_mem hk
        rw [q]
        exact hW (i + 1) k (by omega) (by simpa using hi)
    · rw [if_neg hz]
      obtain ⟨i, rfl⟩ : ∃ i, j = i + 1 := ⟨j - 1, by omega⟩
      have hKt : t[i]? = some K := by simpa using hK
      have hKm := s2 K (List.mem_of_getElem? hKt)
      have hK0 : 0 < K.writes := by
        rcases writes_spec ep (k0 :: t) with ⟨q, _⟩ | ⟨j', K', q0, q1, q2, q3⟩
        · omega
        · have : j' = i + 1 := by omega
          subst this
          obtain rfl := Option.some.inj (q1.symm.trans hK)
          simp [writesAt] at q2
          exact q2.1
      rcases s3 with q | ⟨k, hk, q⟩
      · omega
      · obtain ⟨x, hx⟩ := List.getElem?_of_mem hk
        have hx' : (k0 :: t)[x + 1]? = some k := by simpa using hx
        rcases Nat.lt_trichotomy x i with hlt | rfl | hlt
        · have := h.rise (x + 1) (i + 1) k K (by omega) hx' hK (by omega)
          omega
        · obtain rfl := Option.some.inj (hx.symm.trans hKt)
          exact q
        · have := hW (x + 1) k (by omega) hx'
          omega
/-- Since the last Promote the same key has written. -/
theorem Keys2.still {ks : List PKey} {rs : List RKey} {ep turn : Int} (h : Keys2 ks rs ep turn) {e : Int} (he : 1 ≤ e) (he2 : e ≤ ep) (hp : promOf rs ≤ e) : writesOf rs e = writesOf rs ep := by
  obtain ⟨j, p, K, q0, _, q1, _, q2, q3, q4⟩ := h.writing (e := ep) (by omega)
  rw [q0]
  have hpr := h.prom q0 q1
  refine writes_unique q1 ?_ (fun i k hi hk => ?_)
  · by_cases hz : j = 0
    · subst hz
      have := (h.first K q1).2
      simp [writesAt, this]
      omega
    · rw [if_neg hz] at hpr
      simp [writesAt]
      omega
  · have := q4 i k hi hk
    simp [writesAt] at this ⊢
    omega
theorem writes_congr {e : Int} {rs rs' : List RKey} (hl : rs.length = rs'.length) (h : ∀ (i : Nat) (k k' : RKey), rs[i]? = some k → rs'[i]? = some k' → writesAt k e = writesAt k' e) : writesOf rs e = writesOf rs' e := by
  have other : ∀ (i : Nat) (k' : RKey), rs'[i]? = some k' → ∃ k, rs[i]? = some k := fun i k' hk => ⟨_, List.getElem?_eq_getElem (by have := (List.getElem?_eq_some_iff.1 hk).1; omega)⟩
  rcases writes_spec e rs with ⟨q, q1⟩ | ⟨j, K, q0, q1, q2, q3⟩
  · rcases writes_spec e rs' with ⟨p, _⟩ | ⟨j', K', p0, p1, p2, _⟩
    · rw [q, p]
    · obtain ⟨k, hk⟩ := other j' K' p1
      have := h j' k K' hk p1
      rw [q1 j' k hk, p2] at this
      cases this
  · obtain ⟨K', hK'⟩ : ∃ K', rs'[j]? = some K' := ⟨_, List.getElem?_eq_getElem (by have := (List.getElem?_eq_some_iff.1 q1).1; omega)⟩
    rw [q0]
    refine (writes_unique hK' (by rw [← h j K K' q1 hK']; exact q2) (fun i k' hi hk' => ?_)).symm
    obtain ⟨k, hk⟩ := other i k' hk'
    rw [← h i k k' hk hk']
    exact q3 i k hi hk
theorem Keys2.later {ks : List PKey} {rs : List RKey} {ep turn : Int} (h : Keys2 ks rs ep turn) {e : Int} (h1 : 1 ≤ ep) (he : ep ≤ e) : writesOf rs e = writesOf rs ep := by
  obtain ⟨j, p, K, q0, _, q1, _, q2, q3, q4⟩ := h.writing h1
  rw [q0]
  refine writes_unique q1 ?_ (fun i k hi hk => ?_)
  · simp [writesAt]
    omega
  · have a1 := q4 i k hi hk
    have a2 := h.wr i k hk
    simp [writesAt] at a1 ⊢
    omega
end Go.Proofs.YtphapknfkbgapabDoor
namespace Go.Proofs.YtphapknfkbgapabDoor
open Go.RowKit

/-! The pods as they are at first. -/
variable {F : Nat → Prop} {b : Nat} {X : PS}
def podV (j i : Nat) : Value := .int .i64 (if j < i then -1 else 0)
def podL (i : Nat) : List Value := [podV 0 i, .slice none 0 0, podV 1 i, .slice none 0 0, podV 2 i, .slice none 0 0, podV 3 i, .slice none 0 0, podV 4 i, .slice none 0 0, podV 5 i, .slice none 0 0, podV 6 i, .slice none 0 0, podV 7 i, .slice none 0 0]
theorem podL_cell {i : Nat} (hi : i < 8) : (podL i)[i * 2]? = some (.int .i64 0) := by
  rcases eight hi with rfl | rfl | rfl | rfl | rfl | rfl | rfl | rfl <;> rfl
theorem podL_set {i : Nat} (hi : i < 8) : (podL i).set (i * 2) (.int .i64 (-1)) = podL (i + 1) := by
  rcases eight hi with rfl | rfl | rfl | rfl | rfl | rfl | rfl | rfl <;> rfl
theorem sz62 (i : Nat) : (Tryd.prog.info? 73).map (·.size) = some (podL i).length := show _ = some 16 by kernel_rfl
theorem podL_one (i : Nat) : ∀ v ∈ podL i, v.oneCell' = true := by simp [podL, podV, Value.oneCell']
set_option maxRecDepth 100000 in
set_option maxHeartbeats 400000 in
theorem unplaced_any (w : World) :
    Calls Tryd.prog 32 #[] w fun e w' => e = .returned (.agg (podL 8).toArray) ∧ Low w.heap.size w w' ∧ w'.heap.size = w.heap.size + 2 := by
  go_enter Tryd.func32, Tryd.ntmps32
  go_wp2
  go_loopw [2] (fun iv wr => ∃ (i : Nat), i ≤ 8 ∧ iv = .int .i64 (i : Int) ∧ Hid (Low w.heap.size w wr ∧ wr.heap.size = w.heap.size + 2 ∧ Blk wr w.heap.size 73 (podL 0) ∧ Blk wr (w.heap.size + 1) 73 (podL i))) (fun iv _ => 8 - (intOf iv).toNat)
  case atStart =>
    refine ⟨0, Nat.zero_le _, rfl, ?_, by simp, (Blk.new w 73 (podL 0)).alloc _, ?_⟩
    · exact ((Low.refl _ w).alloc (Nat.le_refl _) _).alloc (by simp) _
    · have := Blk.new (w.alloc (.cells (podL 0).toArray 73)) 73 (podL 0)
      rw [World.size_alloc] at this
      exact this
  case round =>
    obtain ⟨i, hi, rfl, HI⟩ := hrel
    by_cases h1 : i < 8
    · have q1 : decide ((i : Int) < 8) = true := by simp; omega
      have c0 : wr.cell? ⟨w.heap.size + 1, i * 2, none⟩ = some (.int .i64 0) := by rw [HI.out.2.2.2.cell, podL_cell h1]
      have f0 := HI.out.2.2.2.frozen (i * 2)
      have lb := HI.out.2.2.2.lt
      have il : (i : Int) < 8 := by omega
      go_wp2_with fail
      go_roundw
      case rel =>
        obtain ⟨l0, s0, z0, e0⟩ := HI.out
        have e1 := e0.set (i * 2) (.int .i64 (-1))
        rw [podL_set h1] at e1
        exact ⟨i + 1, by omega, by simp, l0.setCell (by show w.heap.size ≤ w.heap.size + 1; omega) _, by simpa using s0, z0.setOther (by show w.heap.size ≠ w.heap.size + 1; omega) _, e1⟩
      case measure => simp [intOf]; omega
    · have q1 : decide ((i : Int) < 8) = false := by simp; omega
      obtain rfl : i = 8 := by omega
      go_wp2_with (first | ((with_reducible refine ldAny 73 (.tmp 1) (w.heap.size + 1) 0 (podL 8) _ ?_ HI.out.2.2.2.whole Tryd.underlying73 rfl (sz62 8) ?_); rfl) | ((with_reducible refine stBlk 73 (.tmp 0) (.tmp 11) w.heap.size 73 (podL 0) (podL 8) ?_ ?_ HI.out.2.2.1 rfl (sz62 8) (podL_one 8) ?_); rfl; rfl; intro w1 b1 k1 s1; have B1 := hid b1; have K1 := hid k1; have S1 := hid s1; clear b1 k1 s1))
      (try simp only [Exit.inBlock, Exit.then])
      refine bodyPost_ret (results_cell rfl w.heap.size (podL 8) _ rfl B1.out.whole Tryd.underlying73 rfl (sz62 8)) rfl ?_
      exact ⟨rfl, low_set HI.out.1 K1.out (Nat.le_refl _) HI.out.1.size, S1.out.trans HI.out.2.1⟩
end Go.Proofs.YtphapknfkbgapabDoor
