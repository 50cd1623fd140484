import Derived.Test.YtggbjffmclpmgaaGreatDoorPMToPF
import Derived.Test.YtggbjffmclpmgaaGreatDoorPAToPH
import Derived.Deep.DeepCutAuto
namespace Go.Proofs.YtggbjffmclpmgaaGreatDoor
open Go.RowKit

variable {F : Nat → Prop} {b : Nat} {X : PS}

set_option maxRecDepth 100000 in
set_option maxHeartbeats 1000000 in
theorem pBegin_srv (w : World) (s : Int) (o : AOp) (h : XIn w F b X) (hs : isSrv X.servers.length s = false) :
    Calls Tryz.prog 26 #[.pointer (some ⟨b, 0, none⟩), .int .i64 s, .agg #[.int .i64 o.kind, .string o.path, .string o.plain, .int .i64 o.rev]] w fun e w' => e = .returned (.int .i64 4) ∧ Low w.heap.size w w' := by
  have HR := hid h
  have HS := hid hs
  clear h hs
  go_enter Tryz.func26, Tryz.ntmps26
  go_wp2_with (go_at_call 59; refine (isServer_any _ _ (by exact HR.out.alloc _)).mono ?_; rw [HS.out]; rintro e y1 ⟨rfl, rfl⟩)
  go_ret
  exact ⟨rfl, (Low.refl _ w).alloc (Nat.le_refl _) _⟩
set_option maxRecDepth 100000 in
set_option maxHeartbeats 1000000 in
theorem pBegin_busy (w : World) (i : Nat) (s : PSrv) (o : AOp) (h : XIn w F b X) (ha : X.servers[i]? = some s) (hu : s.busy = true) :
    Calls Tryz.prog 26 #[.pointer (some ⟨b, 0, none⟩), .int .i64 (i : Int), .agg #[.int .i64 o.kind, .string o.path, .string o.plain, .int .i64 o.rev]] w fun e w' => e = .returned (.int .i64 5) ∧ Low w.heap.size w w' := by
  have HR := hid h
  have HA := hid ha
  have HS := hid (psrv ha).1
  have hb := h.lt
  obtain ⟨gS, capS, hcS, hgS, hcs, _⟩ := xin_srvAt h ha
  have s0 : w.cell? ⟨gS, i * 10, none⟩ = some (.int .i64 s.seen) := hcs 0 (by omega)
  have s1 : w.cell? ⟨gS, i * 10 + 1, none⟩ = some (.bool s.busy) := hcs 1 (by omega)
  have i1 := (psrv ha).2
  clear h hcs ha
  go_enter Tryz.func26, Tryz.ntmps26
  go_wp2_with (go_at_call 59; refine (isServer_any _ _ (by exact HR.out.alloc _)).mono ?_; rw [HS.out]; rintro e y1 ⟨rfl, rfl⟩)
  go_ret
  exact ⟨rfl, (Low.refl _ w).alloc (Nat.le_refl _) _⟩
set_option maxRecDepth 100000 in
set_option maxHeartbeats 1000000 in
theorem pBegin_blind (w : World) (i : Nat) (s : PSrv) (o : AOp) (h : XIn w F b X) (ha : X.servers[i]? = some s) (hu : s.busy = false) (hsn : (s.seen == 0) = true) :
    Calls Tryz.prog 26 #[.pointer (some ⟨b, 0, none⟩), .int .i64 (i : Int), .agg #[.int .i64 o.kind, .string o.path, .string o.plain, .int .i64 o.rev]] w fun e w' => e = .returned (.int .i64 6) ∧ Low w.heap.size w w' := by
  have HR := hid h
  have HA := hid ha
  have HS := hid (psrv ha).1
  have hb := h.lt
  obtain ⟨gS, capS, hcS, hgS, hcs, _⟩ := xin_srvAt h ha
  have s0 : w.cell? ⟨gS, i * 10, none⟩ = some (.int .i64 s.seen) := hcs 0 (by omega)
  have s1 : w.cell? ⟨gS, i * 10 + 1, none⟩ = some (.bool s.busy) := hcs 1 (by omega)
  have i1 := (psrv ha).2
  clear h hcs ha
  go_enter Tryz.func26, Tryz.ntmps26
  go_wp2_with (go_at_call 59; refine (isServer_any _ _ (by exact HR.out.alloc _)).mono ?_; rw [HS.out]; rintro e y1 ⟨rfl, rfl⟩)
  go_ret
  exact ⟨rfl, (Low.refl _ w).alloc (Nat.le_refl _) _⟩
set_option maxRecDepth 100000 in
set_option maxHeartbeats 1000000 in
theorem pBegin_op (w : World) (i : Nat) (s : PSrv) (o : AOp) (h : XIn w F b X) (ha : X.servers[i]? = some s) (hu : s.busy = false) (hsn : (s.seen == 0) = false) (hp : o.path.size ≤ maxLen) (hq : o.plain.size ≤ maxLen) (ho : properOf o = false) :
    Calls Tryz.prog 26 #[.pointer (some ⟨b, 0, none⟩), .int .i64 (i : Int), .agg #[.int .i64 o.kind, .string o.path, .string o.plain, .int .i64 o.rev]] w fun e w' => e = .returned (.int .i64 7) ∧ Low w.heap.size w w' := by
  have HR := hid h
  have HA := hid ha
  have HS := hid (psrv ha).1
  have hb := h.lt
  obtain ⟨gS, capS, hcS, hgS, hcs, _⟩ := xin_srvAt h ha
  have s0 : w.cell? ⟨gS, i * 10, none⟩ = some (.int .i64 s.seen) := hcs 0 (by omega)
  have s1 : w.cell? ⟨gS, i * 10 + 1, none⟩ = some (.bool s.busy) := hcs 1 (by omega)
  have i1 := (psrv ha).2
  clear h hcs ha
  have HP := hid hp
  have HQ := hid hq
  have HO := hid ho
  clear hp hq ho
  go_enter Tryz.func26, Tryz.ntmps26
  go_wp2_with (first | (go_at_call 59; refine (isServer_any _ _ (by exact HR.out.alloc _)).mono ?_; rw [HS.out]; rintro e y1 ⟨rfl, rfl⟩) | (go_at_call 61; refine (isOperation_any _ o HP.out HQ.out).mono ?_; rw [HO.out]; rintro e y1 ⟨rfl, l1⟩; have L1 := hid l1; clear l1))
  go_ret
  exact ⟨rfl, ((Low.refl _ w).alloc (Nat.le_refl _) _).trans (L1.out.mono (by simp))⟩
def PS.setSrv (X : PS) (i : Nat) (u : PSrv) : PS := { X with servers := X.servers.set i u }
set_option maxRecDepth 100000 in
set_option maxHeartbeats 1000000 in
theorem pBegin_del (w : World) (i : Nat) (s : PSrv) (o : AOp) (h : XIn w F b X) (ha : X.servers[i]? = some s) (hu : s.busy = false) (hsn : (s.seen == 0) = false) (hp : o.path.size ≤ maxLen) (hq : o.plain.size ≤ maxLen) (ho : properOf o = true) (hk : (o.kind == 2) = true) :
    Calls Tryz.prog 26 #[.pointer (some ⟨b, 0, none⟩), .int .i64 (i : Int), .agg #[.int .i64 o.kind, .string o.path, .string o.plain, .int .i64 o.rev]] w fun e w' => e = .returned (.int .i64 0) ∧ XIn w' F b ((X).setSrv i ⟨s.seen, true, s.seen, o.rev, delEnt o.path⟩) ∧ Kept F w w' := by
  have HR := hid h
  have HA := hid ha
  have HS := hid (psrv ha).1
  have hb := h.lt
  obtain ⟨gS, capS, hcS, hgS, hcs, _⟩ := xin_srvAt h ha
  have s0 : w.cell? ⟨gS, i * 10, none⟩ = some (.int .i64 s.seen) := hcs 0 (by omega)
  have s1 : w.cell? ⟨gS, i * 10 + 1, none⟩ = some (.bool s.busy) := hcs 1 (by omega)
  have i1 := (psrv ha).2
  clear h hcs ha
  have HP := hid hp
  have HQ := hid hq
  have HO := hid ho
  clear hp hq ho
  obtain ⟨E, hE⟩ : ∃ E, E = delEnt o.path := ⟨_, rfl⟩
  have HE := hid hE
  clear hE
  go_enter Tryz.func26, Tryz.ntmps26
  go_upto_region 13 with (first | (go_at_call 59; refine (isServer_any _ _ (by exact HR.out.alloc _)).mono ?_; rw [HS.out]; rintro e y1 ⟨rfl, rfl⟩) | (go_at_call 61; refine (isOperation_any _ o HP.out HQ.out).mono ?_; rw [HO.out]; rintro e y1 ⟨rfl, l1⟩; have L1 : Hid (Low w.heap.size w y1) := ((Low.refl _ w).alloc (Nat.le_refl _) _).trans (l1.mono (by simp)); have b75 : Blk y1 w.heap.size 75 o.cells := (Blk.new w 75 o.cells).low l1 (by simp); have n0 : y1.cell? ⟨w.heap.size, 0, none⟩ = some (.int .i64 o.kind) := b75.cell 0; have n1 : y1.cell? ⟨w.heap.size, 1, none⟩ = some (.string o.path) := b75.cell 1; have n2 : y1.cell? ⟨w.heap.size, 2, none⟩ = some (.string o.plain) := b75.cell 2; have n3 : y1.cell? ⟨w.heap.size, 3, none⟩ = some (.int .i64 o.rev) := b75.cell 3; have B75 := hid b75; have X1 : Hid (XIn y1 F b X) := HR.out.low L1.out; clear l1 b75) | (go_at_call 62; refine (prepared_del (b := b) _ _ o hk).mono ?_; rw [← HE.out]; rintro e y2 ⟨rfl, l2⟩; have X2 : Hid (XIn y2 F b X) := X1.out.low l2; have K2 : Hid (Kept F w y2) := (L1.out.trans (l2.mono L1.out.size)).kept.mono (fun _ _ f => f.elim); have B2 : Hid (Blk y2 w.heap.size 75 o.cells) := B75.out.low l2 B75.out.lt; clear l2) | ((with_reducible refine st50 (.tmp 8) (.tmp 41) y2.heap.size Ent.zero E ?_ ?_ ?_ ?_); rfl; rfl; exact (Blk.new y2 50 Ent.zero.cells); intro W b3 k3 t3; have BM := hid b3; have X3 : Hid (XIn W F b (X)) := (X2.out.alloc _).kept k3 (fun q hq e => by have := X2.out.below q hq; omega); have KW : Hid (Kept F w W) := (K2.out.trans ((Low.refl _ y2).alloc (Nat.le_refl _) _).kept (H := F) (fun _ f => f) (fun _ _ f => f.elim)).trans k3 (fun _ f => f) (fun q hq e => by have := K2.out.size; omega); have BW : Hid (Blk W w.heap.size 75 o.cells) := (B2.out.alloc _).kept k3 (by have := B2.out.lt; omega); clear b3 k3 t3))
  have w3 : W.cell? ⟨w.heap.size, 3, none⟩ = some (.int .i64 o.rev) := BW.out.cell 3
  have e0 : W.cell? ⟨y2.heap.size, 0, none⟩ = some (.string E.path) := BM.out.cell 0
  have e1 : W.cell? ⟨y2.heap.size, 1, none⟩ = some (.int .i64 E.rev) := BM.out.cell 1
  have e2 : W.cell? ⟨y2.heap.size, 2, none⟩ = some (.int .i64 E.key) := BM.out.cell 2
  have e3 : W.cell? ⟨y2.heap.size, 3, none⟩ = some (.int .i64 E.draw) := BM.out.cell 3
  have e4 : W.cell? ⟨y2.heap.size, 4, none⟩ = some (.string E.sealed) := BM.out.cell 4
  have e5 : W.cell? ⟨y2.heap.size, 5, none⟩ = some (.bool E.gone) := BM.out.cell 5
  clear hb hcS hgS s0 s1 n0 n1 n2 n3
  go_upto_region 14 with fail
  go_name_world V hV
  have XV : Hid (XIn V F b (X)) := by
    show XIn V F b _
    rw [← hV]; exact X3.out.alloc _
  have KV : Hid (Kept F w V) := by
    show Kept F w V
    rw [← hV]; exact KW.out.trans ((Low.refl _ W).alloc (Nat.le_refl _) _).kept (fun _ f => f) (fun _ _ f => f.elim)
  have BV : Hid (Blk V W.heap.size 94 [.int .i64 s.seen, .int .i64 o.rev, .string E.path, .int .i64 E.rev, .int .i64 E.key, .int .i64 E.draw, .string E.sealed, .bool E.gone]) := by
    show Blk V _ _ _
    rw [← hV]; exact Blk.new W 94 [.int .i64 s.seen, .int .i64 o.rev, .string E.path, .int .i64 E.rev, .int .i64 E.key, .int .i64 E.draw, .string E.sealed, .bool E.gone]
  obtain ⟨g2, cap2, hc2, hg2, _, _⟩ := xin_srvAt XV.out (show (X).servers[i]? = some s from HA.out)
  have hc2 : V.cell? ⟨b, 8, none⟩ = some (.slice (some ⟨g2, 0, none⟩) X.servers.length cap2) := hc2
  obtain ⟨r1, r2, r3⟩ := xin_putSrv XV.out hc2 i (List.getElem?_eq_some_iff.1 HA.out).1 ⟨s.seen, true, s.seen, o.rev, E⟩
  have R1 := hid r1
  have R2 := hid r2
  have R3 := hid r3
  have v0 : V.cell? ⟨W.heap.size, 0, none⟩ = some (.int .i64 s.seen) := BV.out.cell 0
  have v1 : V.cell? ⟨W.heap.size, 1, none⟩ = some (.int .i64 o.rev) := BV.out.cell 1
  have v2 : V.cell? ⟨W.heap.size, 2, none⟩ = some (.string E.path) := BV.out.cell 2
  have v3 : V.cell? ⟨W.heap.size, 3, none⟩ = some (.int .i64 E.rev) := BV.out.cell 3
  have v4 : V.cell? ⟨W.heap.size, 4, none⟩ = some (.int .i64 E.key) := BV.out.cell 4
  have v5 : V.cell? ⟨W.heap.size, 5, none⟩ = some (.int .i64 E.draw) := BV.out.cell 5
  have v6 : V.cell? ⟨W.heap.size, 6, none⟩ = some (.string E.sealed) := BV.out.cell 6
  have v7 : V.cell? ⟨W.heap.size, 7, none⟩ = some (.bool E.gone) := BV.out.cell 7
  clear r1 r2 r3 hV w3 e0 e1 e2 e3 e4 e5
  refine wp_region_still_tail 9 (by kernel_rfl) (by kernel_rfl) ?_
  (try (change wpStill _ _ (World.drew _) _ _ _))
  simp only [List.take_succ_cons, List.take_zero, List.drop_succ_cons, List.drop_zero]
  repeat still_step
  refine wpStill_nil ?_
  (try (change wpList _ _ _ _ _ (World.drew _)))
  go_wp2_with ((with_reducible refine st96 (.tmp 59) (.tmp 58) g2 (i * 10) ⟨s.seen, true, s.seen, o.rev, E⟩ ?_ ?_ ?_ ?_); rfl; rfl; (exact there_drew R3.out); rw [setCells_drew])
  go_ret
  rw [← HE.out]
  exact ⟨rfl, R1.out.drew, (KV.out.trans R2.out (H := F) (fun _ f => f) (fun _ _ f => f)).drew⟩
set_option maxRecDepth 100000 in
set_option maxHeartbeats 1000000 in
theorem pBegin_put (w : World) (i : Nat) (s : PSrv) (o : AOp) (K : PKey) (ki : Nat) (h : XIn w F b X) (ha : X.servers[i]? = some s) (hu : s.busy = false) (hsn : (s.seen == 0) = false) (hp : o.path.size ≤ maxLen) (hq : o.plain.size ≤ maxLen) (ho : properOf o = true) (hk2 : (o.kind == 1) = true) (hw : writerOf X.keys s.seen = (ki : Int) + 1) (hk : X.keys[ki]? = some K) (hl : X.keys.length ≤ 6) (hK : K.text.size = 48) (hd : 0 ≤ X.draws ∧ X.draws + 1 ≤ 1000000000000) (hF : Fours w) (h1 : 1 ≤ w.heap.size) :
    Calls Tryz.prog 26 #[.pointer (some ⟨b, 0, none⟩), .int .i64 (i : Int), .agg #[.int .i64 o.kind, .string o.path, .string o.plain, .int .i64 o.rev]] w fun e w' => e = .returned (.int .i64 0) ∧ XIn w' F b (({ X with draws := X.draws + 1 }).setSrv i ⟨s.seen, true, s.seen, o.rev, closedOf K.text ((ki : Int) + 1) o.path o.plain (X.draws + 1)⟩) ∧ Kept F w w' := by
  have gd : Hid ((1 ≤ o.path.size ∧ o.path.size ≤ 16) ∧ o.plain.size ≤ 64) := by
    have q := ho
    have k1 := beq_iff_eq.1 hk2
    simp only [properOf, isPath, Bool.and_eq_true, Bool.or_eq_true, decide_eq_true_eq, beq_iff_eq, k1] at q
    show _ ∧ _
    omega
  have hk3 : (o.kind == 2) = false := beq_eq_false_iff_ne.2 (by have := beq_iff_eq.1 hk2; omega)
  have HR := hid h
  have HA := hid ha
  have HS := hid (psrv ha).1
  have hb := h.lt
  obtain ⟨gS, capS, hcS, hgS, hcs, _⟩ := xin_srvAt h ha
  have s0 : w.cell? ⟨gS, i * 10, none⟩ = some (.int .i64 s.seen) := hcs 0 (by omega)
  have s1 : w.cell? ⟨gS, i * 10 + 1, none⟩ = some (.bool s.busy) := hcs 1 (by omega)
  have i1 := (psrv ha).2
  clear h hcs ha
  have HP := hid hp
  have HQ := hid hq
  have HO := hid ho
  clear hp hq ho
  have HW := hid hw
  have HKK := hid hk
  have HT := hid hK
  have HDD := hid hd
  have HF := hid hF
  clear hw hk hK hd hF
  obtain ⟨E, hE⟩ : ∃ E, E = closedOf K.text ((ki : Int) + 1) o.path o.plain (X.draws + 1) := ⟨_, rfl⟩
  have HE := hid hE
  clear hE
  go_enter Tryz.func26, Tryz.ntmps26
  go_upto_region 13 with (first | (go_at_call 59; refine (isServer_any _ _ (by exact HR.out.alloc _)).mono ?_; rw [HS.out]; rintro e y1 ⟨rfl, rfl⟩) | (go_at_call 61; refine (isOperation_any _ o HP.out HQ.out).mono ?_; rw [HO.out]; rintro e y1 ⟨rfl, l1⟩; have L1 : Hid (Low w.heap.size w y1) := ((Low.refl _ w).alloc (Nat.le_refl _) _).trans (l1.mono (by simp)); have b75 : Blk y1 w.heap.size 75 o.cells := (Blk.new w 75 o.cells).low l1 (by simp); have n0 : y1.cell? ⟨w.heap.size, 0, none⟩ = some (.int .i64 o.kind) := b75.cell 0; have n1 : y1.cell? ⟨w.heap.size, 1, none⟩ = some (.string o.path) := b75.cell 1; have n2 : y1.cell? ⟨w.heap.size, 2, none⟩ = some (.string o.plain) := b75.cell 2; have n3 : y1.cell? ⟨w.heap.size, 3, none⟩ = some (.int .i64 o.rev) := b75.cell 3; have B75 := hid b75; have X1 : Hid (XIn y1 F b X) := HR.out.low L1.out; clear l1 b75) | (go_at_call 62; refine (prepared_put _ _ o K ki hk3 X1.out HW.out HKK.out hl HT.out gd.out.1 gd.out.2 HDD.out (fours_low HF.out h1 L1.out) (Nat.le_trans h1 L1.out.size)).mono ?_; rw [← HE.out]; rintro e y2 ⟨rfl, r2, k2⟩; have X2 := hid r2; have K2 : Hid (Kept F w y2) := L1.out.kept.trans k2 (fun _ f => f.elim) (fun _ _ f => f); have B2 : Hid (Blk y2 w.heap.size 75 o.cells) := B75.out.kept k2 (fun f => by have := HR.out.below _ f; omega); clear r2 k2) | ((with_reducible refine st50 (.tmp 8) (.tmp 41) y2.heap.size Ent.zero E ?_ ?_ ?_ ?_); rfl; rfl; exact (Blk.new y2 50 Ent.zero.cells); intro W b3 k3 t3; have BM := hid b3; have X3 : Hid (XIn W F b ({ X with draws := X.draws + 1 })) := (X2.out.alloc _).kept k3 (fun q hq e => by have := X2.out.below q hq; omega); have KW : Hid (Kept F w W) := (K2.out.trans ((Low.refl _ y2).alloc (Nat.le_refl _) _).kept (H := F) (fun _ f => f) (fun _ _ f => f.elim)).trans k3 (fun _ f => f) (fun q hq e => by have := K2.out.size; omega); have BW : Hid (Blk W w.heap.size 75 o.cells) := (B2.out.alloc _).kept k3 (by have := B2.out.lt; omega); clear b3 k3 t3))
  have w3 : W.cell? ⟨w.heap.size, 3, none⟩ = some (.int .i64 o.rev) := BW.out.cell 3
  have e0 : W.cell? ⟨y2.heap.size, 0, none⟩ = some (.string E.path) := BM.out.cell 0
  have e1 : W.cell? ⟨y2.heap.size, 1, none⟩ = some (.int .i64 E.rev) := BM.out.cell 1
  have e2 : W.cell? ⟨y2.heap.size, 2, none⟩ = some (.int .i64 E.key) := BM.out.cell 2
  have e3 : W.cell? ⟨y2.heap.size, 3, none⟩ = some (.int .i64 E.draw) := BM.out.cell 3
  have e4 : W.cell? ⟨y2.heap.size, 4, none⟩ = some (.string E.sealed) := BM.out.cell 4
  have e5 : W.cell? ⟨y2.heap.size, 5, none⟩ = some (.bool E.gone) := BM.out.cell 5
  clear hb hcS hgS s0 s1 n0 n1 n2 n3
  go_upto_region 14 with fail
  go_name_world V hV
  have XV : Hid (XIn V F b ({ X with draws := X.draws + 1 })) := by
    show XIn V F b _
    rw [← hV]; exact X3.out.alloc _
  have KV : Hid (Kept F w V) := by
    show Kept F w V
    rw [← hV]; exact KW.out.trans ((Low.refl _ W).alloc (Nat.le_refl _) _).kept (fun _ f => f) (fun _ _ f => f.elim)
  have BV : Hid (Blk V W.heap.size 94 [.int .i64 s.seen, .int .i64 o.rev, .string E.path, .int .i64 E.rev, .int .i64 E.key, .int .i64 E.draw, .string E.sealed, .bool E.gone]) := by
    show Blk V _ _ _
    rw [← hV]; exact Blk.new W 94 [.int .i64 s.seen, .int .i64 o.rev, .string E.path, .int .i64 E.rev, .int .i64 E.key, .int .i64 E.draw, .string E.sealed, .bool E.gone]
  obtain ⟨g2, cap2, hc2, hg2, _, _⟩ := xin_srvAt XV.out (show ({ X with draws := X.draws + 1 }).servers[i]? = some s from HA.out)
  have hc2 : V.cell? ⟨b, 8, none⟩ = some (.slice (some ⟨g2, 0, none⟩) X.servers.length cap2) := hc2
  obtain ⟨r1, r2, r3⟩ := xin_putSrv XV.out hc2 i (List.getElem?_eq_some_iff.1 HA.out).1 ⟨s.seen, true, s.seen, o.rev, E⟩
  have R1 := hid r1
  have R2 := hid r2
  have R3 := hid r3
  have v0 : V.cell? ⟨W.heap.size, 0, none⟩ = some (.int .i64 s.seen) := BV.out.cell 0
  have v1 : V.cell? ⟨W.heap.size, 1, none⟩ = some (.int .i64 o.rev) := BV.out.cell 1
  have v2 : V.cell? ⟨W.heap.size, 2, none⟩ = some (.string E.path) := BV.out.cell 2
  have v3 : V.cell? ⟨W.heap.size, 3, none⟩ = some (.int .i64 E.rev) := BV.out.cell 3
  have v4 : V.cell? ⟨W.heap.size, 4, none⟩ = some (.int .i64 E.key) := BV.out.cell 4
  have v5 : V.cell? ⟨W.heap.size, 5, none⟩ = some (.int .i64 E.draw) := BV.out.cell 5
  have v6 : V.cell? ⟨W.heap.size, 6, none⟩ = some (.string E.sealed) := BV.out.cell 6
  have v7 : V.cell? ⟨W.heap.size, 7, none⟩ = some (.bool E.gone) := BV.out.cell 7
  clear r1 r2 r3 hV w3 e0 e1 e2 e3 e4 e5
  refine wp_region_still_tail 9 (by kernel_rfl) (by kernel_rfl) ?_
  (try (change wpStill _ _ (World.drew _) _ _ _))
  simp only [List.take_succ_cons, List.take_zero, List.drop_succ_cons, List.drop_zero]
  repeat still_step
  refine wpStill_nil ?_
  (try (change wpList _ _ _ _ _ (World.drew _)))
  go_wp2_with ((with_reducible refine st96 (.tmp 59) (.tmp 58) g2 (i * 10) ⟨s.seen, true, s.seen, o.rev, E⟩ ?_ ?_ ?_ ?_); rfl; rfl; (exact there_drew R3.out); rw [setCells_drew])
  go_ret
  rw [← HE.out]
  exact ⟨rfl, R1.out.drew, (KV.out.trans R2.out (H := F) (fun _ f => f) (fun _ _ f => f)).drew⟩
end Go.Proofs.YtggbjffmclpmgaaGreatDoor
namespace Go.Proofs.YtggbjffmclpmgaaGreatDoor
open Go.RowKit

variable {F : Nat → Prop} {b : Nat} {X : PS}

theorem blk_drew {w : World} {b : Nat} {t : TypeId} {cs : List Value} (h : Blk w b t cs) : Blk w.drew b t cs := h
theorem pCommit_srv (w : World) (s : Int) (h : XIn w F b X) (hs : isSrv X.servers.length s = false) :
    Calls Tryz.prog 28 #[.pointer (some ⟨b, 0, none⟩), .int .i64 s] w fun e w' => e = .returned (.tuple #[.int .i64 0, .int .i64 4]) ∧ w' = w := by
  have HR := hid h
  have HS := hid hs
  clear h hs
  go_enter Tryz.func28, Tryz.ntmps28
  go_wp2_with (go_at_call 59; refine (isServer_any _ _ HR.out).mono ?_; rw [HS.out]; rintro e y1 ⟨rfl, hy⟩; obtain rfl := hy.symm)
  go_ret2
  exact ⟨rfl, rfl⟩
set_option maxRecDepth 100000 in
theorem pCommit_idle (w : World) (i : Nat) (s : PSrv) (h : XIn w F b X) (ha : X.servers[i]? = some s) (hu : s.busy = false) :
    Calls Tryz.prog 28 #[.pointer (some ⟨b, 0, none⟩), .int .i64 (i : Int)] w fun e w' => e = .returned (.tuple #[.int .i64 0, .int .i64 8]) ∧ w' = w := by
  have HR := hid h
  have HS := hid (psrv ha).1
  obtain ⟨gS, capS, hcS, hgS, hcs, _⟩ := xin_srvAt h ha
  have s1 : w.cell? ⟨gS, i * 10 + 1, none⟩ = some (.bool s.busy) := hcs 1 (by omega)
  have i1 := (psrv ha).2
  clear h hcs ha
  go_enter Tryz.func28, Tryz.ntmps28
  go_wp2_with (go_at_call 59; refine (isServer_any _ _ HR.out).mono ?_; rw [HS.out]; rintro e y1 ⟨rfl, hy⟩; obtain rfl := hy.symm)
  go_ret2
  exact ⟨rfl, rfl⟩
def PSrv.rest (s : PSrv) : PSrv := { PSrv.zero with seen := s.seen }
def pCommitErr (X : PS) (wrote : Int) (s : PSrv) : Int := pErr wrote (pRevOf X s.e.path) (pFull X) s
def PS.commit (X : PS) (wrote : Int) (i : Nat) (s : PSrv) : PS := if pCommitErr X wrote s == 0 then (X.setSrv i s.rest).add s.e else X.setSrv i s.rest
def PS.commitRev (X : PS) (wrote : Int) (s : PSrv) : Int := if pCommitErr X wrote s == 0 then X.rev + 1 else 0
set_option maxRecDepth 100000 in
set_option maxHeartbeats 1000000 in
theorem pCommit_any (w : World) (i : Nat) (s : PSrv) (K : PKey) (ki : Nat) (h : XIn w F b X) (ha : X.servers[i]? = some s) (hu : s.busy = true) (hw : X.write = (ki : Int) + 1) (hk : X.keys[ki]? = some K) (hl : X.keys.length ≤ 6) (hn : X.entries.length ≤ 1000) (hr : 0 ≤ X.rev ∧ X.rev ≤ 1000000000000) :
    Calls Tryz.prog 28 #[.pointer (some ⟨b, 0, none⟩), .int .i64 (i : Int)] w fun e w' => e = .returned (.tuple #[.int .i64 (X.commitRev K.wrote s), .int .i64 (pCommitErr X K.wrote s)]) ∧ XIn w' (grow F w w') b (X.commit K.wrote i s) ∧ Kept F w w' := by
  have HR := hid h
  have HS := hid (psrv ha).1
  have HA := hid ha
  have HW := hid hw
  have HK := hid hk
  have HRR := hid hr
  obtain ⟨gS, capS, hcS, hgS, hcs, _⟩ := xin_srvAt h ha
  have s1 : w.cell? ⟨gS, i * 10 + 1, none⟩ = some (.bool s.busy) := hcs 1 (by omega)
  have s2 : w.cell? ⟨gS, i * 10 + 2, none⟩ = some (.int .i64 s.epoch) := hcs 2 (by omega)
  have s3 : w.cell? ⟨gS, i * 10 + 3, none⟩ = some (.int .i64 s.rev) := hcs 3 (by omega)
  have s4 : w.cell? ⟨gS, i * 10 + 4, none⟩ = some (.string s.e.path) := hcs 4 (by omega)
  have s5 : w.cell? ⟨gS, i * 10 + 5, none⟩ = some (.int .i64 s.e.rev) := hcs 5 (by omega)
  have s6 : w.cell? ⟨gS, i * 10 + 6, none⟩ = some (.int .i64 s.e.key) := hcs 6 (by omega)
  have s7 : w.cell? ⟨gS, i * 10 + 7, none⟩ = some (.int .i64 s.e.draw) := hcs 7 (by omega)
  have s8 : w.cell? ⟨gS, i * 10 + 8, none⟩ = some (.string s.e.sealed) := hcs 8 (by omega)
  have s9 : w.cell? ⟨gS, i * 10 + 9, none⟩ = some (.bool s.e.gone) := hcs 9 (by omega)
  have i1 := (psrv ha).2
  clear h hcs ha hw hk hr
  go_enter Tryz.func28, Tryz.ntmps28
  go_upto_region 6 with (go_at_call 59; refine (isServer_any _ _ HR.out).mono ?_; rw [HS.out]; rintro e y1 ⟨rfl, hy⟩; obtain rfl := hy.symm)
  go_name_world W hW
  have XW : Hid (XIn W F b X) := by
    show XIn W F b X
    rw [← hW]; exact HR.out.alloc _
  have LW : Hid (Low w.heap.size w W) := by
    show Low _ _ _
    rw [← hW]; exact (Low.refl _ w).alloc (Nat.le_refl _) _
  have BW : Hid (Blk W w.heap.size 94 (opCells s)) := by
    show Blk W _ _ _
    rw [← hW]; exact Blk.new w 94 (opCells s)
  obtain ⟨g2, cap2, hc2, hg2, hcs2, _⟩ := xin_srvAt XW.out HA.out
  have t0 : W.cell? ⟨g2, i * 10, none⟩ = some (.int .i64 s.seen) := hcs2 0 (by omega)
  obtain ⟨r1, r2, r3⟩ := xin_putSrv XW.out hc2 i (List.getElem?_eq_some_iff.1 HA.out).1 s.rest
  have R1 : Hid (XIn (W.setCells g2 (i * 10) s.rest.cells) F b (X.setSrv i s.rest)) := r1
  have R2 := hid r2
  have R3 := hid r3
  clear r1 r2 r3 hW hcS hgS s1 s2 s3 s4 s5 s6 s7 s8 s9 hcs2
  refine wp_region_still_tail 15 (by kernel_rfl) (by kernel_rfl) ?_
  (try (change wpStill _ _ (World.drew _) _ _ _))
  simp only [List.take_succ_cons, List.take_zero, List.drop_succ_cons, List.drop_zero]
  repeat still_step
  refine wpStill_nil ?_
  (try (change wpList _ _ _ _ _ (World.drew _)))
  go_upto_region 7 with ((with_reducible refine st96 (.tmp 43) (.tmp 42) g2 (i * 10) s.rest ?_ ?_ ?_ ?_); rfl; rfl; (exact there_drew R3.out); rw [setCells_drew])
  go_name_world V hV
  have XV : Hid (XIn V F b (X.setSrv i s.rest)) := by
    show XIn V F b _
    rw [← hV]; exact R1.out.drew
  have KV : Hid (Kept F w V) := by
    show Kept F w V
    rw [← hV]; exact (LW.out.kept.trans R2.out (H := F) (fun _ f => f.elim) (fun _ _ f => f)).drew
  have BV : Hid (Blk V w.heap.size 94 (opCells s)) := by
    show Blk V _ _ _
    rw [← hV]; exact blk_drew (BW.out.kept R2.out (fun f => by have := HR.out.below _ f; omega))
  have v0 : V.cell? ⟨w.heap.size, 0, none⟩ = some (.int .i64 s.epoch) := BV.out.cell 0
  have v1 : V.cell? ⟨w.heap.size, 1, none⟩ = some (.int .i64 s.rev) := BV.out.cell 1
  have v2 : V.cell? ⟨w.heap.size, 2, none⟩ = some (.string s.e.path) := BV.out.cell 2
  have v3 : V.cell? ⟨w.heap.size, 3, none⟩ = some (.int .i64 s.e.rev) := BV.out.cell 3
  have v4 : V.cell? ⟨w.heap.size, 4, none⟩ = some (.int .i64 s.e.key) := BV.out.cell 4
  have v5 : V.cell? ⟨w.heap.size, 5, none⟩ = some (.int .i64 s.e.draw) := BV.out.cell 5
  have v6 : V.cell? ⟨w.heap.size, 6, none⟩ = some (.string s.e.sealed) := BV.out.cell 6
  have v7 : V.cell? ⟨w.heap.size, 7, none⟩ = some (.bool s.e.gone) := BV.out.cell 7
  obtain ⟨er, her⟩ : ∃ er, pCommitErr X K.wrote s = er := ⟨_, rfl⟩
  have HER : Hid (pErr K.wrote (pRevOf (X.setSrv i s.rest) s.e.path) (pFull (X.setSrv i s.rest)) s = er) := her
  have HER2 := hid her
  clear her hV t0 hc2 hg2
  cases hz : (er == 0)
  · have q : (er != 0) = true := by rw [bne, hz]; rfl
    go_wp2_with (go_at_call 66; refine (mayCommit_any (X := X.setSrv i s.rest) _ s K ki XV.out HW.out HK.out hl hn).mono ?_; rw [HER.out]; rintro e y ⟨rfl, l⟩; have LY := hid l; clear l)
    go_ret2
    unfold PS.commitRev PS.commit
    rw [HER2.out, hz]
    have xy := XV.out.low LY.out
    refine ⟨rfl, XIn.more xy (fun _ e => Or.inl e) (fun k e => e.elim (xy.below k) (fun e => e.2)), KV.out.trans LY.out.kept (fun _ f => f) (fun _ _ f => f.elim)⟩
  · have q : (er != 0) = false := by rw [bne, hz]; rfl
    have z : er = 0 := by simpa using hz
    go_wp2_with (first | (go_at_call 66; refine (mayCommit_any (X := X.setSrv i s.rest) _ s K ki XV.out HW.out HK.out hl hn).mono ?_; rw [HER.out]; rintro e y ⟨rfl, l⟩; have LY := hid l; have BY := BV.out.low l BV.out.lt; have y2 : y.cell? ⟨w.heap.size, 2, none⟩ = some (.string s.e.path) := BY.cell 2; have y3 : y.cell? ⟨w.heap.size, 3, none⟩ = some (.int .i64 s.e.rev) := BY.cell 3; have y4 : y.cell? ⟨w.heap.size, 4, none⟩ = some (.int .i64 s.e.key) := BY.cell 4; have y5 : y.cell? ⟨w.heap.size, 5, none⟩ = some (.int .i64 s.e.draw) := BY.cell 5; have y6 : y.cell? ⟨w.heap.size, 6, none⟩ = some (.string s.e.sealed) := BY.cell 6; have y7 : y.cell? ⟨w.heap.size, 7, none⟩ = some (.bool s.e.gone) := BY.cell 7; have XY := hid (XV.out.low l); clear l BY) | (go_at_call 67; refine (add_any (X := X.setSrv i s.rest) _ s.e XY.out hn HRR.out).mono ?_; rintro e y2' ⟨rfl, r4, k4⟩; have R4 := hid r4; have K4 := hid k4; clear r4 k4))
    go_ret2
    unfold PS.commitRev PS.commit
    rw [HER2.out, hz]
    refine ⟨by rw [z]; rfl, ?_, (KV.out.trans LY.out.kept (H := F) (fun _ f => f) (fun _ _ f => f.elim)).trans K4.out (fun _ f => f) (fun _ _ f => f)⟩
    have hs1 := KV.out.size
    have hs2 := LY.out.size
    exact XIn.more R4.out (fun k hk => hk.elim Or.inl (fun hk => Or.inr ⟨by omega, hk.2⟩)) (fun k hk => hk.elim (fun hk => XIn.below R4.out k (Or.inl hk)) (fun hk => hk.2))
end Go.Proofs.YtggbjffmclpmgaaGreatDoor
namespace Go.Proofs.YtggbjffmclpmgaaGreatDoor
open Go.RowKit

variable {F : Nat → Prop} {b : Nat} {X : PS}

set_option maxRecDepth 100000 in
set_option maxHeartbeats 1000000 in
theorem read_none (w : World) (i : Nat) (p : ByteArray) (rev : Int) (h : XIn w F b X) (hn : X.entries.length ≤ 1000) (hz : ((newestOf X.entries p rev).rev == 0 || (newestOf X.entries p rev).gone) = true) :
    Calls Tryz.prog 73 #[.pointer (some ⟨b, 0, none⟩), .int .i64 (i : Int), .string p, .int .i64 rev] w fun e w' => e = .returned (.tuple #[.string ⟨#[]⟩, .int .i64 0, .int .i64 12]) ∧ Low w.heap.size w w' := by
  have HR := hid h
  obtain ⟨E, hE⟩ : ∃ E, newestOf X.entries p rev = E := ⟨_, rfl⟩
  rw [hE] at hz
  have HE := hid hE
  clear h hE
  cases h0 : (E.rev == 0)
  · have hg : E.gone = true := by simpa [h0] using hz
    clear hz
    go_enter Tryz.func73, Tryz.ntmps73
    go_wp2_with (first | (go_at_call 97; refine (newest_any _ _ _ HR.out hn).mono ?_; rw [HE.out]; rintro e y1 ⟨rfl, l1⟩; have L1 := hid l1; clear l1) | ((with_reducible refine st50 (.tmp 11) (.tmp 18) y1.heap.size Ent.zero E ?_ ?_ ?_ ?_); rfl; rfl; exact (Blk.new y1 50 Ent.zero.cells); intro W b2 k2 s2; have m5 : W.cell? ⟨y1.heap.size, 5, none⟩ = some (.bool E.gone) := b2.cell 5; have m1 : W.cell? ⟨y1.heap.size, 1, none⟩ = some (.int .i64 E.rev) := b2.cell 1; have LW : Hid (Low w.heap.size w W) := low_set (L1.out.alloc L1.out.size _) k2 L1.out.size (by have := L1.out.size; simp; omega); clear b2 k2 s2))
    go_ret3
    exact ⟨rfl, LW.out⟩
  · clear hz
    go_enter Tryz.func73, Tryz.ntmps73
    go_wp2_with (first | (go_at_call 97; refine (newest_any _ _ _ HR.out hn).mono ?_; rw [HE.out]; rintro e y1 ⟨rfl, l1⟩; have L1 := hid l1; clear l1) | ((with_reducible refine st50 (.tmp 11) (.tmp 18) y1.heap.size Ent.zero E ?_ ?_ ?_ ?_); rfl; rfl; exact (Blk.new y1 50 Ent.zero.cells); intro W b2 k2 s2; have m5 : W.cell? ⟨y1.heap.size, 5, none⟩ = some (.bool E.gone) := b2.cell 5; have m1 : W.cell? ⟨y1.heap.size, 1, none⟩ = some (.int .i64 E.rev) := b2.cell 1; have LW : Hid (Low w.heap.size w W) := low_set (L1.out.alloc L1.out.size _) k2 L1.out.size (by have := L1.out.size; simp; omega); clear b2 k2 s2))
    go_ret3
    exact ⟨rfl, LW.out⟩
def pRead (K : PKey) (e : Ent) (seen : Int) : ByteArray × Int := if decide (seen < K.came) then (⟨#[]⟩, 13) else pOpened K e
def pRevOr (O : ByteArray × Int) (r : Int) : Int := if O.2 == 0 then r else 0
set_option maxRecDepth 100000 in
set_option maxHeartbeats 1000000 in
theorem read_some (w : World) (i : Nat) (s : PSrv) (p : ByteArray) (rev : Int) (E : Ent) (K : PKey) (ki : Nat) (h : XIn w F b X) (ha : X.servers[i]? = some s) (hn : X.entries.length ≤ 1000) (hE : newestOf X.entries p rev = E) (h0 : (E.rev == 0) = false) (hg : E.gone = false)
    (hk : X.keys[ki]? = some K) (hi : E.key = (ki : Int) + 1) (hi6 : ki ≤ 6) (hK : K.text.size = 48) (hO : EntOk E) (hF : Fours w) (h1 : 1 ≤ w.heap.size) :
    Calls Tryz.prog 73 #[.pointer (some ⟨b, 0, none⟩), .int .i64 (i : Int), .string p, .int .i64 rev] w fun e w' =>
      e = .returned (.tuple #[.string (pRead K E s.seen).1, .int .i64 (pRevOr (pRead K E s.seen) E.rev), .int .i64 (pRead K E s.seen).2]) ∧ Low w.heap.size w w' := by
  obtain ⟨xp, xr, xk, xd, xs, xg⟩ := E
  obtain rfl : xg = false := hg
  obtain rfl : xk = (ki : Int) + 1 := hi
  have HR := hid h
  have HA := hid ha
  have HE := hid hE
  have HK := hid hk
  have HT := hid hK
  have HO := hid hO
  have HF := hid hF
  have i1 := (psrv ha).2
  have h0' : (xr == 0) = false := h0
  clear h ha hE hk hK hO hF h0
  obtain ⟨O, hOO⟩ : ∃ O, O = pOpened K (Ent.mk xp xr ((ki : Int) + 1) xd xs false) := ⟨_, rfl⟩
  have HOO := hid hOO
  clear hOO
  go_enter Tryz.func73, Tryz.ntmps73
  go_upto_region 5 with (first | (go_at_call 97; refine (newest_any _ _ _ HR.out hn).mono ?_; rw [HE.out]; rintro e y1 ⟨rfl, l1⟩; have L1 := hid l1; clear l1) | ((with_reducible refine st50 (.tmp 11) (.tmp 18) y1.heap.size Ent.zero (Ent.mk xp xr ((ki : Int) + 1) xd xs false) ?_ ?_ ?_ ?_); rfl; rfl; exact (Blk.new y1 50 Ent.zero.cells); intro W b2 k2 s2; have m5 : W.cell? ⟨y1.heap.size, 5, none⟩ = some (.bool false) := b2.cell 5; have m1 : W.cell? ⟨y1.heap.size, 1, none⟩ = some (.int .i64 xr) := b2.cell 1; have m2 : W.cell? ⟨y1.heap.size, 2, none⟩ = some (.int .i64 ((ki : Int) + 1)) := b2.cell 2; have LW : Hid (Low w.heap.size w W) := low_set (L1.out.alloc L1.out.size _) k2 L1.out.size (by have := L1.out.size; simp; omega); have BM := hid b2; clear b2 k2 s2) | (go_at_call 95; refine (key_any _ ki K (by exact HR.out.low LW.out) HK.out (by omega)).mono ?_; rintro e y2 ⟨rfl, l2⟩; have L2 : Hid (Low w.heap.size w y2) := LW.out.trans (l2.mono LW.out.size); have BM2 : Hid (Blk y2 y1.heap.size 50 (Ent.mk xp xr ((ki : Int) + 1) xd xs false).cells) := BM.out.low l2 BM.out.lt; clear l2 m5 m1 m2))
  go_name_world V hV
  have LV : Hid (Low w.heap.size w V) := by
    show Low _ _ _
    rw [← hV]; exact L2.out.alloc L2.out.size _
  have BV : Hid (Blk V y1.heap.size 50 (Ent.mk xp xr ((ki : Int) + 1) xd xs false).cells) := by
    show Blk V _ _ _
    rw [← hV]; exact BM2.out.alloc _
  have BK : Hid (Blk V y2.heap.size 56 K.cells) := by
    show Blk V _ _ _
    rw [← hV]; exact Blk.new y2 56 K.cells
  have XV := hid (HR.out.low LV.out)
  obtain ⟨g2, cap2, hc2, hg2, hcs2, _⟩ := xin_srvAt XV.out HA.out
  have t0 : V.cell? ⟨g2, i * 10, none⟩ = some (.int .i64 s.seen) := hcs2 0 (by omega)
  have k1 : V.cell? ⟨y2.heap.size, 1, none⟩ = some (.int .i64 K.came) := BK.out.cell 1
  have x0 : V.cell? ⟨y1.heap.size, 0, none⟩ = some (.string xp) := BV.out.cell 0
  have x1 : V.cell? ⟨y1.heap.size, 1, none⟩ = some (.int .i64 xr) := BV.out.cell 1
  have x2 : V.cell? ⟨y1.heap.size, 2, none⟩ = some (.int .i64 ((ki : Int) + 1)) := BV.out.cell 2
  have x3 : V.cell? ⟨y1.heap.size, 3, none⟩ = some (.int .i64 xd) := BV.out.cell 3
  have x4 : V.cell? ⟨y1.heap.size, 4, none⟩ = some (.string xs) := BV.out.cell 4
  have x5 : V.cell? ⟨y1.heap.size, 5, none⟩ = some (.bool false) := BV.out.cell 5
  clear hV hcs2
  cases q1 : decide (s.seen < K.came)
  · go_region
    all_goals go_upto_region 8 with (go_at_call 98; refine (popened_any _ (Ent.mk xp xr ((ki : Int) + 1) xd xs false) K ki (by exact XV.out.drew) HK.out rfl hi6 HT.out HO.out (by exact fours_low HF.out h1 LV.out.drew) (by have := LV.out.size; simp; omega)).mono ?_; rw [← HOO.out]; rintro e y3 ⟨rfl, l3⟩; have L3 : Hid (Low w.heap.size w y3) := LV.out.drew.trans (l3.mono (by have := LV.out.size; simpa using this)); have z1 : y3.cell? ⟨y1.heap.size, 1, none⟩ = some (.int .i64 xr) := (l3.cell (show y1.heap.size < _ by simpa using BV.out.lt)).trans x1; clear l3)
    all_goals
      cases hz : (O.2 == 0)
      · have q2 : (O.2 != 0) = true := by rw [bne, hz]; rfl
        have hne : ¬ O.2 = 0 := by simpa using hz
        have h1' : O.1 = ⟨#[]⟩ := by
          have hh := hne
          rw [HOO.out] at hh ⊢
          unfold pOpened at hh ⊢
          (repeat' split) <;> simp_all
        go_wp2_with fail
        go_ret3
        exact ⟨by simp [pRead, q1, ← HOO.out, pRevOr, hne, h1'], L3.out⟩
      · have q2 : (O.2 != 0) = false := by rw [bne, hz]; rfl
        have z : O.2 = 0 := by simpa using hz
        go_upto_region 10 with fail
        go_region
        all_goals go_wp2_with fail
        all_goals go_ret3
        all_goals exact ⟨by simp [pRead, q1, ← HOO.out, pRevOr, z], L3.out.drew⟩
  · go_region
    all_goals go_wp2_with fail
    all_goals go_ret3
    all_goals exact ⟨by simp [pRead, q1, pRevOr], LV.out.drew⟩
end Go.Proofs.YtggbjffmclpmgaaGreatDoor
namespace Go.Proofs.YtggbjffmclpmgaaGreatDoor
open Go.RowKit

/-- An operation under way, on either side. -/
structure Same (s : PSrv) (sn : Int) (u : RUnd) : Prop where
  seen : s.seen = sn
  busy : s.busy = u.on
  epoch : s.busy = true → s.epoch = u.epoch ∧ s.rev = u.want ∧ s.e = u.e ∧ -1 ≤ u.want ∧ 1 ≤ u.epoch ∧ (1 ≤ u.e.path.size ∧ u.e.path.size ≤ 16) ∧ (u.e.gone = false → EntOk u.e ∧ u.e.key = 1)
/-- The program's coffer and the document's, under one key. -/
structure Rel (X : PS) (Y : RS) (key : ByteArray) : Prop where
  ksize : key.size = 48
  kx : X.keys = [⟨key, 1, 1⟩]
  ky : Y.keys = [⟨key, 1, 1, false⟩]
  write : X.write = 1
  ep : X.epoch = 1 ∧ Y.epoch = 1
  turn : X.turn = 0 ∧ Y.turn = 0
  room : X.room = Y.room
  rooms : 1 ≤ Y.room ∧ Y.room ≤ 60
  rev : X.rev = (Y.all.length : Int)
  floor : X.floor = Y.floor
  floor0 : 0 ≤ Y.floor
  draws : X.draws = Y.draws
  len : X.servers.length = Y.seen.length ∧ Y.ops.length = Y.seen.length
  srv : ∀ (i : Nat) (s : PSrv), X.servers[i]? = some s → ∃ sn u, Y.seen[i]? = some sn ∧ Y.ops[i]? = some u ∧ Same s sn u
  sn : ∀ (i : Nat) (sn : Int), Y.seen[i]? = some sn → sn = 0 ∨ sn = 1
  ent : X.entries = keptOf Y.all
  few : (X.entries.length : Int) ≤ Y.room
  revs : Revs Y.all
  eok : ∀ k ∈ Y.all, k.e.gone = false → EntOk k.e ∧ k.e.key = 1

theorem rev_there (L : Option Ent) (h : ∀ e, L = some e → 1 ≤ e.rev) : ((if (L.getD Ent.zero).gone then (0 : Int) else (L.getD Ent.zero).rev) == 0) = !thereOf L ∧ (thereOf L = true → (if (L.getD Ent.zero).gone then (0 : Int) else (L.getD Ent.zero).rev) = (L.getD Ent.zero).rev) := by
  cases L with
  | none => exact ⟨rfl, fun h => by cases h⟩
  | some e =>
    have h1 := h e rfl
    cases hg : e.gone
    · refine ⟨?_, fun _ => by simp [hg]⟩
      simp [thereOf, hg]
      omega
    · exact ⟨by simp [thereOf, hg], fun h => by simp [thereOf, hg] at h⟩
theorem conflict_same (L : Option Ent) (r want : Int) (hw : -1 ≤ want) (h0 : (r == 0) = !thereOf L) (h1 : thereOf L = true → r = (L.getD Ent.zero).rev) (hr : thereOf L = true → 1 ≤ r) : ((want != -1) && (want != r)) = conflictOf L want := by
  unfold conflictOf
  cases ht : thereOf L
  · have r0 : r = 0 := by simpa [ht] using h0
    subst r0
    rw [Bool.eq_iff_iff]
    simp
    omega
  · have e1 := h1 ht
    have e2 := hr ht
    rw [← e1]
    rw [Bool.eq_iff_iff]
    simp
    omega
theorem commit_same {X : PS} {Y : RS} {key : ByteArray} (h : Rel X Y key) {s : PSrv} {sn : Int} {u : RUnd} (hs : Same s sn u) (hb : s.busy = true) : pCommitErr X 1 s = commitErr Y u := by
  obtain ⟨e1, e2, e3, e4, e5, _, _⟩ := hs.epoch hb
  unfold pCommitErr pErr commitErr
  have hp : promOf Y.keys = 0 := by rw [h.ky]; rfl
  have hn : newestOf X.entries s.e.path X.rev = (lastOf Y.all u.e.path).getD Ent.zero := by rw [h.ent, h.rev, newest_all _ _ h.revs, e3]
  obtain ⟨L, hL⟩ : ∃ L, L = lastOf Y.all u.e.path := ⟨_, rfl⟩
  rw [← hL] at hn
  have h1 : ∀ e, L = some e → 1 ≤ e.rev := by
    intro e he
    rw [hL] at he
    obtain ⟨k, hk, rfl, _⟩ := lastOf_mem he
    obtain ⟨i, hi⟩ := List.getElem?_of_mem hk
    have := h.revs i k hi
    omega
  obtain ⟨q1, q2⟩ := rev_there L h1
  have hpr : pRevOf X s.e.path = (if (L.getD Ent.zero).gone then (0 : Int) else (L.getD Ent.zero).rev) := by unfold pRevOf; rw [hn]
  obtain ⟨r, hr⟩ : ∃ r, r = pRevOf X s.e.path := ⟨_, rfl⟩
  rw [← hpr, ← hr] at q1 q2
  have q3 : thereOf L = true → 1 ≤ r := fun ht => by
    rw [q2 ht]
    cases L with
    | none => cases ht
    | some e => exact h1 e rfl
  have hf : pFull X = fullOf Y := by unfold pFull fullOf; rw [h.room, h.ent]
  rw [hp, ← hr, hf, e1, e2, e3, ← hL, conflict_same L r u.want e4 q1 q2 q3, q1]
  rw [decide_eq_false (by omega), decide_eq_false (by omega)]
end Go.Proofs.YtggbjffmclpmgaaGreatDoor
namespace Go.Proofs.YtggbjffmclpmgaaGreatDoor
open Go.RowKit

theorem allTo_snoc (l : List RKept) (k : RKept) (f : Nat → Bool) (r : Nat) : allTo (l ++ [k]) f r = allTo l f r ++ [if l.length < r then { k with out := k.out || f l.length } else k] := by
  unfold allTo
  rw [List.mapIdx_append]
  simp
theorem kept_filter (P : Ent → Bool) (f : Nat → Bool) (r : Nat) (l : List RKept) : (∀ (j : Nat) (k : RKept), l[j]? = some k → k.out = false → P k.e = !(decide (j < r) && f j)) → (keptOf l).filter P = keptOf (allTo l f r) := by
  refine snoc_ind (P := fun l => (∀ (j : Nat) (k : RKept), l[j]? = some k → k.out = false → P k.e = !(decide (j < r) && f j)) → (keptOf l).filter P = keptOf (allTo l f r)) ?_ ?_ l
  · intro _; rfl
  · intro l k ih h
    have ih := ih (fun j x hx => h j x (by rw [List.getElem?_append_left (List.getElem?_eq_some_iff.1 hx).1]; exact hx))
    have hk := h l.length k (by rw [List.getElem?_append_right (Nat.le_refl _)]; simp)
    rw [keptOf_snoc, allTo_snoc, keptOf_snoc, ← ih]
    cases ho : k.out
    · have hk := hk ho
      by_cases hr : l.length < r
      · rw [if_pos hr]
        cases hf : f l.length
        · simp [hr, hf] at hk
          simp [hk]
        · simp [hr, hf] at hk
          simp [hk]
      · rw [if_neg hr]
        simp [hr] at hk
        simp [ho, hk]
    · by_cases hr : l.length < r
      · rw [if_pos hr]; simp
      · rw [if_neg hr]; simp [ho]
theorem compact_same {X : PS} {Y : RS} {key : ByteArray} (h : Rel X Y key) (r : Nat) : (X.compact (r : Int)).entries = keptOf (Y.compact r).all := by
  show X.entries.filter (fun e => outl X e (r : Int)) = keptOf (allTo Y.all (outAt Y.all r) r)
  have e0 : ∀ e : Ent, outl X e (r : Int) = (decide ((r : Int) < e.rev) || ((e.rev == ((lastOf (Y.all.take r) e.path).getD Ent.zero).rev) && !e.gone)) := by
    intro e
    unfold outl
    rw [h.ent, newest_last _ _ _ h.revs, Int.toNat_natCast]
  rw [h.ent]
  refine kept_filter (fun e => outl X e (r : Int)) (outAt Y.all r) r Y.all (fun j k hk ho => ?_)
  show outl X k.e (r : Int) = _
  rw [e0]
  have hrev := h.revs j k hk
  have hout : outAt Y.all r j = ((((lastOf (Y.all.take r) k.e.path).getD Ent.zero).rev != (j : Int) + 1) || ((lastOf (Y.all.take r) k.e.path).getD Ent.zero).gone) := by
    unfold outAt; rw [hk]
  rw [hout, hrev]
  by_cases hj : j < r
  · have d1 : decide ((r : Int) < (j : Int) + 1) = false := by simp; omega
    rw [d1, decide_eq_true hj, Bool.false_or, Bool.true_and]
    cases hL : lastOf (Y.all.take r) k.e.path with
    | none =>
      have : ((0 : Int) != (j : Int) + 1) = true := by rw [bne_iff_ne]; omega
      have h2 : (((j : Int) + 1) == (0 : Int)) = false := by rw [beq_eq_false_iff_ne]; omega
      simp [Ent.zero, this, h2]
    | some e =>
      simp only [Option.getD_some]
      by_cases he : e.rev = (j : Int) + 1
      · obtain ⟨k2, hm, rfl, _, _⟩ := lastOf_mem hL
        obtain ⟨i, hi⟩ := List.getElem?_of_mem hm
        have hi2 : Y.all[i]? = some k2 := by
          rw [List.getElem?_take] at hi
          split at hi
          · exact hi
          · cases hi
        have hr2 := h.revs i k2 hi2
        obtain rfl : i = j := by omega
        obtain rfl : k2 = k := Option.some.inj (hi2.symm.trans hk)
        simp [he]
      · have a1 : (((j : Int) + 1) == e.rev) = false := by rw [beq_eq_false_iff_ne]; omega
        have a2 : (e.rev != (j : Int) + 1) = true := by rw [bne_iff_ne]; exact he
        simp [a1, a2]
  · have d1 : decide ((r : Int) < (j : Int) + 1) = true := by simp; omega
    rw [d1, decide_eq_false hj]
    simp
end Go.Proofs.YtggbjffmclpmgaaGreatDoor
namespace Go.Proofs.YtggbjffmclpmgaaGreatDoor
open Go.RowKit

variable {F : Nat → Prop} {b : Nat} {X : PS}

theorem pGet_srv (w : World) (s : Int) (p : ByteArray) (h : XIn w F b X) (hs : isSrv X.servers.length s = false) :
    Calls Tryz.prog 30 #[.pointer (some ⟨b, 0, none⟩), .int .i64 s, .string p] w fun e w' => e = .returned (.tuple #[.string ⟨#[]⟩, .int .i64 0, .int .i64 4]) ∧ w' = w := by
  have HR := hid h
  have HS := hid hs
  clear h hs
  go_enter Tryz.func30, Tryz.ntmps30
  go_wp2_with (go_at_call 72; refine (mayRead_srv _ _ HR.out HS.out).mono ?_; rintro e y1 ⟨rfl, hy⟩; obtain rfl := hy.symm)
  go_ret3
  exact ⟨rfl, rfl⟩
theorem pGet_blind (w : World) (i : Nat) (s : PSrv) (p : ByteArray) (h : XIn w F b X) (ha : X.servers[i]? = some s) (hs : (s.seen == 0) = true) :
    Calls Tryz.prog 30 #[.pointer (some ⟨b, 0, none⟩), .int .i64 (i : Int), .string p] w fun e w' => e = .returned (.tuple #[.string ⟨#[]⟩, .int .i64 0, .int .i64 6]) ∧ w' = w := by
  have HR := hid h
  have HA := hid ha
  have HE : Hid (readErr s = 6) := by show _ = _; unfold readErr; rw [hs]; rfl
  clear h hs ha
  go_enter Tryz.func30, Tryz.ntmps30
  go_wp2_with (go_at_call 72; refine (mayRead_any _ _ _ HR.out HA.out).mono ?_; rw [HE.out]; rintro e y1 ⟨rfl, hy⟩; obtain rfl := hy.symm)
  go_ret3
  exact ⟨rfl, rfl⟩
set_option maxRecDepth 100000 in
theorem pGet_ok (w : World) (i : Nat) (s : PSrv) (p : ByteArray) (h : XIn w F b X) (ha : X.servers[i]? = some s) (hs : (s.seen == 0) = false) (A : ByteArray) (B C : Int)
    (hr : Calls Tryz.prog 73 #[.pointer (some ⟨b, 0, none⟩), .int .i64 (i : Int), .string p, .int .i64 X.rev] w fun e w' => e = .returned (.tuple #[.string A, .int .i64 B, .int .i64 C]) ∧ Low w.heap.size w w') :
    Calls Tryz.prog 30 #[.pointer (some ⟨b, 0, none⟩), .int .i64 (i : Int), .string p] w fun e w' => e = .returned (.tuple #[.string A, .int .i64 B, .int .i64 C]) ∧ Low w.heap.size w w' := by
  have HR := hid h
  have HA := hid ha
  have HRD := hid hr
  have HE : Hid (readErr s = 0) := by show _ = _; unfold readErr; rw [hs]; rfl
  have c0 := xin_rev h
  clear h hs ha hr
  go_enter Tryz.func30, Tryz.ntmps30
  go_wp2_with (first | (go_at_call 72; refine (mayRead_any _ _ _ HR.out HA.out).mono ?_; rw [HE.out]; rintro e y1 ⟨rfl, hy⟩; obtain rfl := hy.symm) | (go_at_call 73; refine HRD.out.mono ?_; rintro e y2 ⟨rfl, l2⟩; have L2 := hid l2; clear l2))
  go_ret3
  exact ⟨rfl, L2.out⟩
theorem pGetAt_srv (w : World) (s : Int) (p : ByteArray) (rev : Int) (h : XIn w F b X) (hs : isSrv X.servers.length s = false) :
    Calls Tryz.prog 32 #[.pointer (some ⟨b, 0, none⟩), .int .i64 s, .string p, .int .i64 rev] w fun e w' => e = .returned (.tuple #[.string ⟨#[]⟩, .int .i64 0, .int .i64 4]) ∧ w' = w := by
  have HR := hid h
  have HS := hid hs
  clear h hs
  go_enter Tryz.func32, Tryz.ntmps32
  go_wp2_with (go_at_call 72; refine (mayRead_srv _ _ HR.out HS.out).mono ?_; rintro e y1 ⟨rfl, hy⟩; obtain rfl := hy.symm)
  go_ret3
  exact ⟨rfl, rfl⟩
theorem pGetAt_blind (w : World) (i : Nat) (s : PSrv) (p : ByteArray) (rev : Int) (h : XIn w F b X) (ha : X.servers[i]? = some s) (hs : (s.seen == 0) = true) :
    Calls Tryz.prog 32 #[.pointer (some ⟨b, 0, none⟩), .int .i64 (i : Int), .string p, .int .i64 rev] w fun e w' => e = .returned (.tuple #[.string ⟨#[]⟩, .int .i64 0, .int .i64 6]) ∧ w' = w := by
  have HR := hid h
  have HA := hid ha
  have HE : Hid (readErr s = 6) := by show _ = _; unfold readErr; rw [hs]; rfl
  clear h hs ha
  go_enter Tryz.func32, Tryz.ntmps32
  go_wp2_with (go_at_call 72; refine (mayRead_any _ _ _ HR.out HA.out).mono ?_; rw [HE.out]; rintro e y1 ⟨rfl, hy⟩; obtain rfl := hy.symm)
  go_ret3
  exact ⟨rfl, rfl⟩
def pBadRev (X : PS) (rev : Int) : Bool := decide (rev < X.floor) || decide (X.rev < rev)
set_option maxRecDepth 100000 in
theorem pGetAt_rev (w : World) (i : Nat) (s : PSrv) (p : ByteArray) (rev : Int) (h : XIn w F b X) (ha : X.servers[i]? = some s) (hs : (s.seen == 0) = false) (hb : pBadRev X rev = true) :
    Calls Tryz.prog 32 #[.pointer (some ⟨b, 0, none⟩), .int .i64 (i : Int), .string p, .int .i64 rev] w fun e w' => e = .returned (.tuple #[.string ⟨#[]⟩, .int .i64 0, .int .i64 15]) ∧ w' = w := by
  have HR := hid h
  have HA := hid ha
  have HE : Hid (readErr s = 0) := by show _ = _; unfold readErr; rw [hs]; rfl
  have c0 := xin_rev h
  have c1 := xin_floor h
  clear h hs ha
  cases h1 : decide (rev < X.floor)
  · have h2 : decide (X.rev < rev) = true := by simpa [pBadRev, h1] using hb
    clear hb
    go_enter Tryz.func32, Tryz.ntmps32
    go_wp2_with (go_at_call 72; refine (mayRead_any _ _ _ HR.out HA.out).mono ?_; rw [HE.out]; rintro e y1 ⟨rfl, hy⟩; obtain rfl := hy.symm)
    go_ret3
    exact ⟨rfl, rfl⟩
  · clear hb
    go_enter Tryz.func32, Tryz.ntmps32
    go_wp2_with (go_at_call 72; refine (mayRead_any _ _ _ HR.out HA.out).mono ?_; rw [HE.out]; rintro e y1 ⟨rfl, hy⟩; obtain rfl := hy.symm)
    go_ret3
    exact ⟨rfl, rfl⟩
set_option maxRecDepth 100000 in
theorem pGetAt_ok (w : World) (i : Nat) (s : PSrv) (p : ByteArray) (rev : Int) (h : XIn w F b X) (ha : X.servers[i]? = some s) (hs : (s.seen == 0) = false) (hb : pBadRev X rev = false) (A : ByteArray) (B C : Int)
    (hr : Calls Tryz.prog 73 #[.pointer (some ⟨b, 0, none⟩), .int .i64 (i : Int), .string p, .int .i64 rev] w fun e w' => e = .returned (.tuple #[.string A, .int .i64 B, .int .i64 C]) ∧ Low w.heap.size w w') :
    Calls Tryz.prog 32 #[.pointer (some ⟨b, 0, none⟩), .int .i64 (i : Int), .string p, .int .i64 rev] w fun e w' => e = .returned (.tuple #[.string A, .int .i64 B, .int .i64 C]) ∧ Low w.heap.size w w' := by
  have HR := hid h
  have HA := hid ha
  have HRD := hid hr
  have HE : Hid (readErr s = 0) := by show _ = _; unfold readErr; rw [hs]; rfl
  have c0 := xin_rev h
  have c1 := xin_floor h
  simp only [pBadRev, Bool.or_eq_false_iff] at hb
  have h1 := hb.1
  have h2 := hb.2
  clear h hs ha hr hb
  go_enter Tryz.func32, Tryz.ntmps32
  go_wp2_with (first | (go_at_call 72; refine (mayRead_any _ _ _ HR.out HA.out).mono ?_; rw [HE.out]; rintro e y1 ⟨rfl, hy⟩; obtain rfl := hy.symm) | (go_at_call 73; refine HRD.out.mono ?_; rintro e y2 ⟨rfl, l2⟩; have L2 := hid l2; clear l2))
  go_ret3
  exact ⟨rfl, L2.out⟩
end Go.Proofs.YtggbjffmclpmgaaGreatDoor
