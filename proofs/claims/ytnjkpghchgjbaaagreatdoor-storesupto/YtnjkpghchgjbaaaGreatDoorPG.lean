import Derived.Test.YtnjkpghchgjbaaaGreatDoorPDToPF
import Derived.Test.YtnjkpghchgjbaaaGreatDoorPBToLawE
namespace Go.Proofs.YtnjkpghchgjbaaaGreatDoor
open Go.RowKit

variable {F : Nat → Prop} {b : Nat} {X : PS}

set_option maxRecDepth 100000 in
set_option maxHeartbeats 1000000 in
theorem pBegin_srv (w : World) (s : Int) (o : AOp) (h : XIn w F b X) (hs : isSrv X.servers.length s = false) :
    Calls Tryz.prog 26 #[.pointer (some ⟨b, 0, none⟩), .int .i64 s, .agg #[.int .i64 o.kind, .string o.path, .string o.plain, .int .i64 o.rev]] w fun e w' => e = .returned (.int .i64 4) ∧ Low w.heap.size w w' := by
  have HR := hid h
  have HS := hid hs
  clear h hs
  go_enter Tryz.func26, Tryz.ntmps26
  go_wp2_with (go_at_call 59; refine (isServer_any _ _ (by exact HR.out.alloc _)).mono ?_; rw [HS.out]; rintro e y1 ⟨rfl, rfl⟩)
  go_ret
  exact ⟨rfl, (Low.refl _ w).alloc (Nat.le_refl _) _⟩
set_option maxRecDepth 100000 in
set_option maxHeartbeats 1000000 in
theorem pBegin_busy (w : World) (i : Nat) (s : PSrv) (o : AOp) (h : XIn w F b X) (ha : X.servers[i]? = some s) (hu : s.busy = true) :
    Calls Tryz.prog 26 #[.pointer (some ⟨b, 0, none⟩), .int .i64 (i : Int), .agg #[.int .i64 o.kind, .string o.path, .string o.plain, .int .i64 o.rev]] w fun e w' => e = .returned (.int .i64 5) ∧ Low w.heap.size w w' := by
  have HR := hid h
  have HA := hid ha
  have HS := hid (psrv ha).1
  have hb := h.lt
  obtain ⟨gS, capS, hcS, hgS, hcs, _⟩ := xin_srvAt h ha
  have s0 : w.cell? ⟨gS, i * 10, none⟩ = some (.int .i64 s.seen) := hcs 0 (by omega)
  have s1 : w.cell? ⟨gS, i * 10 + 1, none⟩ = some (.bool s.busy) := hcs 1 (by omega)
  have i1 := (psrv ha).2
  clear h hcs ha
  go_enter Tryz.func26, Tryz.ntmps26
  go_wp2_with (go_at_call 59; refine (isServer_any _ _ (by exact HR.out.alloc _)).mono ?_; rw [HS.out]; rintro e y1 ⟨rfl, rfl⟩)
  go_ret
  exact ⟨rfl, (Low.refl _ w).alloc (Nat.le_refl _) _⟩
set_option maxRecDepth 100000 in
set_option maxHeartbeats 1000000 in
theorem pBegin_blind (w : World) (i : Nat) (s : PSrv) (o : AOp) (h : XIn w F b X) (ha : X.servers[i]? = some s) (hu : s.busy = false) (hsn : (s.seen == 0) = true) :
    Calls Tryz.prog 26 #[.pointer (some ⟨b, 0, none⟩), .int .i64 (i : Int), .agg #[.int .i64 o.kind, .string o.path, .string o.plain, .int .i64 o.rev]] w fun e w' => e = .returned (.int .i64 6) ∧ Low w.heap.size w w' := by
  have HR := hid h
  have HA := hid ha
  have HS := hid (psrv ha).1
  have hb := h.lt
  obtain ⟨gS, capS, hcS, hgS, hcs, _⟩ := xin_srvAt h ha
  have s0 : w.cell? ⟨gS, i * 10, none⟩ = some (.int .i64 s.seen) := hcs 0 (by omega)
  have s1 : w.cell? ⟨gS, i * 10 + 1, none⟩ = some (.bool s.busy) := hcs 1 (by omega)
  have i1 := (psrv ha).2
  clear h hcs ha
  go_enter Tryz.func26, Tryz.ntmps26
  go_wp2_with (go_at_call 59; refine (isServer_any _ _ (by exact HR.out.alloc _)).mono ?_; rw [HS.out]; rintro e y1 ⟨rfl, rfl⟩)
  go_ret
  exact ⟨rfl, (Low.refl _ w).alloc (Nat.le_refl _) _⟩
set_option maxRecDepth 100000 in
set_option maxHeartbeats 1000000 in
theorem pBegin_op (w : World) (i : Nat) (s : PSrv) (o : AOp) (h : XIn w F b X) (ha : X.servers[i]? = some s) (hu : s.busy = false) (hsn : (s.seen == 0) = false) (hp : o.path.size ≤ maxLen) (hq : o.plain.size ≤ maxLen) (ho : properOf o = false) :
    Calls Tryz.prog 26 #[.pointer (some ⟨b, 0, none⟩), .int .i64 (i : Int), .agg #[.int .i64 o.kind, .string o.path, .string o.plain, .int .i64 o.rev]] w fun e w' => e = .returned (.int .i64 7) ∧ Low w.heap.size w w' := by
  have HR := hid h
  have HA := hid ha
  have HS := hid (psrv ha).1
  have hb := h.lt
  obtain ⟨gS, capS, hcS, hgS, hcs, _⟩ := xin_srvAt h ha
  have s0 : w.cell? ⟨gS, i * 10, none⟩ = some (.int .i64 s.seen) := hcs 0 (by omega)
  have s1 : w.cell? ⟨gS, i * 10 + 1, none⟩ = some (.bool s.busy) := hcs 1 (by omega)
  have i1 := (psrv ha).2
  clear h hcs ha
  have HP := hid hp
  have HQ := hid hq
  have HO := hid ho
  clear hp hq ho
  go_enter Tryz.func26, Tryz.ntmps26
  go_wp2_with (first | (go_at_call 59; refine (isServer_any _ _ (by exact HR.out.alloc _)).mono ?_; rw [HS.out]; rintro e y1 ⟨rfl, rfl⟩) | (go_at_call 61; refine (isOperation_any _ o HP.out HQ.out).mono ?_; rw [HO.out]; rintro e y1 ⟨rfl, l1⟩; have L1 := hid l1; clear l1))
  go_ret
  exact ⟨rfl, ((Low.refl _ w).alloc (Nat.le_refl _) _).trans (L1.out.mono (by simp))⟩
def PS.setSrv (X : PS) (i : Nat) (u : PSrv) : PS := { X with servers := X.servers.set i u }
set_option maxRecDepth 100000 in
set_option maxHeartbeats 1000000 in
theorem pBegin_del (w : World) (i : Nat) (s : PSrv) (o : AOp) (h : XIn w F b X) (ha : X.servers[i]? = some s) (hu : s.busy = false) (hsn : (s.seen == 0) = false) (hp : o.path.size ≤ maxLen) (hq : o.plain.size ≤ maxLen) (ho : properOf o = true) (hk : (o.kind == 2) = true) :
    Calls Tryz.prog 26 #[.pointer (some ⟨b, 0, none⟩), .int .i64 (i : Int), .agg #[.int .i64 o.kind, .string o.path, .string o.plain, .int .i64 o.rev]] w fun e w' => e = .returned (.int .i64 0) ∧ XIn w' F b ((X).setSrv i ⟨s.seen, true, s.seen, o.rev, delEnt o.path⟩) ∧ Kept F w w' := by
  have HR := hid h
  have HA := hid ha
  have HS := hid (psrv ha).1
  have hb := h.lt
  obtain ⟨gS, capS, hcS, hgS, hcs, _⟩ := xin_srvAt h ha
  have s0 : w.cell? ⟨gS, i * 10, none⟩ = some (.int .i64 s.seen) := hcs 0 (by omega)
  have s1 : w.cell? ⟨gS, i * 10 + 1, none⟩ = some (.bool s.busy) := hcs 1 (by omega)
  have i1 := (psrv ha).2
  clear h hcs ha
  have HP := hid hp
  have HQ := hid hq
  have HO := hid ho
  clear hp hq ho
  obtain ⟨E, hE⟩ : ∃ E, E = delEnt o.path := ⟨_, rfl⟩
  have HE := hid hE
  clear hE
  go_enter Tryz.func26, Tryz.ntmps26
  go_upto_region 13 with (first | (go_at_call 59; refine (isServer_any _ _ (by exact HR.out.alloc _)).mono ?_; rw [HS.out]; rintro e y1 ⟨rfl, rfl⟩) | (go_at_call 61; refine (isOperation_any _ o HP.out HQ.out).mono ?_; rw [HO.out]; rintro e y1 ⟨rfl, l1⟩; have L1 : Hid (Low w.heap.size w y1) := ((Low.refl _ w).alloc (Nat.le_refl _) _).trans (l1.mono (by simp)); have b75 : Blk y1 w.heap.size 75 o.cells := (Blk.new w 75 o.cells).low l1 (by simp); have n0 : y1.cell? ⟨w.heap.size, 0, none⟩ = some (.int .i64 o.kind) := b75.cell 0; have n1 : y1.cell? ⟨w.heap.size, 1, none⟩ = some (.string o.path) := b75.cell 1; have n2 : y1.cell? ⟨w.heap.size, 2, none⟩ = some (.string o.plain) := b75.cell 2; have n3 : y1.cell? ⟨w.heap.size, 3, none⟩ = some (.int .i64 o.rev) := b75.cell 3; have B75 := hid b75; have X1 : Hid (XIn y1 F b X) := HR.out.low L1.out; clear l1 b75) | (go_at_call 62; refine (prepared_del (b := b) _ _ o hk).mono ?_; rw [← HE.out]; rintro e y2 ⟨rfl, l2⟩; have X2 : Hid (XIn y2 F b X) := X1.out.low l2; have K2 : Hid (Kept F w y2) := (L1.out.trans (l2.mono L1.out.size)).kept.mono (fun _ _ f => f.elim); have B2 : Hid (Blk y2 w.heap.size 75 o.cells) := B75.out.low l2 B75.out.lt; clear l2) | ((with_reducible refine st50 (.tmp 8) (.tmp 41) y2.heap.size Ent.zero E ?_ ?_ ?_ ?_); rfl; rfl; exact (Blk.new y2 50 Ent.zero.cells); intro W b3 k3 t3; have BM := hid b3; have X3 : Hid (XIn W F b (X)) := (X2.out.alloc _).kept k3 (fun q hq e => by have := X2.out.below q hq; omega); have KW : Hid (Kept F w W) := (K2.out.trans ((Low.refl _ y2).alloc (Nat.le_refl _) _).kept (H := F) (fun _ f => f) (fun _ _ f => f.elim)).trans k3 (fun _ f => f) (fun q hq e => by have := K2.out.size; omega); have BW : Hid (Blk W w.heap.size 75 o.cells) := (B2.out.alloc _).kept k3 (by have := B2.out.lt; omega); clear b3 k3 t3))
  have w3 : W.cell? ⟨w.heap.size, 3, none⟩ = some (.int .i64 o.rev) := BW.out.cell 3
  have e0 : W.cell? ⟨y2.heap.size, 0, none⟩ = some (.string E.path) := BM.out.cell 0
  have e1 : W.cell? ⟨y2.heap.size, 1, none⟩ = some (.int .i64 E.rev) := BM.out.cell 1
  have e2 : W.cell? ⟨y2.heap.size, 2, none⟩ = some (.int .i64 E.key) := BM.out.cell 2
  have e3 : W.cell? ⟨y2.heap.size, 3, none⟩ = some (.int .i64 E.draw) := BM.out.cell 3
  have e4 : W.cell? ⟨y2.heap.size, 4, none⟩ = some (.string E.sealed) := BM.out.cell 4
  have e5 : W.cell? ⟨y2.heap.size, 5, none⟩ = some (.bool E.gone) := BM.out.cell 5
  clear hb hcS hgS s0 s1 n0 n1 n2 n3
  go_upto_region 14 with fail
  go_name_world V hV
  have XV : Hid (XIn V F b (X)) := by
    show XIn V F b _
    rw [← hV]; exact X3.out.alloc _
  have KV : Hid (Kept F w V) := by
    show Kept F w V
    rw [← hV]; exact KW.out.trans ((Low.refl _ W).alloc (Nat.le_refl _) _).kept (fun _ f => f) (fun _ _ f => f.elim)
  have BV : Hid (Blk V W.heap.size 94 [.int .i64 s.seen, .int .i64 o.rev, .string E.path, .int .i64 E.rev, .int .i64 E.key, .int .i64 E.draw, .string E.sealed, .bool E.gone]) := by
    show Blk V _ _ _
    rw [← hV]; exact Blk.new W 94 [.int .i64 s.seen, .int .i64 o.rev, .string E.path, .int .i64 E.rev, .int .i64 E.key, .int .i64 E.draw, .string E.sealed, .bool E.gone]
  obtain ⟨g2, cap2, hc2, hg2, _, _⟩ := xin_srvAt XV.out (show (X).servers[i]? = some s from HA.out)
  have hc2 : V.cell? ⟨b, 8, none⟩ = some (.slice (some ⟨g2, 0, none⟩) X.servers.length cap2) := hc2
  obtain ⟨r1, r2, r3⟩ := xin_putSrv XV.out hc2 i (List.getElem?_eq_some_iff.1 HA.out).1 ⟨s.seen, true, s.seen, o.rev, E⟩
  have R1 := hid r1
  have R2 := hid r2
  have R3 := hid r3
  have v0 : V.cell? ⟨W.heap.size, 0, none⟩ = some (.int .i64 s.seen) := BV.out.cell 0
  have v1 : V.cell? ⟨W.heap.size, 1, none⟩ = some (.int .i64 o.rev) := BV.out.cell 1
  have v2 : V.cell? ⟨W.heap.size, 2, none⟩ = some (.string E.path) := BV.out.cell 2
  have v3 : V.cell? ⟨W.heap.size, 3, none⟩ = some (.int .i64 E.rev) := BV.out.cell 3
  have v4 : V.cell? ⟨W.heap.size, 4, none⟩ = some (.int .i64 E.key) := BV.out.cell 4
  have v5 : V.cell? ⟨W.heap.size, 5, none⟩ = some (.int .i64 E.draw) := BV.out.cell 5
  have v6 : V.cell? ⟨W.heap.size, 6, none⟩ = some (.string E.sealed) := BV.out.cell 6
  have v7 : V.cell? ⟨W.heap.size, 7, none⟩ = some (.bool E.gone) := BV.out.cell 7
  clear r1 r2 r3 hV w3 e0 e1 e2 e3 e4 e5
  refine wp_region_still_tail 9 (by kernel_rfl) (by kernel_rfl) ?_
  (try (change wpStill _ _ (World.drew _) _ _ _))
  simp only [List.take_succ_cons, List.take_zero, List.drop_succ_cons, List.drop_zero]
  repeat still_step
  refine wpStill_nil ?_
  (try (change wpList _ _ _ _ _ (World.drew _)))
  go_wp2_with ((with_reducible refine st96 (.tmp 59) (.tmp 58) g2 (i * 10) ⟨s.seen, true, s.seen, o.rev, E⟩ ?_ ?_ ?_ ?_); rfl; rfl; (exact there_drew R3.out); rw [setCells_drew])
  go_ret
  rw [← HE.out]
  exact ⟨rfl, R1.out.drew, (KV.out.trans R2.out (H := F) (fun _ f => f) (fun _ _ f => f)).drew⟩
set_option maxRecDepth 100000 in
set_option maxHeartbeats 1000000 in
theorem pBegin_put (w : World) (i : Nat) (s : PSrv) (o : AOp) (K : PKey) (ki : Nat) (h : XIn w F b X) (ha : X.servers[i]? = some s) (hu : s.busy = false) (hsn : (s.seen == 0) = false) (hp : o.path.size ≤ maxLen) (hq : o.plain.size ≤ maxLen) (ho : properOf o = true) (hk2 : (o.kind == 1) = true) (hw : writerOf X.keys s.seen = (ki : Int) + 1) (hk : X.keys[ki]? = some K) (hl : X.keys.length ≤ 6) (hK : K.text.size = 48) (hd : 0 ≤ X.draws ∧ X.draws + 1 ≤ 1000000000000) (hF : Fours w) (h1 : 1 ≤ w.heap.size) :
    Calls Tryz.prog 26 #[.pointer (some ⟨b, 0, none⟩), .int .i64 (i : Int), .agg #[.int .i64 o.kind, .string o.path, .string o.plain, .int .i64 o.rev]] w fun e w' => e = .returned (.int .i64 0) ∧ XIn w' F b (({ X with draws := X.draws + 1 }).setSrv i ⟨s.seen, true, s.seen, o.rev, closedOf K.text ((ki : Int) + 1) o.path o.plain (X.draws + 1)⟩) ∧ Kept F w w' := by
  have gd : Hid ((1 ≤ o.path.size ∧ o.path.size ≤ 16) ∧ o.plain.size ≤ 64) := by
    have q := ho
    have k1 := beq_iff_eq.1 hk2
    simp only [properOf, isPath, Bool.and_eq_true, Bool.or_eq_true, decide_eq_true_eq, beq_iff_eq, k1] at q
    show _ ∧ _
    omega
  have hk3 : (o.kind == 2) = false := beq_eq_false_iff_ne.2 (by have := beq_iff_eq.1 hk2; omega)
  have HR := hid h
  have HA := hid ha
  have HS := hid (psrv ha).1
  have hb := h.lt
  obtain ⟨gS, capS, hcS, hgS, hcs, _⟩ := xin_srvAt h ha
  have s0 : w.cell? ⟨gS, i * 10, none⟩ = some (.int .i64 s.seen) := hcs 0 (by omega)
  have s1 : w.cell? ⟨gS, i * 10 + 1, none⟩ = some (.bool s.busy) := hcs 1 (by omega)
  have i1 := (psrv ha).2
  clear h hcs ha
  have HP := hid hp
  have HQ := hid hq
  have HO := hid ho
  clear hp hq ho
  have HW := hid hw
  have HKK := hid hk
  have HT := hid hK
  have HDD := hid hd
  have HF := hid hF
  clear hw hk hK hd hF
  obtain ⟨E, hE⟩ : ∃ E, E = closedOf K.text ((ki : Int) + 1) o.path o.plain (X.draws + 1) := ⟨_, rfl⟩
  have HE := hid hE
  clear hE
  go_enter Tryz.func26, Tryz.ntmps26
  go_upto_region 13 with (first | (go_at_call 59; refine (isServer_any _ _ (by exact HR.out.alloc _)).mono ?_; rw [HS.out]; rintro e y1 ⟨rfl, rfl⟩) | (go_at_call 61; refine (isOperation_any _ o HP.out HQ.out).mono ?_; rw [HO.out]; rintro e y1 ⟨rfl, l1⟩; have L1 : Hid (Low w.heap.size w y1) := ((Low.refl _ w).alloc (Nat.le_refl _) _).trans (l1.mono (by simp)); have b75 : Blk y1 w.heap.size 75 o.cells := (Blk.new w 75 o.cells).low l1 (by simp); have n0 : y1.cell? ⟨w.heap.size, 0, none⟩ = some (.int .i64 o.kind) := b75.cell 0; have n1 : y1.cell? ⟨w.heap.size, 1, none⟩ = some (.string o.path) := b75.cell 1; have n2 : y1.cell? ⟨w.heap.size, 2, none⟩ = some (.string o.plain) := b75.cell 2; have n3 : y1.cell? ⟨w.heap.size, 3, none⟩ = some (.int .i64 o.rev) := b75.cell 3; have B75 := hid b75; have X1 : Hid (XIn y1 F b X) := HR.out.low L1.out; clear l1 b75) | (go_at_call 62; refine (prepared_put _ _ o K ki hk3 X1.out HW.out HKK.out hl HT.out gd.out.1 gd.out.2 HDD.out (fours_low HF.out h1 L1.out) (Nat.le_trans h1 L1.out.size)).mono ?_; rw [← HE.out]; rintro e y2 ⟨rfl, r2, k2⟩; have X2 := hid r2; have K2 : Hid (Kept F w y2) := L1.out.kept.trans k2 (fun _ f => f.elim) (fun _ _ f => f); have B2 : Hid (Blk y2 w.heap.size 75 o.cells) := B75.out.kept k2 (fun f => by have := HR.out.below _ f; omega); clear r2 k2) | ((with_reducible refine st50 (.tmp 8) (.tmp 41) y2.heap.size Ent.zero E ?_ ?_ ?_ ?_); rfl; rfl; exact (Blk.new y2 50 Ent.zero.cells); intro W b3 k3 t3; have BM := hid b3; have X3 : Hid (XIn W F b ({ X with draws := X.draws + 1 })) := (X2.out.alloc _).kept k3 (fun q hq e => by have := X2.out.below q hq; omega); have KW : Hid (Kept F w W) := (K2.out.trans ((Low.refl _ y2).alloc (Nat.le_refl _) _).kept (H := F) (fun _ f => f) (fun _ _ f => f.elim)).trans k3 (fun _ f => f) (fun q hq e => by have := K2.out.size; omega); have BW : Hid (Blk W w.heap.size 75 o.cells) := (B2.out.alloc _).kept k3 (by have := B2.out.lt; omega); clear b3 k3 t3))
  have w3 : W.cell? ⟨w.heap.size, 3, none⟩ = some (.int .i64 o.rev) := BW.out.cell 3
  have e0 : W.cell? ⟨y2.heap.size, 0, none⟩ = some (.string E.path) := BM.out.cell 0
  have e1 : W.cell? ⟨y2.heap.size, 1, none⟩ = some (.int .i64 E.rev) := BM.out.cell 1
  have e2 : W.cell? ⟨y2.heap.size, 2, none⟩ = some (.int .i64 E.key) := BM.out.cell 2
  have e3 : W.cell? ⟨y2.heap.size, 3, none⟩ = some (.int .i64 E.draw) := BM.out.cell 3
  have e4 : W.cell? ⟨y2.heap.size, 4, none⟩ = some (.string E.sealed) := BM.out.cell 4
  have e5 : W.cell? ⟨y2.heap.size, 5, none⟩ = some (.bool E.gone) := BM.out.cell 5
  clear hb hcS hgS s0 s1 n0 n1 n2 n3
  go_upto_region 14 with fail
  go_name_world V hV
  have XV : Hid (XIn V F b ({ X with draws := X.draws + 1 })) := by
    show XIn V F b _
    rw [← hV]; exact X3.out.alloc _
  have KV : Hid (Kept F w V) := by
    show Kept F w V
    rw [← hV]; exact KW.out.trans ((Low.refl _ W).alloc (Nat.le_refl _) _).kept (fun _ f => f) (fun _ _ f => f.elim)
  have BV : Hid (Blk V W.heap.size 94 [.int .i64 s.seen, .int .i64 o.rev, .string E.path, .int .i64 E.rev, .int .i64 E.key, .int .i64 E.draw, .string E.sealed, .bool E.gone]) := by
    show Blk V _ _ _
    rw [← hV]; exact Blk.new W 94 [.int .i64 s.seen, .int .i64 o.rev, .string E.path, .int .i64 E.rev, .int .i64 E.key, .int .i64 E.draw, .string E.sealed, .bool E.gone]
  obtain ⟨g2, cap2, hc2, hg2, _, _⟩ := xin_srvAt XV.out (show ({ X with draws := X.draws + 1 }).servers[i]? = some s from HA.out)
  have hc2 : V.cell? ⟨b, 8, none⟩ = some (.slice (some ⟨g2, 0, none⟩) X.servers.length cap2) := hc2
  obtain ⟨r1, r2, r3⟩ := xin_putSrv XV.out hc2 i (List.getElem?_eq_some_iff.1 HA.out).1 ⟨s.seen, true, s.seen, o.rev, E⟩
  have R1 := hid r1
  have R2 := hid r2
  have R3 := hid r3
  have v0 : V.cell? ⟨W.heap.size, 0, none⟩ = some (.int .i64 s.seen) := BV.out.cell 0
  have v1 : V.cell? ⟨W.heap.size, 1, none⟩ = some (.int .i64 o.rev) := BV.out.cell 1
  have v2 : V.cell? ⟨W.heap.size, 2, none⟩ = some (.string E.path) := BV.out.cell 2
  have v3 : V.cell? ⟨W.heap.size, 3, none⟩ = some (.int .i64 E.rev) := BV.out.cell 3
  have v4 : V.cell? ⟨W.heap.size, 4, none⟩ = some (.int .i64 E.key) := BV.out.cell 4
  have v5 : V.cell? ⟨W.heap.size, 5, none⟩ = some (.int .i64 E.draw) := BV.out.cell 5
  have v6 : V.cell? ⟨W.heap.size, 6, none⟩ = some (.string E.sealed) := BV.out.cell 6
  have v7 : V.cell? ⟨W.heap.size, 7, none⟩ = some (.bool E.gone) := BV.out.cell 7
  clear r1 r2 r3 hV w3 e0 e1 e2 e3 e4 e5
  refine wp_region_still_tail 9 (by kernel_rfl) (by kernel_rfl) ?_
  (try (change wpStill _ _ (World.drew _) _ _ _))
  simp only [List.take_succ_cons, List.take_zero, List.drop_succ_cons, List.drop_zero]
  repeat still_step
  refine wpStill_nil ?_
  (try (change wpList _ _ _ _ _ (World.drew _)))
  go_wp2_with ((with_reducible refine st96 (.tmp 59) (.tmp 58) g2 (i * 10) ⟨s.seen, true, s.seen, o.rev, E⟩ ?_ ?_ ?_ ?_); rfl; rfl; (exact there_drew R3.out); rw [setCells_drew])
  go_ret
  rw [← HE.out]
  exact ⟨rfl, R1.out.drew, (KV.out.trans R2.out (H := F) (fun _ f => f) (fun _ _ f => f)).drew⟩
end Go.Proofs.YtnjkpghchgjbaaaGreatDoor
