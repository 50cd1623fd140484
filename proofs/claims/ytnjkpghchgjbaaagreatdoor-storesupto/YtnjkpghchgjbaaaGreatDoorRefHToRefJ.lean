import Derived.Test.YtnjkpghchgjbaaaGreatDoorRefEToRefG
namespace Go.Proofs.YtnjkpghchgjbaaaGreatDoor
open Go.RowKit

variable {F : Nat → Prop} {b : Nat} {Y : RS}

/-- A server's place in the lists. -/
structure At (Y : RS) (i : Nat) (sn : Int) (u : RUnd) : Prop where
  seen : Y.seen[i]? = some sn
  op : Y.ops[i]? = some u
theorem RIn.seenAt {w : World} {i : Nat} {sn : Int} {u : RUnd} (h : RIn w F b Y) (ha : At Y i sn u) : ∃ g cap, w.cell? ⟨b, 5, none⟩ = some (.slice (some ⟨g, 0, none⟩) Y.seen.length cap) ∧ g < w.heap.size ∧ w.cell? ⟨g, i, none⟩ = some (.int .i64 sn) := by
  obtain ⟨a, cap, hc, hel⟩ := h.seen
  rw [List.length_map] at hc
  obtain ⟨g, rfl, hg, hcs, _⟩ := hel i (one sn) (by rw [List.getElem?_map, ha.seen]; rfl)
  exact ⟨g, cap, hc, hg, by have := hcs 0 (by omega); simpa [one] using this⟩
theorem RIn.opAt {w : World} {i : Nat} {sn : Int} {u : RUnd} (h : RIn w F b Y) (ha : At Y i sn u) : ∃ g cap, w.cell? ⟨b, 6, none⟩ = some (.slice (some ⟨g, 0, none⟩) Y.ops.length cap) ∧ g < w.heap.size ∧ (∀ j, j < 9 → w.cell? ⟨g, i * 9 + j, none⟩ = u.cells[j]?) := by
  obtain ⟨a, cap, hc, hel⟩ := h.ops
  rw [List.length_map] at hc
  obtain ⟨g, rfl, hg, hcs, _⟩ := hel i u.cells (by rw [List.getElem?_map, ha.op]; rfl)
  exact ⟨g, cap, hc, hg, hcs⟩
theorem RIn.keyAt {w : World} {i : Nat} {K : RKey} (h : RIn w F b Y) (hk : Y.keys[i]? = some K) : ∃ g cap, w.cell? ⟨b, 4, none⟩ = some (.slice (some ⟨g, 0, none⟩) Y.keys.length cap) ∧ g < w.heap.size ∧ (∀ j, j < 4 → w.cell? ⟨g, i * 4 + j, none⟩ = K.cells[j]?) := by
  obtain ⟨a, cap, hc, hel⟩ := h.keys
  rw [List.length_map] at hc
  obtain ⟨g, rfl, hg, hcs, _⟩ := hel i K.cells (by rw [List.getElem?_map, hk]; rfl)
  exact ⟨g, cap, hc, hg, hcs⟩
theorem At.len {i : Nat} {sn : Int} {u : RUnd} (ha : At Y i sn u) : i < Y.seen.length ∧ i < Y.ops.length :=
  ⟨(List.getElem?_eq_some_iff.1 ha.seen).1, (List.getElem?_eq_some_iff.1 ha.op).1⟩
theorem At.srv {i : Nat} {sn : Int} {u : RUnd} (ha : At Y i sn u) : isSrv Y.seen.length (i : Int) = true := by
  have := ha.len.1
  rw [isSrv_iff]; omega
set_option maxRecDepth 100000 in
set_option maxHeartbeats 1000000 in
theorem Begin_srv (w : World) (s : Int) (o : AOp) (h : RIn w F b Y) (hs : isSrv Y.seen.length s = false) :
    Calls Tryz.prog 27 #[.pointer (some ⟨b, 0, none⟩), .int .i64 s, .agg #[.int .i64 o.kind, .string o.path, .string o.plain, .int .i64 o.rev]] w fun e w' => e = .returned (.int .i64 4) ∧ Low w.heap.size w w' := by
  have HR := hid h
  have HS := hid hs
  clear h hs
  go_enter Tryz.func27, Tryz.ntmps27
  go_wp2_with (go_at_call 60; refine (server_any _ _ (by exact HR.out.alloc _)).mono ?_; rw [HS.out]; rintro e y1 ⟨rfl, rfl⟩)
  go_ret
  exact ⟨rfl, (Low.refl _ w).alloc (Nat.le_refl _) _⟩
set_option maxRecDepth 100000 in
set_option maxHeartbeats 1000000 in
theorem Begin_busy (w : World) (i : Nat) (sn : Int) (u : RUnd) (o : AOp) (h : RIn w F b Y) (ha : At Y i sn u) (hu : u.on = true) :
    Calls Tryz.prog 27 #[.pointer (some ⟨b, 0, none⟩), .int .i64 i, .agg #[.int .i64 o.kind, .string o.path, .string o.plain, .int .i64 o.rev]] w fun e w' => e = .returned (.int .i64 5) ∧ Low w.heap.size w w' := by
  have HR := hid h
  have HA := hid ha
  have HS := hid ha.srv
  have hb := h.lt
  obtain ⟨gO, capO, hcO, hgO, hcs⟩ := h.opAt ha
  have o0 : w.cell? ⟨gO, i * 9, none⟩ = some (.bool u.on) := hcs 0 (by omega)
  obtain ⟨gS, capS, hcS, hgS, s0⟩ := h.seenAt ha
  have i1 : (i : Int) < (Y.ops.length : Int) := by have := ha.len.2; omega
  have i2 : (i : Int) < (Y.seen.length : Int) := by have := ha.len.1; omega
  clear h hcs ha
  go_enter Tryz.func27, Tryz.ntmps27
  go_wp2_with (go_at_call 60; refine (server_any _ _ (by exact HR.out.alloc _)).mono ?_; rw [HS.out]; rintro e y1 ⟨rfl, rfl⟩)
  go_ret
  exact ⟨rfl, (Low.refl _ w).alloc (Nat.le_refl _) _⟩
set_option maxRecDepth 100000 in
set_option maxHeartbeats 1000000 in
theorem Begin_blind (w : World) (i : Nat) (sn : Int) (u : RUnd) (o : AOp) (h : RIn w F b Y) (ha : At Y i sn u) (hu : u.on = false) (hsn : (sn == 0) = true) :
    Calls Tryz.prog 27 #[.pointer (some ⟨b, 0, none⟩), .int .i64 i, .agg #[.int .i64 o.kind, .string o.path, .string o.plain, .int .i64 o.rev]] w fun e w' => e = .returned (.int .i64 6) ∧ Low w.heap.size w w' := by
  have HR := hid h
  have HA := hid ha
  have HS := hid ha.srv
  have hb := h.lt
  obtain ⟨gO, capO, hcO, hgO, hcs⟩ := h.opAt ha
  have o0 : w.cell? ⟨gO, i * 9, none⟩ = some (.bool u.on) := hcs 0 (by omega)
  obtain ⟨gS, capS, hcS, hgS, s0⟩ := h.seenAt ha
  have i1 : (i : Int) < (Y.ops.length : Int) := by have := ha.len.2; omega
  have i2 : (i : Int) < (Y.seen.length : Int) := by have := ha.len.1; omega
  clear h hcs ha
  go_enter Tryz.func27, Tryz.ntmps27
  go_wp2_with (go_at_call 60; refine (server_any _ _ (by exact HR.out.alloc _)).mono ?_; rw [HS.out]; rintro e y1 ⟨rfl, rfl⟩)
  go_ret
  exact ⟨rfl, (Low.refl _ w).alloc (Nat.le_refl _) _⟩
set_option maxRecDepth 100000 in
set_option maxHeartbeats 1000000 in
theorem Begin_op (w : World) (i : Nat) (sn : Int) (u : RUnd) (o : AOp) (h : RIn w F b Y) (ha : At Y i sn u) (hu : u.on = false) (hsn : (sn == 0) = false) (hp : o.path.size ≤ maxLen) (hq : o.plain.size ≤ maxLen) (ho : properOf o = false) :
    Calls Tryz.prog 27 #[.pointer (some ⟨b, 0, none⟩), .int .i64 i, .agg #[.int .i64 o.kind, .string o.path, .string o.plain, .int .i64 o.rev]] w fun e w' => e = .returned (.int .i64 7) ∧ Low w.heap.size w w' := by
  have HR := hid h
  have HA := hid ha
  have HS := hid ha.srv
  have hb := h.lt
  obtain ⟨gO, capO, hcO, hgO, hcs⟩ := h.opAt ha
  have o0 : w.cell? ⟨gO, i * 9, none⟩ = some (.bool u.on) := hcs 0 (by omega)
  obtain ⟨gS, capS, hcS, hgS, s0⟩ := h.seenAt ha
  have i1 : (i : Int) < (Y.ops.length : Int) := by have := ha.len.2; omega
  have i2 : (i : Int) < (Y.seen.length : Int) := by have := ha.len.1; omega
  clear h hcs ha
  have HP := hid hp
  have HQ := hid hq
  have HO := hid ho
  clear hp hq ho
  go_enter Tryz.func27, Tryz.ntmps27
  go_wp2_with (first | (go_at_call 60; refine (server_any _ _ (by exact HR.out.alloc _)).mono ?_; rw [HS.out]; rintro e y1 ⟨rfl, rfl⟩) | (go_at_call 63; refine (proper_any _ o HP.out HQ.out).mono ?_; rw [HO.out]; rintro e y1 ⟨rfl, l1⟩; have L1 := hid l1; clear l1))
  go_ret
  exact ⟨rfl, ((Low.refl _ w).alloc (Nat.le_refl _) _).trans (L1.out.mono (by simp))⟩
end Go.Proofs.YtnjkpghchgjbaaaGreatDoor
namespace Go.Proofs.YtnjkpghchgjbaaaGreatDoor
open Go.RowKit

variable {F : Nat → Prop} {b : Nat} {Y : RS}

theorem setCells_drew (b : Nat) : ∀ (vs : List Value) (o : Nat) (w : World), w.drew.setCells b o vs = (w.setCells b o vs).drew
  | [], _, _ => rfl
  | v :: r, o, w => setCells_drew b r (o + 1) (w.setCell ⟨b, o, none⟩ v)
theorem there_drew {w : World} {b o n : Nat} (h : w.there b o n) : w.drew.there b o n := (World.there_drew w b o n).2 h
def delEnt (path : ByteArray) : Ent := ⟨path, 0, 0, 0, ⟨#[]⟩, true⟩
def RS.setOp (Y : RS) (i : Nat) (u : RUnd) : RS := { Y with ops := Y.ops.set i u }
set_option maxRecDepth 100000 in
set_option maxHeartbeats 1000000 in
theorem Begin_del (w : World) (i : Nat) (sn : Int) (u : RUnd) (o : AOp) (h : RIn w F b Y) (ha : At Y i sn u) (hu : u.on = false) (hsn : (sn == 0) = false) (hp : o.path.size ≤ maxLen) (hq : o.plain.size ≤ maxLen) (ho : properOf o = true) (hk : (o.kind == 1) = false) :
    Calls Tryz.prog 27 #[.pointer (some ⟨b, 0, none⟩), .int .i64 i, .agg #[.int .i64 o.kind, .string o.path, .string o.plain, .int .i64 o.rev]] w fun e w' => e = .returned (.int .i64 0) ∧ RIn w' F b (Y.setOp i ⟨true, delEnt o.path, sn, o.rev⟩) ∧ Kept F w w' := by
  have HR := hid h
  have HA := hid ha
  have HS := hid ha.srv
  have hb := h.lt
  obtain ⟨gO, capO, hcO, hgO, hcs⟩ := h.opAt ha
  have o0 : w.cell? ⟨gO, i * 9, none⟩ = some (.bool u.on) := hcs 0 (by omega)
  obtain ⟨gS, capS, hcS, hgS, s0⟩ := h.seenAt ha
  have i1 : (i : Int) < (Y.ops.length : Int) := by have := ha.len.2; omega
  have i2 : (i : Int) < (Y.seen.length : Int) := by have := ha.len.1; omega
  clear h hcs ha
  have HP := hid hp
  have HQ := hid hq
  have HO := hid ho
  clear hp hq ho
  go_enter Tryz.func27, Tryz.ntmps27
  go_upto_region 17 with (first | (go_at_call 60; refine (server_any _ _ (by exact HR.out.alloc _)).mono ?_; rw [HS.out]; rintro e y1 ⟨rfl, rfl⟩) | (go_at_call 63; refine (proper_any _ o HP.out HQ.out).mono ?_; rw [HO.out]; rintro e y1 ⟨rfl, l1⟩; have L1 := hid l1; have b75 : Blk y1 w.heap.size 75 o.cells := (Blk.new w 75 o.cells).low l1 (by simp); have n0 : y1.cell? ⟨w.heap.size, 0, none⟩ = some (.int .i64 o.kind) := b75.cell 0; have n1 : y1.cell? ⟨w.heap.size, 1, none⟩ = some (.string o.path) := b75.cell 1; have hny : w.heap.size < y1.heap.size := b75.lt; have B75 := hid b75; clear l1 b75))
  go_name_world W hW
  have hRW : RIn W F b Y := by rw [← hW]; exact ((HR.out.alloc _).low L1.out).alloc _
  have hBM : Blk W y1.heap.size 50 (delEnt o.path).cells := by rw [← hW]; exact Blk.new y1 50 (delEnt o.path).cells
  have hBN : Blk W w.heap.size 75 o.cells := by rw [← hW]; exact B75.out.alloc _
  have hLW : Low w.heap.size w W := by rw [← hW]; exact (((Low.refl _ w).alloc (Nat.le_refl _) _).trans (L1.out.mono (by simp))).alloc (by have := B75.out.lt; omega) _
  have RW := hid hRW
  have HBM := hid hBM
  have HBN := hid hBN
  have LW := hid hLW
  have HA2 := HA
  clear hRW hBM hBN hLW hW hb hcO hgO o0 hcS hgS s0 n0 n1
  obtain ⟨gO2, capO2, hcO2, hgO2, _⟩ := RIn.opAt RW.out HA2.out
  obtain ⟨gS2, capS2, hcS2, hgS2, s02⟩ := RIn.seenAt RW.out HA2.out
  obtain ⟨r1, r2, r3⟩ := RIn.putOp RW.out hcO2 i HA2.out.len.2 ⟨true, delEnt o.path, sn, o.rev⟩
  have R1 := hid r1
  have R2 := hid r2
  have R3 := hid r3
  have e0 : W.cell? ⟨y1.heap.size, 0, none⟩ = some (.string (delEnt o.path).path) := HBM.out.cell 0
  have e1 : W.cell? ⟨y1.heap.size, 1, none⟩ = some (.int .i64 (delEnt o.path).rev) := HBM.out.cell 1
  have e2 : W.cell? ⟨y1.heap.size, 2, none⟩ = some (.int .i64 (delEnt o.path).key) := HBM.out.cell 2
  have e3 : W.cell? ⟨y1.heap.size, 3, none⟩ = some (.int .i64 (delEnt o.path).draw) := HBM.out.cell 3
  have e4 : W.cell? ⟨y1.heap.size, 4, none⟩ = some (.string (delEnt o.path).sealed) := HBM.out.cell 4
  have e5 : W.cell? ⟨y1.heap.size, 5, none⟩ = some (.bool (delEnt o.path).gone) := HBM.out.cell 5
  have n3 : W.cell? ⟨w.heap.size, 3, none⟩ = some (.int .i64 o.rev) := HBN.out.cell 3
  clear r1 r2 r3
  refine wp_region_still_tail 17 (by kernel_rfl) (by kernel_rfl) ?_
  (try (change wpStill _ _ (World.drew _) _ _ _))
  simp only [List.take_succ_cons, List.take_zero, List.drop_succ_cons, List.drop_zero]
  repeat still_step
  refine wpStill_nil ?_
  (try (change wpList _ _ _ _ _ (World.drew _)))
  go_wp2_with ((with_reducible refine st72 (.tmp 82) (.tmp 81) gO2 (i * 9) ⟨true, delEnt o.path, sn, o.rev⟩ ?_ ?_ ?_ ?_); rfl; rfl; (exact there_drew R3.out); rw [setCells_drew])
  go_ret
  exact ⟨rfl, R1.out.drew, (LW.out.kept.trans R2.out (H := F) (fun _ f => f.elim) (fun _ _ f => f)).drew⟩
set_option maxRecDepth 100000 in
set_option maxHeartbeats 1000000 in
theorem Begin_gone (w : World) (i : Nat) (sn : Int) (u : RUnd) (o : AOp) (K : RKey) (ki : Nat) (h : RIn w F b Y) (ha : At Y i sn u) (hu : u.on = false) (hsn : (sn == 0) = false) (hp : o.path.size ≤ maxLen) (hq : o.plain.size ≤ maxLen) (ho : properOf o = true) (hk : (o.kind == 1) = true)
    (hk6 : Y.keys.length ≤ 6) (hw : writesOf Y.keys sn = (ki : Int) + 1) (hK : Y.keys[ki]? = some K) (hg : K.gone = true) :
    Calls Tryz.prog 27 #[.pointer (some ⟨b, 0, none⟩), .int .i64 i, .agg #[.int .i64 o.kind, .string o.path, .string o.plain, .int .i64 o.rev]] w fun e w' => e = .returned (.int .i64 14) ∧ Low w.heap.size w w' := by
  have HR := hid h
  have HA := hid ha
  have HS := hid ha.srv
  have hb := h.lt
  obtain ⟨gO, capO, hcO, hgO, hcs⟩ := h.opAt ha
  have o0 : w.cell? ⟨gO, i * 9, none⟩ = some (.bool u.on) := hcs 0 (by omega)
  obtain ⟨gS, capS, hcS, hgS, s0⟩ := h.seenAt ha
  have i1 : (i : Int) < (Y.ops.length : Int) := by have := ha.len.2; omega
  have i2 : (i : Int) < (Y.seen.length : Int) := by have := ha.len.1; omega
  clear h hcs ha
  have HP := hid hp
  have HQ := hid hq
  have HO := hid ho
  clear hp hq ho
  have HW := hid hw
  have HK := hid hK
  have kl : (ki : Int) < (Y.keys.length : Int) := by have := (List.getElem?_eq_some_iff.1 hK).1; omega
  have kz : (ki : Int) + 1 - 1 = (ki : Int) := by omega
  clear hw hK
  go_enter Tryz.func27, Tryz.ntmps27
  go_wp2_with (first | (go_at_call 60; refine (server_any _ _ (by exact HR.out.alloc _)).mono ?_; rw [HS.out]; rintro e y1 ⟨rfl, rfl⟩) | (go_at_call 63; refine (proper_any _ o HP.out HQ.out).mono ?_; rw [HO.out]; rintro e y1 ⟨rfl, l1⟩; have L1 := hid l1; have b75 : Blk y1 w.heap.size 75 o.cells := (Blk.new w 75 o.cells).low l1 (by simp); have n0 : y1.cell? ⟨w.heap.size, 0, none⟩ = some (.int .i64 o.kind) := b75.cell 0; have n1 : y1.cell? ⟨w.heap.size, 1, none⟩ = some (.string o.path) := b75.cell 1; have n2 : y1.cell? ⟨w.heap.size, 2, none⟩ = some (.string o.plain) := b75.cell 2; have hny : w.heap.size < y1.heap.size := b75.lt; have B75 := hid b75; have RY : Hid (RIn y1 F b Y) := (HR.out.alloc _).low l1; obtain ⟨gK, capK, hcK, hgK, hks⟩ := RIn.keyAt RY.out HK.out; have k3 : y1.cell? ⟨gK, ki * 4 + 3, none⟩ = some (.bool K.gone) := hks 3 (by omega); obtain ⟨gS1, capS1, hcS1, hgS1, s01⟩ := RIn.seenAt RY.out HA.out; have hby := RIn.lt RY.out; clear l1 b75 hks) | (go_at_call 64; refine (writes_any _ _ (by exact RIn.alloc RY.out _) hk6).mono ?_; rw [HW.out]; rintro e y2 ⟨rfl, rfl⟩))
  go_ret
  exact ⟨rfl, (((Low.refl _ w).alloc (Nat.le_refl _) _).trans (L1.out.mono (by simp))).alloc (by have := B75.out.lt; omega) _⟩
set_option maxRecDepth 100000 in
set_option maxHeartbeats 1000000 in
theorem Begin_put (w : World) (i : Nat) (sn : Int) (u : RUnd) (o : AOp) (K : RKey) (ki : Nat) (h : RIn w F b Y) (ha : At Y i sn u) (hu : u.on = false) (hsn : (sn == 0) = false) (hp : o.path.size ≤ maxLen) (hq : o.plain.size ≤ maxLen) (ho : properOf o = true) (hk : (o.kind == 1) = true)
    (hk6 : Y.keys.length ≤ 6) (hw : writesOf Y.keys sn = (ki : Int) + 1) (hK : Y.keys[ki]? = some K) (hg : K.gone = false) (hT : K.text.size = 48) (hd : 0 ≤ Y.draws ∧ Y.draws + 1 ≤ 1000000000000) :
    Calls Tryz.prog 27 #[.pointer (some ⟨b, 0, none⟩), .int .i64 i, .agg #[.int .i64 o.kind, .string o.path, .string o.plain, .int .i64 o.rev]] w fun e w' => e = .returned (.int .i64 0) ∧ RIn w' F b ({ Y with draws := Y.draws + 1 }.setOp i ⟨true, closedOf K.text ((ki : Int) + 1) o.path o.plain (Y.draws + 1), sn, o.rev⟩) ∧ Kept F w w' := by
  have hpp := hid ho
  have HR := hid h
  have HA := hid ha
  have HS := hid ha.srv
  have hb := h.lt
  obtain ⟨gO, capO, hcO, hgO, hcs⟩ := h.opAt ha
  have o0 : w.cell? ⟨gO, i * 9, none⟩ = some (.bool u.on) := hcs 0 (by omega)
  obtain ⟨gS, capS, hcS, hgS, s0⟩ := h.seenAt ha
  have i1 : (i : Int) < (Y.ops.length : Int) := by have := ha.len.2; omega
  have i2 : (i : Int) < (Y.seen.length : Int) := by have := ha.len.1; omega
  clear h hcs ha
  have HP := hid hp
  have HQ := hid hq
  have HO := hid ho
  clear hp hq ho
  have HW := hid hw
  have HK := hid hK
  have HT := hid hT
  have HD := hid hd
  have kl : (ki : Int) < (Y.keys.length : Int) := by have := (List.getElem?_eq_some_iff.1 hK).1; omega
  have kz : (ki : Int) + 1 - 1 = (ki : Int) := by omega
  have hki : ki ≤ 6 := by omega
  have gd : Hid ((1 ≤ o.path.size ∧ o.path.size ≤ 16) ∧ o.plain.size ≤ 64) := by
    have q := hpp.out
    have k1 := beq_iff_eq.1 hk
    simp only [properOf, isPath, Bool.and_eq_true, Bool.or_eq_true, decide_eq_true_eq, beq_iff_eq, k1] at q
    show _ ∧ _
    omega
  clear hw hK hT hd hpp
  go_enter Tryz.func27, Tryz.ntmps27
  go_upto_region 17 with (first | (go_at_call 60; refine (server_any _ _ (by exact HR.out.alloc _)).mono ?_; rw [HS.out]; rintro e y1 ⟨rfl, rfl⟩) | (go_at_call 63; refine (proper_any _ o HP.out HQ.out).mono ?_; rw [HO.out]; rintro e y1 ⟨rfl, l1⟩; have L1 := hid l1; have b75 : Blk y1 w.heap.size 75 o.cells := (Blk.new w 75 o.cells).low l1 (by simp); have n0 : y1.cell? ⟨w.heap.size, 0, none⟩ = some (.int .i64 o.kind) := b75.cell 0; have n1 : y1.cell? ⟨w.heap.size, 1, none⟩ = some (.string o.path) := b75.cell 1; have n2 : y1.cell? ⟨w.heap.size, 2, none⟩ = some (.string o.plain) := b75.cell 2; have hny : w.heap.size < y1.heap.size := b75.lt; have B75 := hid b75; have RY : Hid (RIn y1 F b Y) := (HR.out.alloc _).low l1; obtain ⟨gK, capK, hcK, hgK, hks⟩ := RIn.keyAt RY.out HK.out; have k3 : y1.cell? ⟨gK, ki * 4 + 3, none⟩ = some (.bool K.gone) := hks 3 (by omega); obtain ⟨gS1, capS1, hcS1, hgS1, s01⟩ := RIn.seenAt RY.out HA.out; have hby := RIn.lt RY.out; clear l1 b75 hks) | (go_at_call 64; refine (writes_any _ _ (by exact RIn.alloc RY.out _) hk6).mono ?_; rw [HW.out]; rintro e y2 ⟨rfl, rfl⟩) | (go_at_call 65; refine (closed_any _ _ _ _ K ki (by exact RIn.alloc RY.out _) HK.out rfl hki HT.out gd.out.1 gd.out.2 HD.out).mono ?_; rintro e y2 ⟨rfl, r2, k2⟩; have R2c := hid r2; have K2c := hid k2; have B2c : Hid (Blk y2 y1.heap.size 50 (delEnt o.path).cells) := (Blk.new y1 50 (delEnt o.path).cells).kept k2 (fun f => by have := HR.out.below _ f; omega); clear r2 k2) | ((with_reducible refine st50 (.tmp 8) (.tmp 65) y1.heap.size (delEnt o.path) (closedOf K.text ((ki : Int) + 1) o.path o.plain (Y.draws + 1)) ?_ ?_ B2c.out ?_); rfl; rfl; intro W b3 k3 s3; have HBM := hid b3; have K3c := hid k3; have S3c := hid s3; clear b3 k3 s3))
  have RW : Hid (RIn W F b { Y with draws := Y.draws + 1 }) := R2c.out.kept K3c.out (fun q hq e => by have := HR.out.below q hq; omega)
  have HBN : Hid (Blk W w.heap.size 75 o.cells) := ((B75.out.alloc _).kept K2c.out (fun f => by have := HR.out.below _ f; omega)).kept K3c.out (by omega)
  have LW : Hid (Kept F w W) := by
    have a1 : Kept F w (y1.alloc _) := ((((Low.refl _ w).alloc (Nat.le_refl _) _).trans (L1.out.mono (by simp))).alloc (by omega) (.cells (delEnt o.path).cells.toArray 50)).kept.mono (fun _ _ f => f.elim)
    exact (a1.trans K2c.out (H := F) (fun _ f => f) (fun _ _ f => f)).trans K3c.out (fun _ f => f) (fun q hq e => by omega)
  have HA2 : Hid (At { Y with draws := Y.draws + 1 } i sn u) := ⟨HA.out.seen, HA.out.op⟩
  clear hb hcO hgO o0 hcS hgS s0 n0 n1 n2 hcK hgK k3 hcS1 hgS1 s01 hby
  obtain ⟨gO2, capO2, hcO2, hgO2, _⟩ := RIn.opAt RW.out HA2.out
  obtain ⟨gS2, capS2, hcS2, hgS2, s02⟩ := RIn.seenAt RW.out HA2.out
  obtain ⟨r1, r2, r3⟩ := RIn.putOp RW.out hcO2 i HA2.out.len.2 ⟨true, closedOf K.text ((ki : Int) + 1) o.path o.plain (Y.draws + 1), sn, o.rev⟩
  have R1 := hid r1
  have R2 := hid r2
  have R3 := hid r3
  have e0 : W.cell? ⟨y1.heap.size, 0, none⟩ = some (.string (closedOf K.text ((ki : Int) + 1) o.path o.plain (Y.draws + 1)).path) := HBM.out.cell 0
  have e1 : W.cell? ⟨y1.heap.size, 1, none⟩ = some (.int .i64 (closedOf K.text ((ki : Int) + 1) o.path o.plain (Y.draws + 1)).rev) := HBM.out.cell 1
  have e2 : W.cell? ⟨y1.heap.size, 2, none⟩ = some (.int .i64 (closedOf K.text ((ki : Int) + 1) o.path o.plain (Y.draws + 1)).key) := HBM.out.cell 2
  have e3 : W.cell? ⟨y1.heap.size, 3, none⟩ = some (.int .i64 (closedOf K.text ((ki : Int) + 1) o.path o.plain (Y.draws + 1)).draw) := HBM.out.cell 3
  have e4 : W.cell? ⟨y1.heap.size, 4, none⟩ = some (.string (closedOf K.text ((ki : Int) + 1) o.path o.plain (Y.draws + 1)).sealed) := HBM.out.cell 4
  have e5 : W.cell? ⟨y1.heap.size, 5, none⟩ = some (.bool (closedOf K.text ((ki : Int) + 1) o.path o.plain (Y.draws + 1)).gone) := HBM.out.cell 5
  have n3 : W.cell? ⟨w.heap.size, 3, none⟩ = some (.int .i64 o.rev) := HBN.out.cell 3
  clear r1 r2 r3
  refine wp_region_still_tail 17 (by kernel_rfl) (by kernel_rfl) ?_
  (try (change wpStill _ _ (World.drew _) _ _ _))
  simp only [List.take_succ_cons, List.take_zero, List.drop_succ_cons, List.drop_zero]
  repeat still_step
  refine wpStill_nil ?_
  (try (change wpList _ _ _ _ _ (World.drew _)))
  go_wp2_with ((with_reducible refine st72 (.tmp 82) (.tmp 81) gO2 (i * 9) ⟨true, closedOf K.text ((ki : Int) + 1) o.path o.plain (Y.draws + 1), sn, o.rev⟩ ?_ ?_ ?_ ?_); rfl; rfl; (exact there_drew R3.out); rw [setCells_drew])
  go_ret
  exact ⟨rfl, R1.out.drew, (LW.out.trans R2.out (H := F) (fun _ f => f) (fun _ _ f => f)).drew⟩
end Go.Proofs.YtnjkpghchgjbaaaGreatDoor
namespace Go.Proofs.YtnjkpghchgjbaaaGreatDoor
open Go.RowKit

variable {F : Nat → Prop} {b : Nat} {Y : RS}

theorem stB72 {ops : Array Oper} {rest : List Oper} {d : Option Tmp} {t0 : TypeId} {pos : String} {after : Array Edge} {a : Act} {w : World} {Q : Exit → Act → World → Prop} (x y : Operand) (b : Nat) (old e : RUnd)
    (hx : a.eval x = .pointer (some ⟨b, 0, none⟩)) (hy : a.eval y = .agg e.cells.toArray) (hB : Blk w b 72 old.cells)
    (h : ∀ w', Blk w' b 72 e.cells → Kept (fun k => k = b) w w' → w'.heap.size = w.heap.size → wpList Tryz.prog ops Q rest (a.put d undef) w') :
    wpList Tryz.prog ops Q ({ dst := d, op := .store 72 x y, type := t0, pos := pos, after := after, guard := none } :: rest) a w :=
  stBlk 72 x y b 72 old.cells e.cells hx hy hB rfl (sz72 e) e.one h
theorem Commit_srv (w : World) (s : Int) (h : RIn w F b Y) (hs : isSrv Y.seen.length s = false) :
    Calls Tryz.prog 29 #[.pointer (some ⟨b, 0, none⟩), .int .i64 s] w fun e w' => e = .returned (.tuple #[.int .i64 0, .int .i64 4]) ∧ w' = w := by
  have HR := hid h
  have HS := hid hs
  clear h hs
  go_enter Tryz.func29, Tryz.ntmps29
  go_wp2_with (go_at_call 60; refine (server_any _ _ HR.out).mono ?_; rw [HS.out]; rintro e y1 ⟨rfl, rfl⟩)
  go_ret2
  exact ⟨rfl, rfl⟩
theorem RUnd.range {w : World} {g o : Nat} {u : RUnd} (hc : ∀ j, j < 9 → w.cell? ⟨g, o + j, none⟩ = u.cells[j]?) : w.rangeAt g o u.cells := range_of hc (fun _ _ e => ⟨(List.getElem?_eq_some_iff.1 e).1, e⟩)
/-- Is there a secret, of which revision? -/
def thereOf (L : Option Ent) : Bool := L.isSome && !(L.getD Ent.zero).gone
def conflictOf (L : Option Ent) (want : Int) : Bool := (want == 0 && thereOf L) || (decide (0 < want) && (!thereOf L || ((L.getD Ent.zero).rev != want)))
/-- Why an operation may not be committed. -/
def commitErr (Y : RS) (u : RUnd) : Int :=
  if decide (u.epoch < promOf Y.keys) then 9 else if conflictOf (lastOf Y.all u.e.path) u.want then 10 else if u.e.gone && !thereOf (lastOf Y.all u.e.path) then 12 else if fullOf Y then 11 else 0
set_option maxRecDepth 100000 in
set_option maxHeartbeats 1000000 in
theorem Commit_idle (w : World) (i : Nat) (sn : Int) (u : RUnd) (h : RIn w F b Y) (ha : At Y i sn u) (hu : u.on = false) :
    Calls Tryz.prog 29 #[.pointer (some ⟨b, 0, none⟩), .int .i64 i] w fun e w' => e = .returned (.tuple #[.int .i64 0, .int .i64 8]) ∧ Low w.heap.size w w' := by
  have HR := hid h
  have HS := hid ha.srv
  have hb := h.lt
  obtain ⟨gO, capO, hcO, hgO, hcs⟩ := h.opAt ha
  have HC := hid (RUnd.range hcs)
  have i1 : (i : Int) < (Y.ops.length : Int) := by have := ha.len.2; omega
  clear h hcs ha
  go_enter Tryz.func29, Tryz.ntmps29
  go_wp2_with (first | (go_at_call 60; refine (server_any _ _ HR.out).mono ?_; rw [HS.out]; rintro e y1 ⟨rfl, hy⟩; obtain rfl := hy.symm) | ((with_reducible refine ld72 (.tmp 22) gO (i * 9) u ?_ HC.out ?_); rfl) | ((with_reducible refine stB72 (.tmp 7) (.tmp 23) w.heap.size RUnd.zero u ?_ ?_ ?_ ?_); rfl; rfl; exact (Blk.new w 72 RUnd.zero.cells); intro w1 b1 k1 s1; have d0 : w1.cell? ⟨w.heap.size, 0, none⟩ = some (.bool u.on) := b1.cell 0; have K1 := hid k1; clear b1 k1 s1))
  go_ret2
  exact ⟨rfl, low_set ((Low.refl _ w).alloc (Nat.le_refl _) _) K1.out (Nat.le_refl _) (by simp)⟩
end Go.Proofs.YtnjkpghchgjbaaaGreatDoor
