import Derived.Test.YtnjkpghchgjbaaaGreatDoorOpensToRefD
import Derived.Deep.RegionHeld3
import Derived.StillTailTactics
namespace Go.Proofs.YtnjkpghchgjbaaaGreatDoor
open Go.RowKit

variable {F : Nat → Prop} {b : Nat} {Y : RS}

/-- What opens, and what it is. -/
def openB (key nonce path s : ByteArray) : Bool := decide (rd64 s (s.size - 8) = tagI key nonce path (coverOf s))
def openT (key nonce path s : ByteArray) : ByteArray := if openB key nonce path s then maskOf key nonce (coverOf s) else ⟨#[]⟩
def openE (key nonce path s : ByteArray) : Int := if openB key nonce path s then 0 else 3
theorem OpenR_any (key nonce path s : ByteArray) (w : World) (h : goodP key nonce path) (s0 : 8 ≤ s.size) (s1 : s.size ≤ 72) :
    Calls Tryz.prog 100 #[.string key, .string nonce, .string path, .string s] w fun e w' => e = .returned (.tuple #[.string (openT key nonce path s), .int .i64 (openE key nonce path s)]) ∧ Low w.heap.size w w' := by
  unfold openT openE
  by_cases ho : opens key nonce path s
  · have : openB key nonce path s = true := by simp only [openB]; exact decide_eq_true ho
    rw [this]
    exact OpenR_yes _ _ _ _ w h s0 s1 ho
  · have : openB key nonce path s = false := by simp only [openB]; exact decide_eq_false ho
    rw [this]
    exact OpenR_bad _ _ _ _ w h s0 s1 ho
/-- What an entry tells to one who has seen an epoch. -/
def openedOf (K : RKey) (e : Ent) (seen : Int) : ByteArray × Int :=
  if decide (seen < K.came) then (⟨#[]⟩, 13) else if K.gone then (⟨#[]⟩, 14) else
  if openB K.text (nonceTo e.draw 12) e.path e.sealed then (maskOf K.text (nonceTo e.draw 12) (coverOf e.sealed), 0) else (⟨#[]⟩, 3)
theorem wrap_id (x : Int) (h0 : -1000000000000000 ≤ x) (h1 : x ≤ 1000000000000000) : IntKind.i64.wrap x = x := by
  rw [IntKind.wrap_i64]; omega
structure EntOk (e : Ent) : Prop where
  path : 1 ≤ e.path.size ∧ e.path.size ≤ 16
  draw : 0 ≤ e.draw ∧ e.draw ≤ 1000000000000
  sealed : 8 ≤ e.sealed.size ∧ e.sealed.size ≤ 72

set_option maxRecDepth 100000 in
set_option maxHeartbeats 1000000 in
theorem opened_any (w : World) (e : Ent) (seen : Int) (K : RKey) (i : Nat) (h : RIn w F b Y) (hk : Y.keys[i]? = some K) (hi : e.key = (i : Int) + 1) (hi6 : i ≤ 6) (hK : K.text.size = 48) (hE : EntOk e) :
    Calls Tryz.prog 91 #[.pointer (some ⟨b, 0, none⟩), .agg #[.string e.path, .int .i64 e.rev, .int .i64 e.key, .int .i64 e.draw, .string e.sealed, .bool e.gone], .int .i64 seen] w fun r w' =>
      r = .returned (.tuple #[.string (openedOf K e seen).1, .int .i64 (openedOf K e seen).2]) ∧ Low w.heap.size w w' := by
  obtain ⟨a, cap, hc, hel⟩ := h.keys
  rw [List.length_map] at hc
  obtain ⟨g, rfl, hg, hcs, _⟩ := hel i K.cells (by simp [hk])
  have c0 : w.cell? ⟨g, i * 4, none⟩ = some (.string K.text) := hcs 0 (by omega)
  have c1 : w.cell? ⟨g, i * 4 + 1, none⟩ = some (.int .i64 K.came) := hcs 1 (by omega)
  have c3 : w.cell? ⟨g, i * 4 + 3, none⟩ = some (.bool K.gone) := hcs 3 (by omega)
  have hil : i < Y.keys.length := (List.getElem?_eq_some_iff.1 hk).1
  have hb := h.lt
  have HG : Hid (goodP K.text (nonceTo e.draw 12) e.path) := ⟨hK, nonceTo_size _ _, hE.path.1, hE.path.2⟩
  have HE := hid hE
  have hD := hE.draw
  have HK := hid hi
  have he1 : e.key - 1 = (i : Int) := by omega
  have hi1 : (i : Int) < (Y.keys.length : Int) := by omega
  have hi0 : (0 : Int) ≤ (i : Int) := by omega
  have hwr : IntKind.i64.wrap (i : Int) = (i : Int) := wrap_id _ (by omega) (by omega)
  have ek0 : 1 ≤ e.key := by omega
  have ek1 : e.key ≤ 7 := by omega
  clear hcs hel hk h hK hE hi
  cases q1 : decide (seen < K.came)
  · cases q2 : K.gone
    · go_enter Tryz.func91, Tryz.ntmps91
      go_upto_region 1 with fail
      go_region
      go_upto_region 3 with fail
      go_region
      go_upto_region 5 with fail
      go_name_world W hW
      have hs : W.heap.size = w.heap.size + 1 := by rw [← hW]; simp
      have hS : W.cell? ⟨b, 4, none⟩ = some (.slice (some ⟨g, 0, none⟩) Y.keys.length cap) ∧ W.cell? ⟨g, i * 4, none⟩ = some (.string K.text) ∧ W.cell? ⟨w.heap.size, 0, none⟩ = some (.string e.path) ∧ W.cell? ⟨w.heap.size, 2, none⟩ = some (.int .i64 e.key) ∧ W.cell? ⟨w.heap.size, 3, none⟩ = some (.int .i64 e.draw) ∧ W.cell? ⟨w.heap.size, 4, none⟩ = some (.string e.sealed) := by
        rw [← hW]
        exact ⟨(World.cell?_alloc_lt w _ _ hb).trans hc, (World.cell?_alloc_lt w _ _ hg).trans c0, (Blk.new w 50 e.cells).cell 0, (Blk.new w 50 e.cells).cell 2, (Blk.new w 50 e.cells).cell 3, (Blk.new w 50 e.cells).cell 4⟩
      have hL : Low w.heap.size w W := by rw [← hW]; exact ((Low.refl _ w).alloc (Nat.le_refl _) _).drew.drew
      have HL := hid hL
      have HS := hid hs
      have lb : b < W.heap.size := by omega
      have lg : g < W.heap.size := by omega
      have lw : w.heap.size < W.heap.size := by omega
      obtain ⟨s1, s2, s3, s4, s5, s6⟩ := hS
      clear hW hL hs hb hg hc c0 c1 c3
      go_region_held3 (fun W' => W'.cell? ⟨b, 4, none⟩ = some (.slice (some ⟨g, 0, none⟩) Y.keys.length cap) ∧ W'.cell? ⟨g, i * 4, none⟩ = some (.string K.text) ∧ W'.cell? ⟨w.heap.size, 0, none⟩ = some (.string e.path) ∧ W'.cell? ⟨w.heap.size, 2, none⟩ = some (.int .i64 e.key) ∧ W'.cell? ⟨w.heap.size, 3, none⟩ = some (.int .i64 e.draw) ∧ W'.cell? ⟨w.heap.size, 4, none⟩ = some (.string e.sealed)) (first | assumption | go_keep)
        (first | (go_at_call 85; refine (drawn_any _ _ hD.1 hD.2).mono ?_; rintro r y1 ⟨rfl, l1⟩; have S1 : y1.cell? ⟨b, 4, none⟩ = some (.slice (some ⟨g, 0, none⟩) Y.keys.length cap) ∧ y1.cell? ⟨g, i * 4, none⟩ = some (.string K.text) ∧ y1.cell? ⟨w.heap.size, 0, none⟩ = some (.string e.path) ∧ y1.cell? ⟨w.heap.size, 2, none⟩ = some (.int .i64 e.key) ∧ y1.cell? ⟨w.heap.size, 3, none⟩ = some (.int .i64 e.draw) ∧ y1.cell? ⟨w.heap.size, 4, none⟩ = some (.string e.sealed) := ⟨(l1.cell lb).trans s1, (l1.cell lg).trans s2, (l1.cell lw).trans s3, (l1.cell lw).trans s4, (l1.cell lw).trans s5, (l1.cell lw).trans s6⟩; have L1 := hid l1; clear l1)
               | (go_at_call 100; refine (OpenR_any _ _ _ _ _ HG.out HE.out.sealed.1 HE.out.sealed.2).mono ?_; rintro r y2 ⟨rfl, l2⟩; have S2 : y2.cell? ⟨b, 4, none⟩ = some (.slice (some ⟨g, 0, none⟩) Y.keys.length cap) ∧ y2.cell? ⟨g, i * 4, none⟩ = some (.string K.text) ∧ y2.cell? ⟨w.heap.size, 0, none⟩ = some (.string e.path) ∧ y2.cell? ⟨w.heap.size, 2, none⟩ = some (.int .i64 e.key) ∧ y2.cell? ⟨w.heap.size, 3, none⟩ = some (.int .i64 e.draw) ∧ y2.cell? ⟨w.heap.size, 4, none⟩ = some (.string e.sealed) := ⟨(l2.cell (Nat.lt_of_lt_of_le lb L1.out.size)).trans S1.1, (l2.cell (Nat.lt_of_lt_of_le lg L1.out.size)).trans S1.2.1, (l2.cell (Nat.lt_of_lt_of_le lw L1.out.size)).trans S1.2.2.1, (l2.cell (Nat.lt_of_lt_of_le lw L1.out.size)).trans S1.2.2.2.1, (l2.cell (Nat.lt_of_lt_of_le lw L1.out.size)).trans S1.2.2.2.2.1, (l2.cell (Nat.lt_of_lt_of_le lw L1.out.size)).trans S1.2.2.2.2.2⟩; have L2 := hid l2; clear l2))
      cases q3 : openB K.text (nonceTo e.draw 12) e.path e.sealed
      · have q4 : (openE K.text (nonceTo e.draw 12) e.path e.sealed != 0) = true := by simp [openE, q3]
        go_wp2_with fail
        go_ret2
        exact ⟨by simp [openedOf, q1, q2, q3], HL.out.drew.trans ((L1.out.mono (by have := HL.out.size; simpa using this)).trans (L2.out.mono (Nat.le_trans HL.out.size L1.out.size)))⟩
      · have q4 : (openE K.text (nonceTo e.draw 12) e.path e.sealed != 0) = false := by simp [openE, q3]
        go_wp2_with fail
        go_ret2
        exact ⟨by simp [openedOf, q1, q2, q3, openT], HL.out.drew.trans ((L1.out.mono (by have := HL.out.size; simpa using this)).trans (L2.out.mono (Nat.le_trans HL.out.size L1.out.size)))⟩
    · go_enter Tryz.func91, Tryz.ntmps91
      go_upto_region 1 with fail
      go_region
      go_upto_region 3 with fail
      go_region
      go_wp2_with fail
      go_ret2
      exact ⟨by simp [openedOf, q1, q2], ((Low.refl _ w).alloc (Nat.le_refl _) _).drew.drew⟩
  · go_enter Tryz.func91, Tryz.ntmps91
    go_upto_region 1 with fail
    go_region
    go_wp2_with fail
    go_ret2
    exact ⟨by simp [openedOf, q1], ((Low.refl _ w).alloc (Nat.le_refl _) _).drew⟩
end Go.Proofs.YtnjkpghchgjbaaaGreatDoor
namespace Go.Proofs.YtnjkpghchgjbaaaGreatDoor
open Go.RowKit

variable {F : Nat → Prop} {b : Nat} {Y : RS}

/-- The draws are counted up. -/
theorem RIn.setDraws {w : World} (h : RIn w F b Y) (n : Int) : RIn (w.setCell ⟨b, 9, none⟩ (.int .i64 n)) F b { Y with draws := n } := by
  obtain ⟨h8, vA, vK, vS, vO, vN, h⟩ := h
  exact ⟨h8, vA, vK, vS, vO, vN, (h.set 9 (.int .i64 n) (by simp [RS.rows])).cast rfl rfl⟩
theorem RIn.inF {w : World} (h : RIn w F b Y) : F b := by
  obtain ⟨h8, vA, vK, vS, vO, vN, h⟩ := h
  exact h.inF
theorem RIn.frozen {w : World} (h : RIn w F b Y) (i : Nat) : w.frozen? ⟨b, i, none⟩ = false := by
  obtain ⟨h8, vA, vK, vS, vO, vN, h⟩ := h
  exact h.frozen i
theorem RIn.more {w : World} {G : Nat → Prop} (h : RIn w F b Y) (hs : ∀ k, F k → G k) (hb : ∀ k, G k → k < w.heap.size) : RIn w G b Y := by
  obtain ⟨h8, vA, vK, vS, vO, vN, h⟩ := h
  exact ⟨h8, vA, vK, vS, vO, vN, h.more hs hb⟩
/-- F may grow by what has come. -/
theorem RIn.grow {w w' : World} (h : RIn w' F b Y) : RIn w' (grow F w w') b Y :=
  h.more (fun _ e => Or.inl e) (fun k e => e.elim (h.below k) (fun e => e.2))
/-- The entry that a secret comes to be. -/
def closedOf (text : ByteArray) (k : Int) (path plain : ByteArray) (draw : Int) : Ent := ⟨path, 0, k, draw, sealOf text (nonceTo draw 12) path plain, false⟩
set_option maxRecDepth 100000 in
set_option maxHeartbeats 1000000 in
theorem closed_any (w : World) (k : Int) (path plain : ByteArray) (K : RKey) (i : Nat) (h : RIn w F b Y) (hk : Y.keys[i]? = some K) (hi : k = (i : Int) + 1) (hi6 : i ≤ 6) (hK : K.text.size = 48) (hp : 1 ≤ path.size ∧ path.size ≤ 16) (hs : plain.size ≤ 64) (hd : 0 ≤ Y.draws ∧ Y.draws + 1 ≤ 1000000000000) :
    Calls Tryz.prog 65 #[.pointer (some ⟨b, 0, none⟩), .int .i64 k, .string path, .string plain] w fun r w' =>
      r = .returned (.agg (closedOf K.text k path plain (Y.draws + 1)).cells.toArray) ∧ RIn w' F b { Y with draws := Y.draws + 1 } ∧ Kept F w w' := by
  obtain ⟨a, cap, hc, hel⟩ := h.keys
  rw [List.length_map] at hc
  obtain ⟨g, rfl, hg, hcs, _⟩ := hel i K.cells (by simp [hk])
  have c9 := h.draws
  have f9 := h.frozen 9
  have hil : i < Y.keys.length := (List.getElem?_eq_some_iff.1 hk).1
  have hb := h.lt
  have HR := hid h
  have HG : Hid (goodP K.text (nonceTo (Y.draws + 1) 12) path) := ⟨hK, nonceTo_size _ _, hp.1, hp.2⟩
  have he1 : k - 1 = (i : Int) := by omega
  have hi1 : (i : Int) < (Y.keys.length : Int) := by omega
  have hi0 : (0 : Int) ≤ (i : Int) := by omega
  have hwr : IntKind.i64.wrap (i : Int) = (i : Int) := wrap_id _ (by omega) (by omega)
  have k0 : 1 ≤ k := by omega
  have k1 : k ≤ 7 := by omega
  have hd0 := hd.1
  have hd1 := hd.2
  have HKK := hid hk
  clear hcs hel h hK hi hk hd
  go_enter Tryz.func65, Tryz.ntmps65
  go_upto_region 2 with fail
  go_name_world W hW
  have hR : RIn W F b { Y with draws := Y.draws + 1 } := by rw [← hW]; exact (HR.out.setDraws _).alloc _
  have hZ : Blk W w.heap.size 50 Ent.zero.cells := by
    have q := Blk.new (w.setCell ⟨b, 9, none⟩ (.int .i64 (Y.draws + 1))) 50 Ent.zero.cells
    rw [World.size_setCell] at q
    rw [← hW]; exact q
  have hKp : Kept F w W := by
    rw [← hW]
    exact (setCell_kept w ⟨b, 9, none⟩ _).trans ((Low.refl _ _).alloc (Nat.le_refl _) _).kept (fun q e => by rw [show q = b from e]; exact HR.out.inF) (fun _ _ f => f.elim)
  have hsz : W.heap.size = w.heap.size + 1 := by rw [← hW]; simp
  obtain ⟨a2, cap2, hc2, hel2⟩ := hR.keys
  rw [List.length_map] at hc2
  obtain ⟨g2, rfl, hg2, hcs2, _⟩ := hel2 i K.cells (by simp [HKK.out])
  have s2 : W.cell? ⟨g2, i * 4, none⟩ = some (.string K.text) := hcs2 0 (by omega)
  have s3 : W.cell? ⟨b, 9, none⟩ = some (.int .i64 (Y.draws + 1)) := hR.draws
  have s1 : W.cell? ⟨b, 4, none⟩ = some (.slice (some ⟨g2, 0, none⟩) Y.keys.length cap2) := hc2
  have lb : b < W.heap.size := by omega
  have HZ := hid hZ
  have HKp := hid hKp
  have HR2 := hid hR
  have HSZ := hid hsz
  have hl : Hid (w.heap.size < W.heap.size) := by show _ < _; omega
  clear hR hZ hKp hsz hc2 hel2 hcs2 hW hg hc c9 f9 HKK
  go_region_held3 (fun W' => W'.cell? ⟨b, 4, none⟩ = some (.slice (some ⟨g2, 0, none⟩) Y.keys.length cap2) ∧ W'.cell? ⟨g2, i * 4, none⟩ = some (.string K.text) ∧ W'.cell? ⟨b, 9, none⟩ = some (.int .i64 (Y.draws + 1))) (first | assumption | go_keep)
    (first | (go_at_call 85; refine (drawn_any _ _ (by omega) hd1).mono ?_; rintro r y1 ⟨rfl, l1⟩; have S1 : y1.cell? ⟨b, 4, none⟩ = some (.slice (some ⟨g2, 0, none⟩) Y.keys.length cap2) ∧ y1.cell? ⟨g2, i * 4, none⟩ = some (.string K.text) ∧ y1.cell? ⟨b, 9, none⟩ = some (.int .i64 (Y.draws + 1)) := ⟨(l1.cell lb).trans s1, (l1.cell hg2).trans s2, (l1.cell lb).trans s3⟩; have L1 := hid l1; clear l1)
           | (go_at_call 84; refine (SealR_yes _ _ _ _ _ HG.out hs).mono ?_; rintro r y2 ⟨rfl, l2⟩; have S2 : y2.cell? ⟨b, 4, none⟩ = some (.slice (some ⟨g2, 0, none⟩) Y.keys.length cap2) ∧ y2.cell? ⟨g2, i * 4, none⟩ = some (.string K.text) ∧ y2.cell? ⟨b, 9, none⟩ = some (.int .i64 (Y.draws + 1)) := ⟨(l2.cell (Nat.lt_of_lt_of_le lb L1.out.size)).trans S1.1, (l2.cell (Nat.lt_of_lt_of_le hg2 L1.out.size)).trans S1.2.1, (l2.cell (Nat.lt_of_lt_of_le lb L1.out.size)).trans S1.2.2⟩; have L2 := hid l2; clear l2))
  have L3 : Hid (Low W.heap.size W y2) := (Low.refl _ W).drew.trans (L1.out.trans (L2.out.mono L1.out.size))
  have B3 := hid (HZ.out.low L3.out hl.out)
  obtain ⟨z1, z2, z3⟩ := S2
  clear S1 L1 L2
  go_wp2_with ((with_reducible refine st50 (.tmp 8) (.tmp 46) w.heap.size Ent.zero (closedOf K.text k path plain (Y.draws + 1)) ?_ ?_ B3.out ?_); rfl; rfl; intro w1 b1 k1 t1; have B1 := hid b1; have K1 := hid k1; have T1 := hid t1; clear b1 k1 t1)
  (try simp only [Exit.inBlock, Exit.then])
  refine bodyPost_ret (results_cell rfl w.heap.size (closedOf K.text k path plain (Y.draws + 1)).cells _ rfl B1.out.whole Tryz.underlying50 rfl (sz50 _)) rfl ?_
  refine ⟨rfl, ?_, ?_⟩
  · exact (HR2.out.low L3.out).kept K1.out (fun q hq e => by have := HR.out.below q hq; omega)
  · exact (HKp.out.trans L3.out.kept (H := F) (fun _ f => f) (fun _ _ f => f.elim)).trans K1.out (fun _ f => f) (fun q hq e => by omega)
end Go.Proofs.YtnjkpghchgjbaaaGreatDoor
namespace Go.Proofs.YtnjkpghchgjbaaaGreatDoor
open Go.RowKit

variable {F : Nat → Prop} {b : Nat} {Y : RS}
theorem beq0 (n : Nat) : ((n : Int) == 0) = (n == 0) := by
  cases n with
  | zero => rfl
  | succ n => simp; omega
structure AOp where
  kind : Int
  path : ByteArray
  plain : ByteArray
  rev : Int
def AOp.cells (o : AOp) : List Value := [.int .i64 o.kind, .string o.path, .string o.plain, .int .i64 o.rev]
def properOf (o : AOp) : Bool := (isPath o.path && decide (-1 ≤ o.rev)) && ((o.kind == 1 && decide (o.plain.size ≤ 64)) || (o.kind == 2 && (o.plain.size == 0)))
set_option maxRecDepth 100000 in
set_option maxHeartbeats 1000000 in
theorem proper_any (w : World) (o : AOp) (hp : o.path.size ≤ maxLen) (hq : o.plain.size ≤ maxLen) :
    Calls Tryz.prog 63 #[.agg #[.int .i64 o.kind, .string o.path, .string o.plain, .int .i64 o.rev]] w fun e w' => e = .returned (.bool (properOf o)) ∧ Low w.heap.size w w' := by
  have HP := hid hp
  unfold maxLen at hq
  clear hp
  go_enter Tryz.func63, Tryz.ntmps63
  go_wp2_with (go_at_call 78; refine (path_any _ _ HP.out).mono ?_; rintro e y1 ⟨rfl, rfl⟩; generalize hI : isPath o.path = I; have HI := hid hI; clear hI)
  all_goals
    go_ret
    have hI := HI.out
    clear HI
    refine ⟨?_, (Low.refl _ w).alloc (Nat.le_refl _) _⟩
    simp only [properOf, hI]
    simp [*]
  all_goals first | omega | exact beq0 _

theorem isSrv_iff (n : Nat) (s : Int) : isSrv n s = true ↔ 0 ≤ s ∧ s < (n : Int) := by simp [isSrv]
/-- The document's Refresh. -/
def RS.refresh (Y : RS) (s : Int) : RS := { Y with seen := Y.seen.set s.toNat Y.epoch }
def RS.crash (Y : RS) (s : Int) : RS := { Y with seen := Y.seen.set s.toNat 0, ops := Y.ops.set s.toNat RUnd.zero }
set_option maxRecDepth 100000 in
set_option maxHeartbeats 1000000 in
theorem Refresh_yes (w : World) (s : Int) (h : RIn w F b Y) (hs : isSrv Y.seen.length s = true) :
    Calls Tryz.prog 23 #[.pointer (some ⟨b, 0, none⟩), .int .i64 s] w fun e w' => e = .returned (.int .i64 0) ∧ RIn w' F b (Y.refresh s) ∧ Kept F w w' := by
  obtain ⟨h0, h1⟩ := (isSrv_iff _ _).1 hs
  obtain ⟨i, rfl⟩ := Int.eq_ofNat_of_zero_le h0
  have hi : i < Y.seen.length := by omega
  obtain ⟨a, cap, hc, hel⟩ := h.seen
  rw [List.length_map] at hc
  obtain ⟨g, rfl, hg, hcs, hfz⟩ := hel i (one Y.seen[i]) (by rw [List.getElem?_map, List.getElem?_eq_getElem hi]; rfl)
  have c0 : w.cell? ⟨g, i, none⟩ = some (.int .i64 Y.seen[i]) := by have := hcs 0 (by omega); simpa [one] using this
  have f0 := hfz i
  have c7 := h.epoch
  obtain ⟨p1, p2, _⟩ := h.putSeen hc i hi Y.epoch
  have P1 := hid p1
  have P2 := hid p2
  have HR := hid h
  have HS := hid hs
  generalize Y.seen[i] = old at c0
  clear hel hcs hfz p1 p2 h hs
  go_enter Tryz.func23, Tryz.ntmps23
  go_upto_region 4 with (go_at_call 60; refine (server_any _ _ HR.out).mono ?_; rw [HS.out]; rintro e y1 ⟨rfl, rfl⟩)
  go_region
  all_goals go_wp2_with fail
  all_goals go_ret
  all_goals exact ⟨rfl, P1.out.drew, P2.out.drew⟩
theorem Refresh_no (w : World) (s : Int) (h : RIn w F b Y) (hs : isSrv Y.seen.length s = false) :
    Calls Tryz.prog 23 #[.pointer (some ⟨b, 0, none⟩), .int .i64 s] w fun e w' => e = .returned (.int .i64 4) ∧ w' = w := by
  have HR := hid h
  have HS := hid hs
  clear h hs
  go_enter Tryz.func23, Tryz.ntmps23
  go_wp2_with (go_at_call 60; refine (server_any _ _ HR.out).mono ?_; rw [HS.out]; rintro e y1 ⟨rfl, rfl⟩)
  go_ret
  exact ⟨rfl, rfl⟩
set_option maxRecDepth 100000 in
set_option maxHeartbeats 1000000 in
theorem Crash_yes (w : World) (s : Int) (h : RIn w F b Y) (hs : isSrv Y.seen.length s = true) (hl : Y.ops.length = Y.seen.length) :
    Calls Tryz.prog 25 #[.pointer (some ⟨b, 0, none⟩), .int .i64 s] w fun e w' => e = .returned (.int .i64 0) ∧ RIn w' F b (Y.crash s) ∧ Kept F w w' := by
  obtain ⟨h0, h1⟩ := (isSrv_iff _ _).1 hs
  obtain ⟨i, rfl⟩ := Int.eq_ofNat_of_zero_le h0
  have hi : i < Y.seen.length := by omega
  obtain ⟨a, cap, hc, hel⟩ := h.seen
  rw [List.length_map] at hc
  obtain ⟨g, rfl, hg, hcs, hfz⟩ := hel i (one Y.seen[i]) (by rw [List.getElem?_map, List.getElem?_eq_getElem hi]; rfl)
  have c0 : w.cell? ⟨g, i, none⟩ = some (.int .i64 Y.seen[i]) := by have := hcs 0 (by omega); simpa [one] using this
  have f0 := hfz i
  obtain ⟨p1, p2, _⟩ := h.putSeen hc i hi 0
  generalize Y.seen[i] = old at c0
  have P1 := hid p1
  have P2 := hid p2
  have HR := hid h
  have HS := hid hs
  have HI := hid hi
  have HL := hid hl
  clear hel hcs hfz p1 p2 h hs hl
  go_enter Tryz.func25, Tryz.ntmps25
  go_upto_region 5 with (go_at_call 60; refine (server_any _ _ HR.out).mono ?_; rw [HS.out]; rintro e y1 ⟨rfl, rfl⟩)
  go_name_world W hW
  rw [hW] at P1 P2
  obtain ⟨a2, cap2, hc2, hel2⟩ := P1.out.ops
  rw [List.length_map] at hc2
  have hi2 : i < Y.ops.length := by have := HL.out; have := HI.out; omega
  have hi3 : (i : Int) < (Y.ops.length : Int) := by omega
  obtain ⟨g2, rfl, hg2, _, _⟩ := hel2 i (Y.ops[i]).cells (by rw [List.getElem?_map, List.getElem?_eq_getElem hi2]; rfl)
  obtain ⟨r1, r2, r3⟩ := P1.out.putOp hc2 i hi2 RUnd.zero
  have R1 := hid r1
  have R2 := hid r2
  have R3 := hid r3
  clear r1 r2 r3 hel2 hW
  have hc3 : W.cell? ⟨b, 6, none⟩ = some (.slice (some ⟨g2, 0, none⟩) Y.ops.length cap2) := hc2
  clear hc2
  go_wp2_with ((with_reducible refine st72 (.tmp 23) (.tmp 22) g2 (i * 9) RUnd.zero ?_ ?_ R3.out ?_); rfl; rfl)
  go_ret
  exact ⟨rfl, R1.out, P2.out.trans R2.out (fun _ f => f) (fun _ _ f => f)⟩
theorem Crash_no (w : World) (s : Int) (h : RIn w F b Y) (hs : isSrv Y.seen.length s = false) :
    Calls Tryz.prog 25 #[.pointer (some ⟨b, 0, none⟩), .int .i64 s] w fun e w' => e = .returned (.int .i64 4) ∧ w' = w := by
  have HR := hid h
  have HS := hid hs
  clear h hs
  go_enter Tryz.func25, Tryz.ntmps25
  go_wp2_with (go_at_call 60; refine (server_any _ _ HR.out).mono ?_; rw [HS.out]; rintro e y1 ⟨rfl, rfl⟩)
  go_ret
  exact ⟨rfl, rfl⟩
end Go.Proofs.YtnjkpghchgjbaaaGreatDoor
