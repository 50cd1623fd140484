import Derived.Test.YtnjkpghchgjbaaaGreatDoorRefHToRefJ
import Derived.Deep.DeepCutAuto
import Derived.Test.YtnjkpghchgjbaaaGreatDoorPNToPH
import Derived.Test.YtnjkpghchgjbaaaGreatDoorPBToLawE
import Derived.Test.YtnjkpghchgjbaaaGreatDoorPRepToPA
import Derived.Deep.OwnRows
namespace Go.Proofs.YtnjkpghchgjbaaaGreatDoor
open Go.RowKit

variable {F : Nat → Prop} {b : Nat} {Y : RS}

def RS.commit (Y : RS) (i : Nat) (u : RUnd) : RS :=
  if commitErr Y u == 0 then { Y.setOp i RUnd.zero with all := Y.all ++ [⟨{ u.e with rev := (Y.all.length : Int) + 1 }, false⟩] } else Y.setOp i RUnd.zero
def RS.commitRev (Y : RS) (u : RUnd) : Int := if commitErr Y u == 0 then (Y.all.length : Int) + 1 else 0
theorem RUnd.entry {w : World} {g : Nat} {u : RUnd} (h : Blk w g 72 u.cells) : w.rangeAt g 1 u.e.cells := h.range (fun j hj => by
  have hj : j < 6 := hj
  have : j = 0 ∨ j = 1 ∨ j = 2 ∨ j = 3 ∨ j = 4 ∨ j = 5 := by omega
  rcases this with rfl | rfl | rfl | rfl | rfl | rfl <;> rfl)
theorem Blk.drew {w : World} {b : Nat} {t : TypeId} {cs : List Value} (h : Blk w b t cs) : Blk w.drew b t cs := h
theorem metA {W y2 : World} {X : Ent} {T : Bool} (l : Low W.heap.size W y2) : ∃ M, Value.pointer (some ⟨y2.heap.size, 0, none⟩) = Value.pointer (some ⟨M, 0, none⟩) ∧ Value.bool T = Value.bool T ∧
    Hid (Low W.heap.size W (y2.alloc (Obj.cells #[Value.string X.path, Value.int .i64 X.rev, Value.int .i64 X.key, Value.int .i64 X.draw, Value.string X.sealed, Value.bool X.gone] 50)) ∧ W.heap.size ≤ M ∧ Blk (y2.alloc (Obj.cells #[Value.string X.path, Value.int .i64 X.rev, Value.int .i64 X.key, Value.int .i64 X.draw, Value.string X.sealed, Value.bool X.gone] 50)) M 50 X.cells) :=
  ⟨_, rfl, rfl, l.alloc l.size _, l.size, Blk.new y2 50 X.cells⟩
theorem metB {W y2 : World} {X : Ent} {T : Bool} (l : Low W.heap.size W y2) (z : Blk y2 W.heap.size 50 Ent.zero.cells) : ∃ M, Value.pointer (some ⟨W.heap.size, 0, none⟩) = Value.pointer (some ⟨M, 0, none⟩) ∧ Value.bool T = Value.bool T ∧
    Hid (Low W.heap.size W ((((((y2.setCell ⟨W.heap.size, 0, none⟩ (Value.string X.path)).setCell ⟨W.heap.size, 1, none⟩ (Value.int .i64 X.rev)).setCell ⟨W.heap.size, 2, none⟩ (Value.int .i64 X.key)).setCell ⟨W.heap.size, 3, none⟩ (Value.int .i64 X.draw)).setCell ⟨W.heap.size, 4, none⟩ (Value.string X.sealed)).setCell ⟨W.heap.size, 5, none⟩ (Value.bool X.gone)) ∧ W.heap.size ≤ M ∧ Blk ((((((y2.setCell ⟨W.heap.size, 0, none⟩ (Value.string X.path)).setCell ⟨W.heap.size, 1, none⟩ (Value.int .i64 X.rev)).setCell ⟨W.heap.size, 2, none⟩ (Value.int .i64 X.key)).setCell ⟨W.heap.size, 3, none⟩ (Value.int .i64 X.draw)).setCell ⟨W.heap.size, 4, none⟩ (Value.string X.sealed)).setCell ⟨W.heap.size, 5, none⟩ (Value.bool X.gone)) M 50 X.cells) :=
  ⟨_, rfl, rfl, (((((l.setCell (Nat.le_refl _) _).setCell (Nat.le_refl _) _).setCell (Nat.le_refl _) _).setCell (Nat.le_refl _) _).setCell (Nat.le_refl _) _).setCell (Nat.le_refl _) _, Nat.le_refl _, (((((z.set 0 _).set 1 _).set 2 _).set 3 _).set 4 _).set 5 _⟩
theorem commit_err {w y : World} {i : Nat} {u : RUnd} (c : Int) (hc : commitErr Y u = c) (hne : (c == 0) = false) (R : RIn y F b (Y.setOp i RUnd.zero)) (K : Kept F w y) (r : Ending) (hr : r = .returned (.tuple #[.int .i64 0, .int .i64 c])) :
    r = .returned (.tuple #[.int .i64 (Y.commitRev u), .int .i64 (commitErr Y u)]) ∧ RIn y (grow F w y) b (Y.commit i u) ∧ Kept F w y := by
  unfold RS.commitRev RS.commit
  rw [hc, hne]
  exact ⟨hr, R.grow, K⟩
theorem commit_ok {w y y2 : World} {i : Nat} {u : RUnd} (hc : commitErr Y u = 0) (R : RIn y2 (grow F y y2) b { Y.setOp i RUnd.zero with all := Y.all ++ [⟨{ u.e with rev := (Y.all.length : Int) + 1 }, false⟩] }) (K : Kept F w y) (K2 : Kept F y y2) (r : Ending) (hr : r = .returned (.tuple #[.int .i64 ((Y.all.length : Int) + 1), .int .i64 0])) :
    r = .returned (.tuple #[.int .i64 (Y.commitRev u), .int .i64 (commitErr Y u)]) ∧ RIn y2 (grow F w y2) b (Y.commit i u) ∧ Kept F w y2 := by
  unfold RS.commitRev RS.commit
  rw [hc]
  refine ⟨hr, ?_, K.trans K2 (fun _ f => f) (fun _ _ f => f)⟩
  exact RIn.more R (fun k h => h.elim Or.inl (fun h => Or.inr ⟨Nat.le_trans K.size h.1, h.2⟩)) (fun k h => h.elim (fun h => RIn.below R k (Or.inl h)) (fun h => h.2))
theorem Ent.lit (X : Ent) : X.cells.toArray = #[Value.string X.path, Value.int .i64 X.rev, Value.int .i64 X.key, Value.int .i64 X.draw, Value.string X.sealed, Value.bool X.gone] := rfl
theorem last_lit (w : World) (p : ByteArray) (rev : Int) (h : RIn w F b Y) (hn : Y.all.length ≤ 100000000) (X : Ent) (T : Bool) (hX : (lastOf (Y.all.take rev.toNat) p).getD Ent.zero = X) (hT : (lastOf (Y.all.take rev.toNat) p).isSome = T) :
    Calls Tryz.prog 69 #[.pointer (some ⟨b, 0, none⟩), .string p, .int .i64 rev] w fun e w' =>
      e = .returned (.tuple #[.agg #[.string X.path, .int .i64 X.rev, .int .i64 X.key, .int .i64 X.draw, .string X.sealed, .bool X.gone], .bool T]) ∧ Low w.heap.size w w' := by
  subst hX
  subst hT
  exact last_any w p rev h hn
set_option maxRecDepth 100000 in
set_option maxHeartbeats 2000000 in
theorem Commit_any (w : World) (i : Nat) (sn : Int) (u : RUnd) (h : RIn w F b Y) (ha : At Y i sn u) (hu : u.on = true) (hn : Y.all.length ≤ 100000000) (hk : Y.keys.length ≤ 6) (hk1 : 1 ≤ Y.keys.length) :
    Calls Tryz.prog 29 #[.pointer (some ⟨b, 0, none⟩), .int .i64 i] w fun e w' => e = .returned (.tuple #[.int .i64 (Y.commitRev u), .int .i64 (commitErr Y u)]) ∧ RIn w' (grow F w w') b (Y.commit i u) ∧ Kept F w w' := by
  have HR := hid h
  have HA := hid ha
  have HS := hid ha.srv
  have hb := h.lt
  obtain ⟨gO, capO, hcO, hgO, hcs⟩ := h.opAt ha
  have HC := hid (RUnd.range hcs)
  have i1 : (i : Int) < (Y.ops.length : Int) := by have := ha.len.2; omega
  clear h hcs ha
  go_enter Tryz.func29, Tryz.ntmps29
  go_upto_region 7 with (first | (go_at_call 60; refine (server_any _ _ HR.out).mono ?_; rw [HS.out]; rintro e y1 ⟨rfl, hy⟩; obtain rfl := hy.symm) | ((with_reducible refine ld72 (.tmp 22) gO (i * 9) u ?_ HC.out ?_); rfl) | ((with_reducible refine stB72 (.tmp 7) (.tmp 23) w.heap.size RUnd.zero u ?_ ?_ ?_ ?_); rfl; rfl; exact (Blk.new w 72 RUnd.zero.cells); intro w1 b1 k1 s1; have d0 : w1.cell? ⟨w.heap.size, 0, none⟩ = some (.bool u.on) := b1.cell 0; have K1 := hid k1; have B1 := hid b1; clear b1 k1 s1))
  have l1 : Low w.heap.size w w1 := low_set ((Low.refl _ w).alloc (Nat.le_refl _) _) K1.out (Nat.le_refl _) (by simp)
  have L1 := hid l1
  have R1 := hid (HR.out.low l1)
  obtain ⟨gO2, capO2, hcO2, hgO2, _⟩ := R1.out.opAt HA.out
  obtain ⟨r2, k2, t2⟩ := R1.out.putOp hcO2 i HA.out.len.2 RUnd.zero
  have R2 : Hid (RIn (w1.setCells gO2 (i * 9) RUnd.zero.cells) F b (Y.setOp i RUnd.zero)) := r2
  have K2 := hid k2
  have T2 := hid t2
  clear hcO hgO hb d0 r2 k2 t2 l1 HC K1
  go_upto_region 8 with ((with_reducible refine st72 (.tmp 33) (.tmp 32) gO2 (i * 9) RUnd.zero ?_ ?_ T2.out ?_); rfl; rfl)
  go_name_world W hW
  rw [hW] at R2 K2
  have B2 : Hid (Blk W w.heap.size 72 u.cells) := B1.out.kept K2.out (fun f => by have := HR.out.below _ f; omega)
  have KW : Hid (Kept F w W) := L1.out.kept.trans K2.out (fun _ f => f.elim) (fun _ _ f => f)
  have hlt := B2.out.lt
  have HLT := hid hlt
  clear hcO2 hgO2 T2 hW hlt
  obtain ⟨a3, cap3, hc3', _⟩ := R2.out.all
  rw [List.length_map] at hc3'
  have hc3 : W.cell? ⟨b, 3, none⟩ = some (.slice a3 Y.all.length cap3) := hc3'
  have u1 : W.cell? ⟨w.heap.size, 1, none⟩ = some (.string u.e.path) := B2.out.cell 1
  clear hc3'
  go_upto_region 9 with (go_at_call 68; refine (promoted_any (Y := Y.setOp i RUnd.zero) _ R2.out hk hk1).mono ?_; rintro e y1 ⟨rfl, hy⟩; obtain rfl := hy.symm)
  have lb : b < W.heap.size := R2.out.lt
  have lw := HLT.out
  obtain ⟨L, hL⟩ : ∃ L, L = lastOf Y.all u.e.path := ⟨_, rfl⟩
  have HLL := hid hL
  have HE : Hid (lastOf (List.take (Int.toNat (Y.all.length : Int)) (Y.setOp i RUnd.zero).all) u.e.path = L) := by show lastOf (List.take (Int.toNat (Y.all.length : Int)) Y.all) u.e.path = L; rw [Int.toNat_natCast, List.take_length, hL]
  obtain ⟨X, hX⟩ : ∃ X, X = L.getD Ent.zero := ⟨_, rfl⟩
  have HX := hid hX
  obtain ⟨T, hT⟩ : ∃ T, T = L.isSome := ⟨_, rfl⟩
  have HT := hid hT
  have HX2 : Hid ((lastOf (List.take (Int.toNat (Y.all.length : Int)) (Y.setOp i RUnd.zero).all) u.e.path).getD Ent.zero = X) := by show _ = _; rw [HE.out, hX]
  have HT2 : Hid ((lastOf (List.take (Int.toNat (Y.all.length : Int)) (Y.setOp i RUnd.zero).all) u.e.path).isSome = T) := by show _ = _; rw [HE.out, hT]
  clear hL hX hT
  go_cut [9, 10] (fun m t wc => ∃ M, m = .pointer (some ⟨M, 0, none⟩) ∧ t = .bool T ∧ Hid (Low W.heap.size W wc ∧ W.heap.size ≤ M ∧ Blk wc M 50 X.cells))
  case first =>
    go_region_with (first | (go_at_call 69; refine (last_lit (Y := Y.setOp i RUnd.zero) _ u.e.path (Y.all.length : Int) (by exact R2.out.drew) hn X T HX2.out HT2.out).mono ?_; rintro e y2 ⟨rfl, l2⟩; have LL2 : Hid (Low W.heap.size W y2) := (Low.refl _ W).drew.trans l2; clear l2) | (go_at_call 69; refine (last_lit (Y := Y.setOp i RUnd.zero) _ u.e.path (Y.all.length : Int) (by exact (R2.out.alloc _).drew) hn X T HX2.out HT2.out).mono ?_; rintro e y2 ⟨rfl, l2⟩; have LL2 : Hid (Low W.heap.size W y2) := ((Low.refl _ W).alloc (Nat.le_refl _) _).drew.trans (l2.mono (by simp)); have bz : Blk y2 W.heap.size 50 Ent.zero.cells := (Blk.new W 50 Ent.zero.cells).drew.low l2 (by simp); have z0 : y2.cell? ⟨W.heap.size, 0, none⟩ = some (.string ⟨#[]⟩) := bz.cell 0; have z1 : y2.cell? ⟨W.heap.size, 1, none⟩ = some (.int .i64 0) := bz.cell 1; have z2 : y2.cell? ⟨W.heap.size, 2, none⟩ = some (.int .i64 0) := bz.cell 2; have z3 : y2.cell? ⟨W.heap.size, 3, none⟩ = some (.int .i64 0) := bz.cell 3; have z4 : y2.cell? ⟨W.heap.size, 4, none⟩ = some (.string ⟨#[]⟩) := bz.cell 4; have z5 : y2.cell? ⟨W.heap.size, 5, none⟩ = some (.bool false) := bz.cell 5; have g0 := bz.frozen 0; have g1 := bz.frozen 1; have g2 := bz.frozen 2; have g3 := bz.frozen 3; have g4 := bz.frozen 4; have g5 := bz.frozen 5; have BZ := hid bz; clear l2 bz))
    all_goals
      go_wp2_with fail
      go_meet
    all_goals first | exact metB LL2.out BZ.out | exact metA LL2.out
  case rest =>
    obtain ⟨M, rfl, rfl, HM⟩ := hcut
    have BN : Hid (Blk wc w.heap.size 72 u.cells) := B2.out.low HM.out.1 HLT.out
    have RC : Hid (RIn wc F b (Y.setOp i RUnd.zero)) := R2.out.low HM.out.1
    have m5 : wc.cell? ⟨M, 5, none⟩ = some (.bool X.gone) := HM.out.2.2.cell 5
    obtain ⟨th, hth⟩ : ∃ th, th = (T && !X.gone) := ⟨_, rfl⟩
    have HTH := hid hth
    clear hth hc3 u1 lb lw
    go_upto_region 10 with fail
    go_cut [10] (fun t wx => t = .bool th ∧ wc = wx)
    case first =>
      cases cT : T
      · go_wp2_with fail
        go_meet
        exact ⟨by rw [HTH.out, cT]; rfl, rfl⟩
      · go_wp2_with fail
        go_meet
        exact ⟨by rw [HTH.out, cT]; rfl, rfl⟩
    case rest =>
      obtain ⟨rfl, rfl⟩ := hcut
      go_upto_region 12 with (go_at_call 70; refine (full_any (Y := Y.setOp i RUnd.zero) _ RC.out hn).mono ?_; rintro e y3 ⟨rfl, l3⟩; have L3 := hid l3; have b3 := BN.out.low l3 BN.out.lt; have b4 := HM.out.2.2.low l3 HM.out.2.2.lt; have v6 : y3.cell? ⟨w.heap.size, 6, none⟩ = some (.bool u.e.gone) := b3.cell 6; have v7 : y3.cell? ⟨w.heap.size, 7, none⟩ = some (.int .i64 u.epoch) := b3.cell 7; have v8 : y3.cell? ⟨w.heap.size, 8, none⟩ = some (.int .i64 u.want) := b3.cell 8; have m1 : y3.cell? ⟨M, 1, none⟩ = some (.int .i64 X.rev) := b4.cell 1; have B3 := hid b3; have HEN : Hid (y3.rangeAt w.heap.size 1 u.e.cells) := RUnd.entry b3; clear l3 b3 b4)
      have R3 : Hid (RIn y3 F b (Y.setOp i RUnd.zero)) := RC.out.low L3.out
      have KF : Hid (Kept F w y3) := (KW.out.trans HM.out.1.kept (H := F) (fun _ f => f) (fun _ _ f => f.elim)).trans L3.out.kept (fun _ f => f) (fun _ _ f => f.elim)
      have hp0 : promOf (Y.setOp i RUnd.zero).keys = promOf Y.keys := rfl
      have hf0 : fullOf (Y.setOp i RUnd.zero) = fullOf Y := rfl
      rw [hp0, hf0]
      obtain ⟨p, hp⟩ : ∃ p, p = promOf Y.keys := ⟨_, rfl⟩
      obtain ⟨fu, hfu⟩ : ∃ fu, fu = fullOf Y := ⟨_, rfl⟩
      rw [← hp, ← hfu]
      have hC : Hid (commitErr Y u = (if decide (u.epoch < p) then 9 else if (u.want == 0 && th) || (decide (0 < u.want) && (!th || (X.rev != u.want))) then 10 else if u.e.gone && !th then 12 else if fu then 11 else 0)) := by
        show _ = _
        rw [commitErr, conflictOf, thereOf, ← HLL.out, ← HX.out, ← HT.out, ← HTH.out, ← hp, ← hfu]
      clear hp hfu hp0 hf0 m5
      cases cth : th
      · rw [cth] at hC
        go_wp2_with (first | ((with_reducible refine ld50 (.tmp 94) w.heap.size 1 u.e ?_ HEN.out ?_); rfl) | (go_at_call 71; refine (put_any (Y := Y.setOp i RUnd.zero) _ u.e R3.out hn).mono ?_; rintro e y4 ⟨rfl, r4, k4⟩; have R4 := hid r4; have K4 := hid k4; obtain ⟨a5, cap5, hc5', _⟩ := RIn.all r4; rw [List.length_map] at hc5'; have hc5 : y4.cell? ⟨b, 3, none⟩ = some (.slice a5 (Y.all ++ [RKept.mk { u.e with rev := (Y.all.length : Int) + 1 } false]).length cap5) := hc5'; rw [List.length_append, List.length_singleton] at hc5; clear r4 k4 hc5'))
        all_goals
          go_ret2
          first
            | (refine commit_err 9 ?_ rfl R3.out KF.out _ rfl; rw [hC.out]; (try have hh : ¬ 0 < u.want := by omega); simp [*]; done)
            | (refine commit_err 10 ?_ rfl R3.out KF.out _ rfl; rw [hC.out]; (try have hh : ¬ 0 < u.want := by omega); simp [*]; done)
            | (refine commit_err 12 ?_ rfl R3.out KF.out _ rfl; rw [hC.out]; (try have hh : ¬ 0 < u.want := by omega); simp [*]; done)
            | (refine commit_err 11 ?_ rfl R3.out KF.out _ rfl; rw [hC.out]; (try have hh : ¬ 0 < u.want := by omega); simp [*]; done)
            | (refine commit_ok ?_ R4.out KF.out K4.out _ rfl; rw [hC.out]; (try have hh : ¬ 0 < u.want := by omega); simp [*]; done)
      · rw [cth] at hC
        go_wp2_with (first | ((with_reducible refine ld50 (.tmp 94) w.heap.size 1 u.e ?_ HEN.out ?_); rfl) | (go_at_call 71; refine (put_any (Y := Y.setOp i RUnd.zero) _ u.e R3.out hn).mono ?_; rintro e y4 ⟨rfl, r4, k4⟩; have R4 := hid r4; have K4 := hid k4; obtain ⟨a5, cap5, hc5', _⟩ := RIn.all r4; rw [List.length_map] at hc5'; have hc5 : y4.cell? ⟨b, 3, none⟩ = some (.slice a5 (Y.all ++ [RKept.mk { u.e with rev := (Y.all.length : Int) + 1 } false]).length cap5) := hc5'; rw [List.length_append, List.length_singleton] at hc5; clear r4 k4 hc5'))
        all_goals
          go_ret2
          first
            | (refine commit_err 9 ?_ rfl R3.out KF.out _ rfl; rw [hC.out]; (try have hh : ¬ 0 < u.want := by omega); simp [*]; done)
            | (refine commit_err 10 ?_ rfl R3.out KF.out _ rfl; rw [hC.out]; (try have hh : ¬ 0 < u.want := by omega); simp [*]; done)
            | (refine commit_err 12 ?_ rfl R3.out KF.out _ rfl; rw [hC.out]; (try have hh : ¬ 0 < u.want := by omega); simp [*]; done)
            | (refine commit_err 11 ?_ rfl R3.out KF.out _ rfl; rw [hC.out]; (try have hh : ¬ 0 < u.want := by omega); simp [*]; done)
            | (refine commit_ok ?_ R4.out KF.out K4.out _ rfl; rw [hC.out]; (try have hh : ¬ 0 < u.want := by omega); simp [*]; done)
end Go.Proofs.YtnjkpghchgjbaaaGreatDoor
namespace Go.Proofs.YtnjkpghchgjbaaaGreatDoor
open Go.RowKit

variable {F : Nat → Prop} {b : Nat} {X : PS}

def opCells (u : PSrv) : List Value := [.int .i64 u.epoch, .int .i64 u.rev, .string u.e.path, .int .i64 u.e.rev, .int .i64 u.e.key, .int .i64 u.e.draw, .string u.e.sealed, .bool u.e.gone]
/-- Why an operation may not be committed. -/
def pErr (wrote : Int) (rev : Int) (fu : Bool) (u : PSrv) : Int :=
  if decide (u.epoch < wrote) then 9 else if (u.rev != -1) && (u.rev != rev) then 10 else if u.e.gone && (rev == 0) then 12 else if fu then 11 else 0
set_option maxRecDepth 100000 in
set_option maxHeartbeats 1000000 in
theorem mayCommit_any (w : World) (u : PSrv) (K : PKey) (ki : Nat) (h : XIn w F b X) (hw : X.write = (ki : Int) + 1) (hk : X.keys[ki]? = some K) (hl : X.keys.length ≤ 6) (hn : X.entries.length ≤ 1000) :
    Calls Tryz.prog 66 #[.pointer (some ⟨b, 0, none⟩), .agg #[.int .i64 u.epoch, .int .i64 u.rev, .string u.e.path, .int .i64 u.e.rev, .int .i64 u.e.key, .int .i64 u.e.draw, .string u.e.sealed, .bool u.e.gone]] w fun e w' => e = .returned (.int .i64 (pErr K.wrote (pRevOf X u.e.path) (pFull X) u)) ∧ Low w.heap.size w w' := by
  have HR := hid h
  have HK := hid hk
  have c3 : w.cell? ⟨b, 3, none⟩ = some (.int .i64 ((ki : Int) + 1)) := by rw [← hw]; exact xin_write h
  have hb := h.lt
  have hki : ki < X.keys.length := (List.getElem?_eq_some_iff.1 hk).1
  obtain ⟨rv, hrv⟩ : ∃ rv, pRevOf X u.e.path = rv := ⟨_, rfl⟩
  obtain ⟨fu, hfu⟩ : ∃ fu, pFull X = fu := ⟨_, rfl⟩
  have HRV := hid hrv
  have HFU := hid hfu
  obtain ⟨er, her⟩ : ∃ er, er = pErr K.wrote rv fu u := ⟨_, rfl⟩
  have HER := hid her
  rw [hrv, hfu, ← her]
  clear h hk hw hrv hfu her
  go_enter Tryz.func66, Tryz.ntmps66
  go_wp2_with (first | (go_at_call 86; refine (key_any _ ki K (by exact HR.out.alloc _) HK.out (by omega)).mono ?_; rintro r y1 ⟨rfl, l1⟩; have b1 : Blk y1 w.heap.size 94 (opCells u) := (Blk.new w 94 (opCells u)).low l1 (by simp); have L1 : Hid (Low w.heap.size w y1) := ((Low.refl _ w).alloc (Nat.le_refl _) _).trans (l1.mono (by simp)); have v0a : y1.cell? ⟨w.heap.size, 0, none⟩ = some (.int .i64 u.epoch) := b1.cell 0; have v1a : y1.cell? ⟨w.heap.size, 1, none⟩ = some (.int .i64 u.rev) := b1.cell 1; have v2a : y1.cell? ⟨w.heap.size, 2, none⟩ = some (.string u.e.path) := b1.cell 2; have v7a : y1.cell? ⟨w.heap.size, 7, none⟩ = some (.bool u.e.gone) := b1.cell 7; have ly := b1.lt; have B1 := hid b1; have X1 := hid (HR.out.low L1.out); clear l1 b1) | (go_at_call 87; refine (revOf_any _ _ (by exact X1.out.alloc _) hn).mono ?_; rw [HRV.out]; rintro r y2 ⟨rfl, l2⟩; have b2 : Blk y2 w.heap.size 94 (opCells u) := (B1.out.alloc _).low l2 (by have := B1.out.lt; simp; omega); have L2 : Hid (Low w.heap.size w y2) := (L1.out.alloc L1.out.size _).trans (l2.mono (by have := L1.out.size; simp; omega)); have v0b : y2.cell? ⟨w.heap.size, 0, none⟩ = some (.int .i64 u.epoch) := b2.cell 0; have v1b : y2.cell? ⟨w.heap.size, 1, none⟩ = some (.int .i64 u.rev) := b2.cell 1; have v2b : y2.cell? ⟨w.heap.size, 2, none⟩ = some (.string u.e.path) := b2.cell 2; have v7b : y2.cell? ⟨w.heap.size, 7, none⟩ = some (.bool u.e.gone) := b2.cell 7; have B2 := hid b2; have X2 := hid (HR.out.low L2.out); clear l2 b2) | (go_at_call 88; refine (pfull_any _ X2.out).mono ?_; rw [HFU.out]; rintro r y3 ⟨rfl, l3⟩; have L3 : Hid (Low w.heap.size w y3) := L2.out.trans (l3.mono L2.out.size); clear l3))
  all_goals
    go_ret
    refine ⟨?_, ?_⟩
    · rw [HER.out]
      (try have hh : ¬ u.epoch < K.wrote := by omega)
      (first | (simp [pErr, *]; done) | (simp [pErr, *]; omega) | (simp [pErr, *]; simp_all; done))
    · first | exact L3.out | exact L2.out | exact L1.out.alloc L1.out.size _
end Go.Proofs.YtnjkpghchgjbaaaGreatDoor
namespace Go.Proofs.YtnjkpghchgjbaaaGreatDoor
open Go.RowKit

variable {F : Nat → Prop} {b : Nat} {X : PS}

def byteV (n : Int) (i j : Nat) : Value := .int .u8 (if j < i then ((nonceB n j).toNat : Int) else 0)
def bytesTo (n : Int) (i : Nat) : List Value := (List.range 12).map (byteV n i)
theorem bytesTo_len (n : Int) (i : Nat) : (bytesTo n i).length = 12 := by simp [bytesTo]
theorem bytesTo_at (n : Int) (i j : Nat) (h : j < 12) : (bytesTo n i)[j]? = some (byteV n i j) := by simp [bytesTo, h]
theorem bytesTo_succ (n : Int) (i : Nat) : (bytesTo n i).set i (.int .u8 ((nonceB n i).toNat : Int)) = bytesTo n (i + 1) := by
  apply List.ext_getElem?
  intro p
  by_cases hr : p < 12
  · by_cases hp : p = i
    · subst hp
      rw [List.getElem?_set_self (by rw [bytesTo_len]; exact hr), bytesTo_at _ _ _ hr]
      simp [byteV]
    · rw [List.getElem?_set_ne (fun e => hp e.symm), bytesTo_at _ _ _ hr, bytesTo_at _ _ _ hr]
      unfold byteV
      by_cases h2 : p < i
      · rw [if_pos h2, if_pos (by omega)]
      · rw [if_neg h2, if_neg (by omega)]
  · rw [List.getElem?_eq_none (by rw [List.length_set, bytesTo_len]; omega), List.getElem?_eq_none (by rw [bytesTo_len]; omega)]
theorem byte_of (n x : Int) (i : Nat) (h : x = n / 256 ^ i) : ((nonceB n i).toNat : Int) = x % 256 := by
  unfold nonceB
  rw [← h]
  have h1 : 0 ≤ x % 256 ∧ x % 256 < 256 := by omega
  rw [UInt8.toNat_ofNat']
  omega
theorem made_bytes (n : Int) : madeCells #[Value.int .u8 0] 12 = (bytesTo n 0).toArray := by
  have : bytesTo n 0 = List.replicate 12 (Value.int .u8 0) := by
    apply List.ext_getElem?
    intro p
    by_cases hr : p < 12
    · rw [bytesTo_at _ _ _ hr, List.getElem?_replicate, if_pos hr]; simp [byteV]
    · rw [List.getElem?_eq_none (by rw [bytesTo_len]; omega), List.getElem?_eq_none (by simp; omega)]
  rw [this, ← toList_madeCells_one]
theorem info5b : (Tryz.prog.info? 5).map (fun i => (i.zero, i.size, i.bytes)) = some (some (.int .u8 0), 1, 1) := by kernel_rfl
theorem make12 (n : Int) (w : World) : (Instr.makeSlice 125 (.int .i64 12) (.int .i64 12)).run Tryz.prog w = .ok (.slice (some ⟨w.heap.size, 0, none⟩) 12 12) (w.alloc (.cells (bytesTo n 0).toArray 5)) := by
  rw [← made_bytes n]
  exact run_make_row' (P := Tryz.prog) 125 5 (.int .u8 0) 1 Tryz.underlying125 info5b rfl .i64 .i64 12 (by omega) (by omega) w
set_option maxRecDepth 100000 in
set_option maxHeartbeats 1000000 in
theorem nonceOf_any (w : World) (n : Int) (h0 : 0 ≤ n) (h1 : n ≤ 1000000000000) :
    Calls Tryz.prog 94 #[.int .i64 n] w fun e w' => e = .returned (.string (nonceTo n 12)) ∧ Low w.heap.size w w' := by
  have hmk := make12 n
  go_enter Tryz.func94, Tryz.ntmps94
  go_wp2_with fail
  clear hmk
  generalize hG : w.heap.size = G at *
  go_loopg [4, 5] 12 (fun left xv iv wr => ∃ (i : Nat) (x : Int), left = 12 - i ∧ i ≤ 12 ∧ 0 ≤ x ∧ x ≤ 1000000000000 ∧ xv = .int .i64 x ∧ iv = .int .i64 (i : Int) ∧ Hid (x = n / 256 ^ i ∧ Low G w wr ∧ Blk wr G 5 (bytesTo n i)))
  case atStart =>
    refine ⟨0, n, rfl, by omega, h0, h1, rfl, rfl, by simp, ?_, ?_⟩
    · exact (Low.refl _ w).alloc (by omega) _
    · have q := Blk.new w 5 (bytesTo n 0)
      rw [hG] at q
      exact q
  case round =>
    obtain ⟨i, x, hgk, hi, x0, x1, rfl, rfl, HI⟩ := hrel
    have HGK := hid hgk
    clear hgk h0 h1
    by_cases h2 : i < 12
    · have q1 : decide ((i : Int) < 12) = true := by simp; omega
      have c0 : wr.cell? ⟨G, i, none⟩ = some (.int .u8 0) := by rw [HI.out.2.2.cell, bytesTo_at _ _ _ h2, byteV, if_neg (by omega)]
      have f0 := HI.out.2.2.frozen i
      have i1 : (i : Int) < 12 := by omega
      go_wp2_with fail
      go_roundg (12 - (i + 1))
      case rel =>
        obtain ⟨e1, e2, e3⟩ := HI.out
        refine ⟨i + 1, x / 256, rfl, by omega, Int.ediv_nonneg x0 (by omega), by omega, rfl, by simp, ?_, e2.setCell (Nat.le_refl _) _, ?_⟩
        · rw [e1, Int.ediv_ediv_of_nonneg (Int.pow_nonneg (by omega)), ← Int.pow_succ]
        · rw [← bytesTo_succ, byte_of n x i e1]
          exact e3.set i _
      case measure => have := HGK.out; omega
    · have q1 : decide ((i : Int) < 12) = false := by simp; omega
      obtain rfl : i = 12 := by omega
      have hcv : (convert 125 9 (.slice (some ⟨G, 0, none⟩) 12 12)).run Tryz.prog wr = .ok (.string (nonceTo n 12)) wr := by
        have hl : (nonceTo n 12).data.toList.length = 12 := nonceTo_size n 12
        have e := run_convert_bytes_back (P := Tryz.prog) wr 125 9 5 ⟨G, 0, none⟩ 12 (nonceTo n 12).data.toList Tryz.underlying125 Tryz.underlying5 Tryz.underlying9 (fun j hj => by
          rw [hl] at hj
          rw [Addr.add_mid, Nat.zero_add, HI.out.2.2.cell, bytesTo_at _ _ _ hj, byteV, if_pos hj]
          simp [nonceTo])
        rw [hl] at e
        rw [e]
      go_wp2_with fail
      go_ret
      exact ⟨rfl, by rw [hG]; exact HI.out.2.1⟩
end Go.Proofs.YtnjkpghchgjbaaaGreatDoor
