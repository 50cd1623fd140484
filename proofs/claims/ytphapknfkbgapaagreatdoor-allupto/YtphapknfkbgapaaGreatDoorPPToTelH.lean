import Derived.Test.YtphapknfkbgapaaGreatDoorPIToPK
import Derived.Test.YtphapknfkbgapaaGreatDoorTurGToTelB
import Derived.Test.YtphapknfkbgapaaGreatDoorRelEToLawK
import Derived.Test.YtphapknfkbgapaaGreatDoorLawOToLawQ
namespace Go.Proofs.YtphapknfkbgapaaGreatDoor
open Go.RowKit

variable {F : Nat → Prop} {b : Nat} {X : PS}

/-! Begin, where the key was destroyed. -/
set_option maxRecDepth 100000 in
set_option maxHeartbeats 1000000 in
theorem sealed_gone (w : World) (path plain : ByteArray) (K : PKey) (i : Nat) (h : XIn w F b X) (hk : X.keys[i]? = some K) (hi6 : i ≤ 6) (hK : keyGone K = true) :
    Calls Tryz.prog 87 #[.pointer (some ⟨b, 0, none⟩), .int .i64 ((i : Int) + 1), .string path, .string plain] w fun r w' =>
      r = .returned (.tuple #[.agg Ent.zero.cells.toArray, .int .i64 14]) ∧ Low w.heap.size w w' := by
  have HR := hid h
  have HK := hid hk
  have KG := hid hK
  have hb := h.lt
  clear h hk hK
  go_enter Tryz.func87, Tryz.ntmps87
  go_wp2_with (first | (go_at_call 103; refine (key_any _ i K (by exact HR.out.alloc _) HK.out (by omega)).mono ?_; rintro r y1 ⟨rfl, l1⟩; have bN : Blk y1 w.heap.size 50 Ent.zero.cells := (Blk.new w 50 Ent.zero.cells).low l1 (by simp); have L1 : Hid (Low w.heap.size w y1) := ((Low.refl _ w).alloc (Nat.le_refl _) _).trans (l1.mono (by simp)); have BN1 := hid bN; clear l1 bN) | (go_at_call 91; refine (destroyed_any _ K).mono ?_; rw [KG.out]; rintro r y2 ⟨rfl, l2⟩; have bNb : Blk y2 w.heap.size 50 Ent.zero.cells := (BN1.out.alloc _).low l2 (by have := BN1.out.lt; simp; omega); have L2 : Hid (Low w.heap.size w y2) := (L1.out.alloc L1.out.size _).trans (l2.mono (by have := L1.out.size; simp; omega)); have BN2 := hid bNb; clear l2 bNb) | ((with_reducible refine st50 (.tmp 8) (.tmp 20) w.heap.size Ent.zero Ent.zero ?_ ?_ BN2.out ?_); rfl; rfl; intro w1 b1 k1 t1; have B1 := hid b1; have K1 := hid k1; have LT1 := hid t1; clear b1 k1 t1))
  (try simp only [Exit.inBlock, Exit.then])
  refine bodyPost_ret (results_cell_tmp rfl w.heap.size Ent.zero.cells _ rfl B1.out.whole Tryz.underlying50 rfl (sz50 _)) rfl ?_
  exact ⟨rfl, low_set L2.out K1.out (Nat.le_refl _) (by have := BN2.out.lt; have := LT1.out; omega)⟩
set_option maxRecDepth 100000 in
set_option maxHeartbeats 1000000 in
theorem prepared_gone (w : World) (seen : Int) (o : AOp) (K : PKey) (i : Nat) (hk2 : (o.kind == 2) = false) (h : XIn w F b X) (hw : writerOf X.keys seen = (i : Int) + 1) (hk : X.keys[i]? = some K) (hl : X.keys.length ≤ 6) (hK : keyGone K = true) :
    Calls Tryz.prog 63 #[.pointer (some ⟨b, 0, none⟩), .int .i64 seen, .agg #[.int .i64 o.kind, .string o.path, .string o.plain, .int .i64 o.rev]] w fun e w' => e = .returned (.tuple #[.agg Ent.zero.cells.toArray, .int .i64 14]) ∧ Low w.heap.size w w' := by
  have HR := hid h
  have HW := hid hw
  have HK := hid hk
  have HT := hid hK
  have hil : i < X.keys.length := (List.getElem?_eq_some_iff.1 hk).1
  clear h hw hk hK
  have hV : Hid (∀ A B : Obj, Low w.heap.size w ((w.alloc A).alloc B)) := fun A B => ((Low.refl _ w).alloc (Nat.le_refl _) A).alloc (by simp) B
  go_enter Tryz.func63, Tryz.ntmps63
  go_wp2_with (first | (go_at_call 100; refine (writer_any _ _ (by exact (HR.out.alloc _).alloc _) hl (by omega)).mono ?_; rw [HW.out]; rintro e y1 ⟨rfl, rfl⟩) | (go_at_call 87; refine (sealed_gone _ _ _ K i (by exact (HR.out.alloc _).alloc _) HK.out (by omega) HT.out).mono ?_; rintro e y2 ⟨rfl, l2⟩; have L2 : Hid (Low w.heap.size w y2) := (hV.out _ _).trans (l2.mono (by simp; omega)); have BN : Hid (Blk y2 (w.heap.size + 1) 50 Ent.zero.cells) := (show Blk ((w.alloc (.cells o.cells.toArray 80)).alloc (.cells Ent.zero.cells.toArray 50)) (w.heap.size + 1) 50 Ent.zero.cells from (by (have q := Blk.new (w.alloc (.cells o.cells.toArray 80)) 50 Ent.zero.cells); rw [World.size_alloc] at q; exact q)).low l2 (by simp); clear l2) | ((with_reducible refine st50 (.tmp 6) (.tmp 25) (w.heap.size + 1) Ent.zero Ent.zero ?_ ?_ BN.out ?_); rfl; rfl; intro w1 b1 k1 t1; have B1 := hid b1; have K1 := hid k1; clear b1 k1 t1))
  (try simp only [Exit.inBlock, Exit.then])
  refine bodyPost_ret (results_cell_tmp rfl (w.heap.size + 1) Ent.zero.cells _ rfl B1.out.whole Tryz.underlying50 rfl (sz50 _)) rfl ?_
  exact ⟨rfl, low_set L2.out K1.out (by omega) (by have := BN.out.lt; omega)⟩
set_option maxRecDepth 100000 in
set_option maxHeartbeats 1000000 in
theorem pBegin_gone (w : World) (i : Nat) (s : PSrv) (o : AOp) (K : PKey) (ki : Nat) (h : XIn w F b X) (ha : X.servers[i]? = some s) (hu : s.busy = false) (hsn : (s.seen == 0) = false) (hp : o.path.size ≤ maxLen) (hq : o.plain.size ≤ maxLen) (ho : properOf o = true) (hk2 : (o.kind == 1) = true) (hw : writerOf X.keys s.seen = (ki : Int) + 1) (hk : X.keys[ki]? = some K) (hl : X.keys.length ≤ 6) (hK : keyGone K = true) :
    Calls Tryz.prog 27 #[.pointer (some ⟨b, 0, none⟩), .int .i64 (i : Int), .agg #[.int .i64 o.kind, .string o.path, .string o.plain, .int .i64 o.rev]] w fun e w' => e = .returned (.int .i64 14) ∧ Low w.heap.size w w' := by
  have hk3 : (o.kind == 2) = false := beq_eq_false_iff_ne.2 (by have := beq_iff_eq.1 hk2; omega)
  have HR := hid h
  have HS := hid (psrv ha).1
  have hb := h.lt
  obtain ⟨gS, capS, hcS, hgS, hcs, _⟩ := xin_srvAt h ha
  have s0 : w.cell? ⟨gS, i * 10, none⟩ = some (.int .i64 s.seen) := hcs 0 (by omega)
  have s1 : w.cell? ⟨gS, i * 10 + 1, none⟩ = some (.bool s.busy) := hcs 1 (by omega)
  have i1 := (psrv ha).2
  clear h hcs ha
  have HP := hid hp
  have HQ := hid hq
  have HO := hid ho
  have HW := hid hw
  have HKK := hid hk
  have HT := hid hK
  clear hp hq ho hw hk hK
  go_enter Tryz.func27, Tryz.ntmps27
  go_wp2_with (first | (go_at_call 60; refine (isServer_any _ _ (by exact HR.out.alloc _)).mono ?_; rw [HS.out]; rintro e y1 ⟨rfl, rfl⟩) | (go_at_call 62; refine (isOperation_any _ o HP.out HQ.out).mono ?_; rw [HO.out]; rintro e y1 ⟨rfl, l1⟩; have L1 : Hid (Low w.heap.size w y1) := ((Low.refl _ w).alloc (Nat.le_refl _) _).trans (l1.mono (by simp)); have b75 : Blk y1 w.heap.size 80 o.cells := (Blk.new w 80 o.cells).low l1 (by simp); have n0 : y1.cell? ⟨w.heap.size, 0, none⟩ = some (.int .i64 o.kind) := b75.cell 0; have n1 : y1.cell? ⟨w.heap.size, 1, none⟩ = some (.string o.path) := b75.cell 1; have n2 : y1.cell? ⟨w.heap.size, 2, none⟩ = some (.string o.plain) := b75.cell 2; have n3 : y1.cell? ⟨w.heap.size, 3, none⟩ = some (.int .i64 o.rev) := b75.cell 3; have X1 : Hid (XIn y1 F b X) := HR.out.low L1.out; clear l1 b75) | (go_at_call 63; refine (prepared_gone _ _ o K ki hk3 X1.out HW.out HKK.out hl HT.out).mono ?_; rintro e y2 ⟨rfl, l2⟩; have L2 : Hid (Low w.heap.size w y2) := L1.out.trans (l2.mono L1.out.size); clear l2) | ((with_reducible refine st50 (.tmp 8) (.tmp 41) y2.heap.size Ent.zero Ent.zero ?_ ?_ ?_ ?_); rfl; rfl; exact (Blk.new y2 50 Ent.zero.cells); intro W b3 k3 t3; have LW : Hid (Low w.heap.size w W) := low_set (L2.out.alloc L2.out.size _) k3 L2.out.size (by have := L2.out.size; simp; omega); clear b3 k3 t3))
  go_ret
  exact ⟨rfl, LW.out⟩
end Go.Proofs.YtphapknfkbgapaaGreatDoor
namespace Go.Proofs.YtphapknfkbgapaaGreatDoor
open Go.RowKit

variable {X : PS} {Y : RS} {n : Nat}
theorem KSame.dead {p : PKey} {k : RKey} (h : KSame p k) (hg : k.gone = true) : keyGone p = true := by
  unfold keyGone
  rw [h.gone hg]
  exact beq_self_eq_true _
theorem begin_two (h : Rel2 n X Y) (hn : n ≤ 50000000) (s : Int) (o : AOp) (hp : o.path.size ≤ maxLen) (hq : o.plain.size ≤ maxLen) :
    ∃ v : Int, Pair2 27 28 [.int .i64 s, .agg #[.int .i64 o.kind, .string o.path, .string o.plain, .int .i64 o.rev]] X Y n (.int .i64 v) := by
  cases hs : isSrv Y.seen.length s
  · have hx : isSrv X.servers.length s = false := by rw [h.len.1]; exact hs
    exact ⟨4, X, Y, p_low (fun w F b hX _ _ => pBegin_srv w s o hX hx), r_low (fun w F b hR => Begin_srv w s o hR hs), h.up⟩
  · obtain ⟨i, p, sn, u, rfl, hpp, ha, hS, hi⟩ := h.at hs
    cases hbz : p.busy
    · have hu : u.on = false := by rw [← hS.busy]; exact hbz
      cases hzn : (sn == 0)
      · have hz : (p.seen == 0) = false := by rw [hS.seen]; exact hzn
        have h1n : 1 ≤ sn := by have := hS.sn.1; have : sn ≠ 0 := by simpa using hzn
                                omega
        cases ho : properOf o
        · exact ⟨7, X, Y, p_low (fun w F b hX _ _ => pBegin_op w i p o hX hpp hbz hz hp hq ho), r_low (fun w F b hR => Begin_op w i sn u o hR ha hu hzn hp hq ho), h.up⟩
        · obtain ⟨o1, o2, o3, o4⟩ := proper_parts ho
          cases hk : (o.kind == 1)
          · have q := (h.put hi ⟨p.seen, true, p.seen, o.rev, delEnt o.path⟩ sn ⟨true, delEnt o.path, sn, o.rev⟩ ⟨hS.seen, hS.sn, rfl, fun _ => ⟨hS.seen, rfl, rfl, o2, ⟨h1n, hS.sn.2⟩, o1, fun e => by cases e⟩⟩).up
            rw [set_same ha.seen] at q
            exact ⟨0, _, _, p_kept (fun w F b hX _ _ => pBegin_del w i p o hX hpp hbz hz hp hq ho (o4 hk)), r_kept (fun w F b hR => Begin_del w i sn u o hR ha hu hzn hp hq ho hk), q⟩
          · obtain ⟨j, pk, K, q0, q1, q2, q3, _, _, _⟩ := h.keys.writing h1n
            have hw : writerOf X.keys p.seen = (j : Int) + 1 := by rw [hS.seen, h.keys.writer h1n, q0]
            have hl6 : X.keys.length ≤ 6 := by rw [h.keys.len]; exact h.keys.few.2
            cases hg : K.gone
            · obtain ⟨d0, d1, d2⟩ := h.draws
              have ht := q3.text hg
              have h2 : Rel2 (n + 1) { X with draws := X.draws + 1 } { Y with draws := Y.draws + 1 } := ⟨h.keys, h.live, h.ep, h.write, h.turn, h.room, h.rooms, h.rev, h.floor, h.floor0, ⟨by show X.draws + 1 = Y.draws + 1; rw [d0], by show 0 ≤ Y.draws + 1; omega, by show Y.draws + 1 ≤ ((n + 1 : Nat) : Int); omega⟩, h.len, h.srv, h.ent, h.few, h.revs, h.eok, h.up.all, h.gated, h.pods⟩
              have hsz := sealOf_size K.text (nonceTo (Y.draws + 1) 12) o.path o.plain
              have hpl := o3 hk
              have hok : EntOk (closedOf K.text ((j : Int) + 1) o.path o.plain (Y.draws + 1)) := ⟨o1, ⟨by show 0 ≤ Y.draws + 1; omega, by show Y.draws + 1 ≤ _; omega⟩, ⟨by show 8 ≤ (sealOf K.text (nonceTo (Y.draws + 1) 12) o.path o.plain).size; omega, by show (sealOf K.text (nonceTo (Y.draws + 1) 12) o.path o.plain).size ≤ _; omega⟩⟩
              have q := h2.put hi ⟨p.seen, true, p.seen, o.rev, closedOf pk.text ((j : Int) + 1) o.path o.plain (X.draws + 1)⟩ sn ⟨true, closedOf K.text ((j : Int) + 1) o.path o.plain (Y.draws + 1), sn, o.rev⟩ ⟨hS.seen, hS.sn, rfl, fun _ => ⟨hS.seen, rfl, by rw [d0, ht], o2, ⟨h1n, hS.sn.2⟩, o1, fun _ => ⟨hok, q0.symm⟩⟩⟩
              replace q : Rel2 (n + 1) _ { Y with draws := Y.draws + 1, seen := Y.seen.set i sn, ops := Y.ops.set i ⟨true, closedOf K.text ((j : Int) + 1) o.path o.plain (Y.draws + 1), sn, o.rev⟩ } := q
              rw [set_same ha.seen] at q
              exact ⟨0, _, _, p_kept (fun w F b hX hF h1 => pBegin_put w i p o pk j hX hpp hbz hz hp hq ho hk hw q1 hl6 (by rw [ht]; exact q3.size) ⟨by omega, by omega⟩ hF h1),
                r_kept (fun w F b hR => Begin_put w i sn u o K j hR ha hu hzn hp hq ho hk h.keys.few.2 q0 q2 hg q3.size ⟨by omega, by omega⟩), q⟩
            · exact ⟨14, X, Y, p_low (fun w F b hX _ _ => pBegin_gone w i p o pk j hX hpp hbz hz hp hq ho hk hw q1 hl6 (q3.dead hg)), r_low (fun w F b hR => Begin_gone w i sn u o K j hR ha hu hzn hp hq ho hk h.keys.few.2 q0 q2 hg), h.up⟩
      · have hz : (p.seen == 0) = true := by rw [hS.seen]; exact hzn
        exact ⟨6, X, Y, p_low (fun w F b hX _ _ => pBegin_blind w i p o hX hpp hbz hz), r_low (fun w F b hR => Begin_blind w i sn u o hR ha hu hzn), h.up⟩
    · have hu : u.on = true := by rw [← hS.busy]; exact hbz
      exact ⟨5, X, Y, p_low (fun w F b hX _ _ => pBegin_busy w i p o hX hpp hbz), r_low (fun w F b hR => Begin_busy w i sn u o hR ha hu), h.up⟩
end Go.Proofs.YtphapknfkbgapaaGreatDoor
namespace Go.Proofs.YtphapknfkbgapaaGreatDoor
open Go.RowKit

variable {X : PS} {Y : RS} {n : Nat}
theorem compact_of (hent : X.entries = keptOf Y.all) (hrevs : Revs Y.all) (r : Nat) : (X.compact (r : Int)).entries = keptOf (Y.compact r).all := by
  show X.entries.filter (fun e => outl X e (r : Int)) = keptOf (allTo Y.all (outAt Y.all r) r)
  have e0 : ∀ e : Ent, outl X e (r : Int) = (decide ((r : Int) < e.rev) || ((e.rev == ((lastOf (Y.all.take r) e.path).getD Ent.zero).rev) && !e.gone)) := by
    intro e
    unfold outl
    rw [hent, newest_last _ _ _ hrevs, Int.toNat_natCast]
  rw [hent]
  refine kept_filter (fun e => outl X e (r : Int)) (outAt Y.all r) r Y.all (fun j k hk ho => ?_)
  show outl X k.e (r : Int) = _
  rw [e0]
  have hrev := hrevs j k hk
  have hout : outAt Y.all r j = ((((lastOf (Y.all.take r) k.e.path).getD Ent.zero).rev != (j : Int) + 1) || ((lastOf (Y.all.take r) k.e.path).getD Ent.zero).gone) := by
    unfold outAt; rw [hk]
  rw [hout, hrev]
  by_cases hj : j < r
  · have d1 : decide ((r : Int) < (j : Int) + 1) = false := by simp; omega
    rw [d1, decide_eq_true hj, Bool.false_or, Bool.true_and]
    cases hL : lastOf (Y.all.take r) k.e.path with
    | none =>
      have : ((0 : Int) != (j : Int) + 1) = true := by rw [bne_iff_ne]; omega
      have h2 : (((j : Int) + 1) == (0 : Int)) = false := by rw [beq_eq_false_iff_ne]; omega
      simp [Ent.zero, this, h2]
    | some e =>
      simp only [Option.getD_some]
      by_cases he : e.rev = (j : Int) + 1
      · obtain ⟨k2, hm, rfl, _, _⟩ := lastOf_mem hL
        obtain ⟨i, hi⟩ := List.getElem?_of_mem hm
        have hi2 : Y.all[i]? = some k2 := by
          rw [List.getElem?_take] at hi
          split at hi
          · exact hi
          · cases hi
        have hr2 := hrevs i k2 hi2
        obtain rfl : i = j := by omega
        obtain rfl : k2 = k := Option.some.inj (hi2.symm.trans hk)
        simp [he]
      · have a1 : (((j : Int) + 1) == e.rev) = false := by rw [beq_eq_false_iff_ne]; omega
        have a2 : (e.rev != (j : Int) + 1) = true := by rw [bne_iff_ne]; exact he
        simp [a1, a2]
  · have d1 : decide ((r : Int) < (j : Int) + 1) = true := by simp; omega
    rw [d1, decide_eq_false hj]
    simp
theorem read_two (h : Rel2 n X Y) (hn : n ≤ 50000000) {i : Nat} {p : PSrv} {sn : Int} {u : RUnd} (hzn : (sn == 0) = false) (hpp : X.servers[i]? = some p) (ha : At Y i sn u) (hS : Same2 Y.keys Y.epoch p sn u) (name : ByteArray) (rev : Int) (asked : Bool)
    (hr : asked = true → decide (rev < Y.floor) = false ∧ decide ((Y.all.length : Int) < rev) = false) :
    ∃ (A : ByteArray) (B C : Int), (∀ (w : World) (F : Nat → Prop) (b : Nat), XIn w F b X → Fours w → 1 ≤ w.heap.size → Calls Tryz.prog 74 #[.pointer (some ⟨b, 0, none⟩), .int .i64 (i : Int), .string name, .int .i64 rev] w fun e w' => e = .returned (.tuple #[.string A, .int .i64 B, .int .i64 C]) ∧ Low w.heap.size w w') ∧
      (∀ (w : World) (F : Nat → Prop) (b : Nat), RIn w F b Y → Calls Tryz.prog 75 #[.pointer (some ⟨b, 0, none⟩), .int .i64 (i : Int), .string name, .int .i64 rev, .bool asked] w fun e w' => e = .returned (.tuple #[.string A, .int .i64 B, .int .i64 C]) ∧ Low w.heap.size w w') := by
  have hA := h.all
  have hent : X.entries.length ≤ 1000 := by have := h.few; have := h.rooms; omega
  have hN : newestOf X.entries name rev = (lastOf (Y.all.take rev.toNat) name).getD Ent.zero := by rw [h.ent]; exact newest_last _ _ _ h.revs
  cases hL : lastOf (Y.all.take rev.toNat) name with
  | none =>
    rw [hL] at hN
    have ht : thereOf (lastOf (Y.all.take rev.toNat) name) = false := by rw [hL]; rfl
    refine ⟨⟨#[]⟩, 0, 12, fun w F b hX _ _ => read_none w i name rev hX hent (by rw [hN]; rfl), fun w F b hR => ?_⟩
    cases asked
    · exact get_none_false w i sn u name rev hR ha hzn (by omega) ht
    · exact get_none_true w i sn u name rev hR ha hzn (by omega) (hr rfl).1 (hr rfl).2 ht
  | some E =>
    rw [hL] at hN
    replace hN : newestOf X.entries name rev = E := hN
    obtain ⟨k, hk, hkE, hko, _⟩ := lastOf_mem hL
    have hkm : k ∈ Y.all := List.mem_of_mem_take hk
    obtain ⟨j, hj⟩ := List.getElem?_of_mem hkm
    have hrv := h.revs j k hj
    rw [hkE] at hrv
    have hz : (E.rev == 0) = false := by rw [beq_eq_false_iff_ne]; omega
    cases hg : E.gone
    · obtain ⟨ok1, jk, K, ok2, ok3, ok4⟩ := h.eok k hkm (by rw [hkE]; exact hg)
      rw [hkE] at ok1 ok2
      have hKg : K.gone = false := ok4 hko
      have hjl : jk < Y.keys.length := (List.getElem?_eq_some_iff.1 ok3).1
      have hj6 : jk ≤ 6 := by have := h.keys.few.2; omega
      obtain ⟨pk, hpk⟩ : ∃ pk, X.keys[jk]? = some pk := ⟨_, List.getElem?_eq_getElem (by rw [h.keys.len]; exact hjl)⟩
      have hks := h.keys.same jk pk K hpk ok3
      have htx := hks.text hKg
      have hkg : keyGone pk = false := keyGone_no (by rw [htx]; exact hks.size)
      have e1 : pRead pk E p.seen = openedOf K E sn := by
        unfold pRead openedOf pOpened
        rw [hS.seen, hkg, hks.came, hKg, htx]
      refine ⟨(openedOf K E sn).1, revOr (openedOf K E sn) E.rev, (openedOf K E sn).2, fun w F b hX hF h1 => ?_, fun w F b hR => ?_⟩
      · have q := read_some w i p name rev E pk jk hX hpp hent hN hz hg hpk ok2 hj6 (by rw [htx]; exact hks.size) ok1 hF h1
        rw [e1] at q
        exact q
      · cases asked
        · exact get_some_false w i sn u name rev E K jk hR ha hzn (by omega) hL hg ok3 ok2 hj6 hks.size ok1
        · exact get_some_true w i sn u name rev E K jk hR ha hzn (by omega) (hr rfl).1 (hr rfl).2 hL hg ok3 ok2 hj6 hks.size ok1
    · have ht : thereOf (lastOf (Y.all.take rev.toNat) name) = false := by rw [hL]; simp [thereOf, hg]
      refine ⟨⟨#[]⟩, 0, 12, fun w F b hX _ _ => read_none w i name rev hX hent (by rw [hN, hg, Bool.or_true]), fun w F b hR => ?_⟩
      cases asked
      · exact get_none_false w i sn u name rev hR ha hzn (by omega) ht
      · exact get_none_true w i sn u name rev hR ha hzn (by omega) (hr rfl).1 (hr rfl).2 ht
theorem get_two (h : Rel2 n X Y) (hn : n ≤ 50000000) (s : Int) (name : ByteArray) :
    ∃ (A : ByteArray) (B C : Int), Pair2 31 32 [.int .i64 s, .string name] X Y n (.tuple #[.string A, .int .i64 B, .int .i64 C]) := by
  cases hs : isSrv Y.seen.length s
  · have hx : isSrv X.servers.length s = false := by rw [h.len.1]; exact hs
    exact ⟨⟨#[]⟩, 0, 4, X, Y, p_same (fun w F b hX => pGet_srv w s name hX hx), r_low (fun w F b hR => rGet_via w s name hR _ _ _ (get_srv w s name _ false hR hs)), h.up⟩
  · obtain ⟨i, p, sn, u, rfl, hpp, ha, hS, hi⟩ := h.at hs
    cases hzn : (sn == 0)
    · have hz : (p.seen == 0) = false := by rw [hS.seen]; exact hzn
      obtain ⟨A, B, C, q1, q2⟩ := read_two h hn hzn hpp ha hS name (Y.all.length : Int) false (fun e => by cases e)
      exact ⟨A, B, C, X, Y, p_low (fun w F b hX hF h1 => pGet_ok w i p name hX hpp hz A B C (by rw [h.rev]; exact q1 w F b hX hF h1)), r_low (fun w F b hR => rGet_via w i name hR _ _ _ (q2 w F b hR)), h.up⟩
    · have hz : (p.seen == 0) = true := by rw [hS.seen]; exact hzn
      exact ⟨⟨#[]⟩, 0, 6, X, Y, p_same (fun w F b hX => pGet_blind w i p name hX hpp hz), r_low (fun w F b hR => rGet_via w i name hR _ _ _ (get_blind w i sn u name _ false hR ha hzn)), h.up⟩
theorem getAt_two (h : Rel2 n X Y) (hn : n ≤ 50000000) (s : Int) (name : ByteArray) (rev : Int) :
    ∃ (A : ByteArray) (B C : Int), Pair2 33 34 [.int .i64 s, .string name, .int .i64 rev] X Y n (.tuple #[.string A, .int .i64 B, .int .i64 C]) := by
  have hA := h.all
  cases hs : isSrv Y.seen.length s
  · have hx : isSrv X.servers.length s = false := by rw [h.len.1]; exact hs
    exact ⟨⟨#[]⟩, 0, 4, X, Y, p_same (fun w F b hX => pGetAt_srv w s name rev hX hx), r_low (fun w F b hR => rGetAt_via w s name rev _ _ _ (get_srv w s name rev true hR hs)), h.up⟩
  · obtain ⟨i, p, sn, u, rfl, hpp, ha, hS, hi⟩ := h.at hs
    cases hzn : (sn == 0)
    · have hz : (p.seen == 0) = false := by rw [hS.seen]; exact hzn
      have hbr : pBadRev X rev = badRev Y rev true := by unfold pBadRev badRev; rw [h.floor, h.rev, Bool.true_and]
      cases hbad : badRev Y rev true
      · have hbad2 : (decide (rev < Y.floor) || decide ((Y.all.length : Int) < rev)) = false := hbad
        obtain ⟨A, B, C, q1, q2⟩ := read_two h hn hzn hpp ha hS name rev true (fun _ => Bool.or_eq_false_iff.1 hbad2)
        exact ⟨A, B, C, X, Y, p_low (fun w F b hX hF h1 => pGetAt_ok w i p name rev hX hpp hz (hbr.trans hbad) A B C (q1 w F b hX hF h1)), r_low (fun w F b hR => rGetAt_via w i name rev _ _ _ (q2 w F b hR)), h.up⟩
      · exact ⟨⟨#[]⟩, 0, 15, X, Y, p_same (fun w F b hX => pGetAt_rev w i p name rev hX hpp hz (hbr.trans hbad)), r_low (fun w F b hR => rGetAt_via w i name rev _ _ _ (get_rev w i sn u name rev true hR ha hzn (by omega) hbad)), h.up⟩
    · have hz : (p.seen == 0) = true := by rw [hS.seen]; exact hzn
      exact ⟨⟨#[]⟩, 0, 6, X, Y, p_same (fun w F b hX => pGetAt_blind w i p name rev hX hpp hz), r_low (fun w F b hR => rGetAt_via w i name rev _ _ _ (get_blind w i sn u name rev true hR ha hzn)), h.up⟩
theorem allTo_get2 {l : List RKept} {f : Nat → Bool} {n j : Nat} {k : RKept} (h : (allTo l f n)[j]? = some k) : ∃ k0, l[j]? = some k0 ∧ k.e = k0.e ∧ (k.out = false → k0.out = false) := by
  unfold allTo at h
  rw [List.getElem?_mapIdx] at h
  cases hl : l[j]? with
  | none => rw [hl] at h; cases h
  | some k0 =>
    rw [hl] at h
    have h : (if j < n then { k0 with out := k0.out || f j } else k0) = k := Option.some.inj h
    refine ⟨k0, rfl, ?_, ?_⟩
    · rw [← h]
      split <;> rfl
    · rw [← h]
      split
      · intro q
        have q : (k0.out || f j) = false := q
        exact (Bool.or_eq_false_iff.1 q).1
      · exact id
theorem compact_two (h : Rel2 n X Y) (hn : n ≤ 50000000) (rev : Int) : ∃ v : Int, Pair2 37 38 [.int .i64 rev] X Y n (.int .i64 v) := by
  have hA := h.all
  have hent : X.entries.length ≤ 1000 := by have := h.few; have := h.rooms; omega
  have hbc : pBadCut X rev = badCut Y rev := by unfold pBadCut badCut; rw [h.floor, h.rev]
  cases hbad : badCut Y rev
  · obtain ⟨c1, c2⟩ : ¬ rev ≤ Y.floor ∧ ¬ (Y.all.length : Int) < rev := by unfold badCut at hbad; simp at hbad; omega
    have f0 := h.floor0
    obtain ⟨r, rfl⟩ : ∃ r : Nat, rev = (r : Int) := ⟨rev.toNat, by omega⟩
    have hl : (allTo Y.all (outAt Y.all r) r).length = Y.all.length := by unfold allTo; simp
    refine ⟨0, X.compact (r : Int), Y.compact r, p_grow (fun w F b hX => pCompact_yes w r hX (hbc.trans hbad) hent), r_kept (fun w F b hR => Compact_yes w r hR (by omega) (by omega) (by omega)), ?_⟩
    refine ⟨h.keys, h.live, h.ep, h.write, h.turn, h.room, h.rooms, ?_, rfl, ?_, h.up.draws, h.len, h.srv, compact_of h.ent h.revs r, ?_, ?_, ?_, ?_, ?_, h.pods⟩
    · show X.rev = ((allTo Y.all (outAt Y.all r) r).length : Int)
      rw [hl]; exact h.rev
    · show (0 : Int) ≤ (r : Int)
      omega
    · show ((X.entries.filter (fun e => outl X e (r : Int))).length : Int) ≤ Y.room
      have := List.length_filter_le (fun e => outl X e (r : Int)) X.entries
      have := h.few
      omega
    · intro j k hk
      obtain ⟨k0, hk0, e0⟩ := allTo_get hk
      rw [e0]
      exact h.revs j k0 hk0
    · intro k hk hg
      obtain ⟨j, hj⟩ := List.getElem?_of_mem hk
      obtain ⟨k0, hk0, e0, o0⟩ := allTo_get2 hj
      rw [e0] at hg ⊢
      obtain ⟨a1, jj, K, a2, a3, a4⟩ := h.eok k0 (List.mem_of_getElem? hk0) hg
      exact ⟨a1, jj, K, a2, a3, fun hko => a4 (o0 hko)⟩
    · show (allTo Y.all (outAt Y.all r) r).length ≤ n + 1
      omega
    · intro ht k hk ho hg
      obtain ⟨j, hj⟩ := List.getElem?_of_mem hk
      obtain ⟨k0, hk0, e0, o0⟩ := allTo_get2 hj
      rw [e0] at hg ⊢
      exact h.gated ht k0 (List.mem_of_getElem? hk0) (o0 ho) hg
  · exact ⟨15, X, Y, p_same (fun w F b hX => pCompact_no w rev hX (hbc.trans hbad)), r_same (fun w F b hR => Compact_no w rev hR hbad), h.up⟩
end Go.Proofs.YtphapknfkbgapaaGreatDoor
namespace Go.Proofs.YtphapknfkbgapaaGreatDoor
open Go.RowKit

/-! The two coffers stay alike while the key is turned: plain data. -/

variable {X : PS} {Y : RS} {n : Nat}
theorem new_two (m : Nat) (room : Int) (key : ByteArray) (hc : cfgOk (m : Int) room key = true) : Rel2 0 (PS.new m room key) (RS.new m room key) := by
  unfold cfgOk at hc
  simp at hc
  obtain ⟨⟨c1, c2, c3, c4⟩, c5⟩ := hc
  have e : (RS.new (m : Int) room key).seen = List.replicate m 0 := by show List.replicate (m : Int).toNat 0 = _; rw [Int.toNat_natCast]
  have e2 : (RS.new (m : Int) room key).ops = List.replicate m RUnd.zero := by show List.replicate (m : Int).toNat RUnd.zero = _; rw [Int.toNat_natCast]
  have one : ∀ (i : Nat) (k : RKey), ([⟨key, 1, 1, false⟩] : List RKey)[i]? = some k → i = 0 ∧ k = ⟨key, 1, 1, false⟩ := by
    intro i k hk
    have hi : i < 1 := (List.getElem?_eq_some_iff.1 hk).1
    have hi0 : i = 0 := by omega
    subst hi0
    exact ⟨rfl, (Option.some.inj hk).symm⟩
  refine ⟨⟨rfl, ⟨Nat.le_refl _, by show 1 ≤ 6; omega⟩, fun i p k hp hk => ?_, fun k hk => ?_, fun i k hk => ?_, fun i k hk => ?_, fun i k hk hz => ?_, fun i j a c hij ha hcj _ => ?_, fun ht => (by cases ht), fun i k hk hz => ?_⟩, fun j K _ hK => ?_, ⟨rfl, Int.le_refl _, by show (1 : Int) + 1 ≤ 2 * ((1 : Nat) : Int); omega, fun q => by cases q⟩, rfl, rfl, rfl, ⟨c3, c4⟩, rfl, rfl, Int.le_refl _, ⟨rfl, Int.le_refl _, Int.le_refl _⟩, ?_, ?_, rfl, ?_, ?_, ?_, Nat.le_refl _, fun ht => (by cases ht), ⟨fun i hi => ?_, fun q hq => (by cases hq), fun i _ => rfl, fun i _ => Nat.zero_le _⟩⟩
  · obtain ⟨rfl, rfl⟩ := one i k hk
    obtain rfl := (Option.some.inj hp).symm
    exact ⟨rfl, rfl, c5, fun _ => rfl, fun h => by cases h⟩
  · obtain ⟨_, rfl⟩ := one 0 k hk
    exact ⟨rfl, rfl⟩
  · obtain ⟨_, rfl⟩ := one i k hk
    exact ⟨Int.le_refl _, Int.le_refl _⟩
  · obtain ⟨_, rfl⟩ := one i k hk
    exact ⟨by show (0 : Int) ≤ 1; omega, Int.le_refl _⟩
  · obtain ⟨_, rfl⟩ := one i k hk
    cases hz
  · obtain ⟨rfl, _⟩ := one j c hcj
    omega
  · obtain ⟨_, rfl⟩ := one i k hk
    cases hz
  · obtain ⟨_, rfl⟩ := one j K hK
    rfl
  · rw [e, e2]
    show (List.replicate m PSrv.zero).length = _ ∧ _
    simp
    omega
  · intro i s hs
    rw [e, e2]
    have hs : (List.replicate m PSrv.zero)[i]? = some s := hs
    rw [List.getElem?_replicate] at hs
    split at hs
    · rename_i hi
      obtain rfl := (Option.some.inj hs).symm
      exact ⟨0, RUnd.zero, by rw [List.getElem?_replicate, if_pos hi], by rw [List.getElem?_replicate, if_pos hi], rfl, ⟨Int.le_refl _, by show (0 : Int) ≤ 1; omega⟩, rfl, fun q => by cases q⟩
    · cases hs
  · show ((([] : List Ent).length : Nat) : Int) ≤ room
    simp
    omega
  · intro i k hk
    have hk : ([] : List RKept)[i]? = some k := hk
    simp at hk
  · intro k hk
    have hk : k ∈ ([] : List RKept) := hk
    simp at hk
  · show (List.replicate 8 (-1 : Int))[i]? = some (-1)
    rw [List.getElem?_replicate, if_pos hi]
end Go.Proofs.YtphapknfkbgapaaGreatDoor
namespace Go.Proofs.YtphapknfkbgapaaGreatDoor
open Go.RowKit

variable {X : PS} {Y : RS} {n : Nat}
theorem snoc_at {α : Type} {l : List α} {x k : α} {i : Nat} (h : (l ++ [x])[i]? = some k) : l[i]? = some k ∨ (i = l.length ∧ k = x) := by
  by_cases hi : i < l.length
  · rw [List.getElem?_append_left hi] at h; exact Or.inl h
  · rw [List.getElem?_append_right (by omega)] at h
    have : i - l.length < 1 := (List.getElem?_eq_some_iff.1 h).1
    have hi2 : i = l.length := by omega
    subst hi2
    rw [Nat.sub_self] at h
    exact Or.inr ⟨rfl, (Option.some.inj h).symm⟩
theorem set_at {α : Type} {l : List α} {x k : α} {i j : Nat} (h : (l.set j x)[i]? = some k) : (i ≠ j ∧ l[i]? = some k) ∨ (i = j ∧ k = x) := by
  by_cases e : j = i
  · subst e
    have hi : j < l.length := by simpa using (List.getElem?_eq_some_iff.1 h).1
    rw [List.getElem?_set_self hi] at h
    exact Or.inr ⟨rfl, (Option.some.inj h).symm⟩
  · rw [List.getElem?_set_ne e] at h
    exact Or.inl ⟨fun q => e q.symm, h⟩
/-! Stage. -/
def PS.stage (X : PS) (t : ByteArray) : PS := { X with epoch := X.epoch + 1, keys := X.keys ++ [⟨t, X.epoch + 1, 0⟩], turn := 1 }
theorem rel_stage (h : Rel2 n X Y) (t : ByteArray) (ht : t.size = 48) (hk : Y.keys.length < 6) (hu : Y.turn = 0) : Rel2 (n + 1) (X.stage t) (Y.stage t) := by
  have hz : ∀ e : Int, writesOf (Y.keys ++ [⟨t, Y.epoch + 1, 0, false⟩]) e = writesOf Y.keys e := fun e => by
    rw [writesOf_snoc]
    simp
  have hW : writesOf (Y.keys ++ [⟨t, Y.epoch + 1, 0, false⟩]) (Y.epoch + 1) = writesOf Y.keys Y.epoch := by rw [hz, h.keys.later h.ep.2.1 (by omega)]
  have u := h.up
  refine ⟨⟨?_, ?_, ?_, ?_, ?_, ?_, ?_, ?_, ?_, ?_⟩, ?_, ?_, ?_, rfl, h.room, h.rooms, h.rev, h.floor, h.floor0, u.draws, h.len, ?_, h.ent, h.few, h.revs, ?_, u.all, fun q => (by cases q), h.pods⟩
  · show (X.keys ++ [_]).length = (Y.keys ++ [_]).length
    simp [h.keys.len]
  · show 1 ≤ (Y.keys ++ [_]).length ∧ (Y.keys ++ [_]).length ≤ 6
    simp
    omega
  · intro i p k hp hk2
    rcases snoc_at hp with hp | ⟨hp, rfl⟩
    · rcases snoc_at hk2 with hk2 | ⟨hk2, rfl⟩
      · exact h.keys.same i p k hp hk2
      · have := (List.getElem?_eq_some_iff.1 hp).1; have := h.keys.len; omega
    · rcases snoc_at hk2 with hk2 | ⟨_, rfl⟩
      · have := (List.getElem?_eq_some_iff.1 hk2).1; have := h.keys.len; omega
      · exact ⟨by show X.epoch + 1 = Y.epoch + 1; rw [h.ep.1], rfl, ht, fun _ => rfl, fun q => by cases q⟩
  · intro k hk2
    rcases snoc_at hk2 with hk2 | ⟨hk2, _⟩
    · exact h.keys.first k hk2
    · have := h.keys.few.1; omega
  · intro i k hk2
    show 1 ≤ k.came ∧ k.came ≤ Y.epoch + 1
    have := h.ep.2.1
    rcases snoc_at hk2 with hk2 | ⟨_, rfl⟩
    · have := h.keys.came i k hk2; omega
    · show 1 ≤ Y.epoch + 1 ∧ Y.epoch + 1 ≤ Y.epoch + 1; omega
  · intro i k hk2
    show 0 ≤ k.writes ∧ k.writes ≤ Y.epoch + 1
    have := h.ep.2.1
    rcases snoc_at hk2 with hk2 | ⟨_, rfl⟩
    · have := h.keys.wr i k hk2; omega
    · show 0 ≤ (0 : Int) ∧ 0 ≤ Y.epoch + 1; omega
  · intro i k hk2 hz0
    rcases snoc_at hk2 with hk2 | ⟨hk2, _⟩
    · have := (h.keys.zero i k hk2 hz0).2; omega
    · exact ⟨by show i + 1 = (Y.keys ++ [_]).length; simp [hk2], rfl⟩
  · intro i j a c hij ha hc hcz
    rcases snoc_at hc with hc | ⟨_, rfl⟩
    · rcases snoc_at ha with ha | ⟨ha, _⟩
      · exact h.keys.rise i j a c hij ha hc hcz
      · have := (List.getElem?_eq_some_iff.1 hc).1; omega
    · exact absurd rfl hcz
  · intro _ k hk2
    rcases snoc_at hk2 with hk2 | ⟨_, rfl⟩
    · have := (List.getElem?_eq_some_iff.1 hk2).1
      have e : (Y.stage t).keys.length = Y.keys.length + 1 := by show (Y.keys ++ [_]).length = _; simp
      omega
    · rfl
  · intro i k hk2 hz0
    rcases snoc_at hk2 with hk2 | ⟨_, rfl⟩
    · exact h.keys.fresh i k hk2 hz0
    · rfl
  · intro j K hj hK
    replace hj : writesOf (Y.keys ++ [⟨t, Y.epoch + 1, 0, false⟩]) (Y.epoch + 1) = (j : Int) + 1 := hj
    rw [hW] at hj
    rcases snoc_at hK with hK | ⟨_, rfl⟩
    · exact h.live j K hj hK
    · rfl
  · refine ⟨by show X.epoch + 1 = Y.epoch + 1; rw [h.ep.1], by show 1 ≤ Y.epoch + 1; have := h.ep.2.1; omega, ?_, fun _ => ?_⟩
    · show Y.epoch + 1 + 1 ≤ 2 * (((Y.keys ++ [_]).length : Nat) : Int)
      have := h.ep.2.2.1
      simp
      omega
    · show Y.epoch + 1 + 2 ≤ 2 * (((Y.keys ++ [_]).length : Nat) : Int)
      have := h.ep.2.2.1
      simp
      omega
  · show X.write = writesOf (Y.keys ++ [⟨t, Y.epoch + 1, 0, false⟩]) (Y.epoch + 1)
    rw [hW]; exact h.write
  · intro i s hs
    obtain ⟨sn, uu, a1, a2, a3⟩ := h.srv i s hs
    refine ⟨sn, uu, a1, a2, a3.seen, ⟨a3.sn.1, by show sn ≤ Y.epoch + 1; have := a3.sn.2; omega⟩, a3.busy, fun hb => ?_⟩
    obtain ⟨e1, e2, e3, e4, e5, e6, e7⟩ := a3.op hb
    refine ⟨e1, e2, e3, e4, ⟨e5.1, by show uu.epoch ≤ Y.epoch + 1; omega⟩, e6, fun hg => ⟨(e7 hg).1, ?_⟩⟩
    show uu.e.key = writesOf (Y.keys ++ [⟨t, Y.epoch + 1, 0, false⟩]) uu.epoch
    rw [hz]; exact (e7 hg).2
  · intro k hk2 hg
    obtain ⟨a1, j, K, a2, a3, a4⟩ := h.eok k hk2 hg
    exact ⟨a1, j, K, a2, by show (Y.keys ++ [_])[j]? = _; rw [List.getElem?_append_left (List.getElem?_eq_some_iff.1 a3).1]; exact a3, a4⟩
/-! Gate. -/
def PS.setTurn (X : PS) (t : Int) : PS := { X with turn := t }
theorem rel_gate (h : Rel2 n X Y) (hg : goingOf Y = true) (hu : usedOf Y = false) : Rel2 (n + 1) (X.setTurn 3) { Y with turn := 3 } := by
  have u := h.up
  have hne : Y.turn ≠ 1 := by
    unfold goingOf at hg
    intro e
    rw [e] at hg
    cases hg
  refine ⟨⟨h.keys.len, h.keys.few, h.keys.same, h.keys.first, h.keys.came, h.keys.wr, fun i k hk hz => absurd (h.keys.zero i k hk hz).2 hne, h.keys.rise, fun q => (by cases q), h.keys.fresh⟩, h.live, ⟨h.ep.1, h.ep.2.1, h.ep.2.2.1, fun q => (by cases q)⟩, h.write, rfl, h.room, h.rooms, h.rev, h.floor, h.floor0, u.draws, h.len, h.srv, h.ent, h.few, h.revs, h.eok, u.all, fun _ k hk ho hgo => ?_, h.pods⟩
  have hm : k.e ∈ keptOf Y.all := by
    unfold keptOf
    exact List.mem_map.2 ⟨k, List.mem_filter.2 ⟨hk, by simp [ho]⟩, rfl⟩
  unfold usedOf at hu
  have := List.any_eq_false.1 hu k.e hm
  simp [hgo] at this
  exact this
/-! Promote. -/
def PS.promote (X : PS) (m : Nat) (P : PKey) : PS := { X with epoch := X.epoch + 1, keys := X.keys.set m { P with wrote := X.epoch + 1 }, write := (m : Int) + 1, turn := 2 }
theorem rel_promote (h : Rel2 n X Y) (hu : Y.turn = 1) {m : Nat} {P : PKey} {K : RKey} (hm : Y.keys.length = m + 1) (hP : X.keys[m]? = some P) (hK : Y.keys[m]? = some K) : Rel2 (n + 1) (X.promote m P) (Y.promote m K) := by
  have hK0 : K.writes = 0 := h.keys.staged hu K (by rw [show Y.keys.length - 1 = m by omega]; exact hK)
  have hKg := h.keys.fresh m K hK hK0
  have hks := h.keys.same m P K hP hK
  have u := h.up
  have e1 := h.ep.2.1
  have old : ∀ e : Int, e ≤ Y.epoch → writesOf (Y.keys.set m { K with writes := Y.epoch + 1 }) e = writesOf Y.keys e := fun e he => by
    refine writes_congr (by simp) (fun i k k' hk hk' => ?_)
    rcases set_at hk with ⟨_, hk⟩ | ⟨rfl, rfl⟩
    · obtain rfl := Option.some.inj (hk.symm.trans hk')
      rfl
    · obtain rfl := Option.some.inj (hK.symm.trans hk')
      simp [writesAt, hK0]
      omega
  have hme : (Y.keys.set m { K with writes := Y.epoch + 1 })[m]? = some { K with writes := Y.epoch + 1 } := List.getElem?_set_self (by omega)
  have hW : writesOf (Y.keys.set m { K with writes := Y.epoch + 1 }) (Y.epoch + 1) = (m : Int) + 1 := by
    refine writes_unique hme (by simp [writesAt]; omega) (fun i k hi hk => ?_)
    have := (List.getElem?_eq_some_iff.1 hk).1
    simp at this
    omega
  refine ⟨⟨?_, ?_, ?_, ?_, ?_, ?_, ?_, ?_, ?_, ?_⟩, ?_, ?_, ?_, rfl, h.room, h.rooms, h.rev, h.floor, h.floor0, u.draws, h.len, ?_, h.ent, h.few, h.revs, ?_, u.all, fun q => (by cases q), h.pods⟩
  · show (X.keys.set m _).length = (Y.keys.set m _).length
    simp [h.keys.len]
  · show 1 ≤ (Y.keys.set m _).length ∧ (Y.keys.set m _).length ≤ 6
    simp
    exact h.keys.few
  · intro i p k hp hk
    rcases set_at hp with ⟨hi, hp⟩ | ⟨hi, rfl⟩
    · rcases set_at hk with ⟨_, hk⟩ | ⟨hk, _⟩
      · exact h.keys.same i p k hp hk
      · exact absurd hk hi
    · rcases set_at hk with ⟨hk, _⟩ | ⟨_, rfl⟩
      · exact absurd hi hk
      · exact ⟨hks.came, by show X.epoch + 1 = Y.epoch + 1; rw [h.ep.1], hks.size, hks.text, hks.gone⟩
  · intro k hk
    rcases set_at hk with ⟨_, hk⟩ | ⟨hk, _⟩
    · exact h.keys.first k hk
    · have := (h.keys.first K (by rw [hk]; exact hK)).2
      omega
  · intro i k hk
    show 1 ≤ k.came ∧ k.came ≤ Y.epoch + 1
    rcases set_at hk with ⟨_, hk⟩ | ⟨_, rfl⟩
    · have := h.keys.came i k hk; omega
    · have := h.keys.came m K hK
      show 1 ≤ K.came ∧ K.came ≤ Y.epoch + 1
      omega
  · intro i k hk
    show 0 ≤ k.writes ∧ k.writes ≤ Y.epoch + 1
    rcases set_at hk with ⟨_, hk⟩ | ⟨_, rfl⟩
    · have := h.keys.wr i k hk; omega
    · show 0 ≤ Y.epoch + 1 ∧ Y.epoch + 1 ≤ Y.epoch + 1; omega
  · intro i k hk hz0
    rcases set_at hk with ⟨hi, hk⟩ | ⟨_, rfl⟩
    · have := (h.keys.zero i k hk hz0).1; omega
    · have hz1 : Y.epoch + 1 = 0 := hz0
      omega
  · intro i j a c hij ha hc hcz
    rcases set_at ha with ⟨hi, ha⟩ | ⟨hi, _⟩
    · rcases set_at hc with ⟨_, hc⟩ | ⟨_, rfl⟩
      · exact h.keys.rise i j a c hij ha hc hcz
      · have := h.keys.wr i a ha
        show a.writes < Y.epoch + 1
        omega
    · have := (List.getElem?_eq_some_iff.1 hc).1
      have e : (Y.promote m K).keys.length = m + 1 := by show (Y.keys.set m _).length = _; simp [hm]
      omega
  · intro q
    cases q
  · intro i k hk hz0
    rcases set_at hk with ⟨_, hk⟩ | ⟨_, rfl⟩
    · exact h.keys.fresh i k hk hz0
    · exact hKg
  · intro j K' hj hK'
    replace hj : writesOf (Y.keys.set m { K with writes := Y.epoch + 1 }) (Y.epoch + 1) = (j : Int) + 1 := hj
    rw [hW] at hj
    rcases set_at hK' with ⟨hi, _⟩ | ⟨_, rfl⟩
    · omega
    · exact hKg
  · refine ⟨by show X.epoch + 1 = Y.epoch + 1; rw [h.ep.1], by show 1 ≤ Y.epoch + 1; omega, ?_, fun q => by cases q⟩
    show Y.epoch + 1 + 1 ≤ 2 * (((Y.keys.set m _).length : Nat) : Int)
    have := h.ep.2.2.2 hu
    simp
    omega
  · show (m : Int) + 1 = writesOf (Y.keys.set m { K with writes := Y.epoch + 1 }) (Y.epoch + 1)
    rw [hW]
  · intro i s hs
    obtain ⟨sn, uu, a1, a2, a3⟩ := h.srv i s hs
    refine ⟨sn, uu, a1, a2, a3.seen, ⟨a3.sn.1, by show sn ≤ Y.epoch + 1; have := a3.sn.2; omega⟩, a3.busy, fun hb => ?_⟩
    obtain ⟨e1, e2, e3, e4, e5, e6, e7⟩ := a3.op hb
    refine ⟨e1, e2, e3, e4, ⟨e5.1, by show uu.epoch ≤ Y.epoch + 1; omega⟩, e6, fun hg => ⟨(e7 hg).1, ?_⟩⟩
    show uu.e.key = writesOf (Y.keys.set m { K with writes := Y.epoch + 1 }) uu.epoch
    rw [old _ e5.2]; exact (e7 hg).2
  · intro k hk2 hg
    obtain ⟨a1, j, K', a2, a3, a4⟩ := h.eok k hk2 hg
    by_cases e : j = m
    · subst e
      obtain rfl := Option.some.inj (a3.symm.trans hK)
      exact ⟨a1, j, _, a2, hme, fun _ => hKg⟩
    · exact ⟨a1, j, K', a2, by show (Y.keys.set m _)[j]? = _; rw [List.getElem?_set_ne (fun q => e q.symm)]; exact a3, a4⟩
/-! Destroy. -/
def PS.destroy (X : PS) (j : Nat) (P : PKey) (t : Int) : PS := { X with keys := X.keys.set j { P with text := ⟨#[]⟩ }, turn := t }
theorem rel_destroy (h : Rel2 n X Y) {j : Nat} {P : PKey} {K : RKey} (hP : X.keys[j]? = some P) (hK : Y.keys[j]? = some K) (hb : badGate Y ((j : Int) + 1) = false) : Rel2 (n + 1) (X.destroy j P (Y.destroy j K).turn) (Y.destroy j K) := by
  unfold badGate at hb
  rw [Bool.or_eq_false_iff] at hb
  have hw : writesOf Y.keys Y.epoch ≠ (j : Int) + 1 := fun e => by
    have := hb.1
    rw [e] at this
    simp at this
  have hu : Y.turn = 3 := by simpa using hb.2
  have hks := h.keys.same j P K hP hK
  have hjl : j < Y.keys.length := (List.getElem?_eq_some_iff.1 hK).1
  have u := h.up
  have old : ∀ e : Int, writesOf (Y.keys.set j { K with gone := true }) e = writesOf Y.keys e := fun e => by
    refine writes_congr (by simp) (fun i k k' hk hk' => ?_)
    rcases set_at hk with ⟨_, hk⟩ | ⟨rfl, rfl⟩
    · obtain rfl := Option.some.inj (hk.symm.trans hk')
      rfl
    · obtain rfl := Option.some.inj (hK.symm.trans hk')
      rfl
  have ht1 : (Y.destroy j K).turn ≠ 1 := by
    show (if leftOf (Y.keys.set j { K with gone := true }) == 1 then (0 : Int) else Y.turn) ≠ 1
    split
    · omega
    · omega
  have noz : ∀ (i : Nat) (k : RKey), Y.keys[i]? = some k → k.writes ≠ 0 := fun i k hk hz => by
    have := (h.keys.zero i k hk hz).2
    omega
  refine ⟨⟨?_, ?_, ?_, ?_, ?_, ?_, ?_, ?_, ?_, ?_⟩, ?_, ⟨h.ep.1, h.ep.2.1, ?_, fun q => absurd q ht1⟩, ?_, rfl, h.room, h.rooms, h.rev, h.floor, h.floor0, u.draws, h.len, ?_, h.ent, h.few, h.revs, ?_, u.all, ?_, h.pods⟩
  · show (X.keys.set j _).length = (Y.keys.set j _).length
    simp [h.keys.len]
  · show 1 ≤ (Y.keys.set j _).length ∧ (Y.keys.set j _).length ≤ 6
    simp
    exact h.keys.few
  · intro i p k hp hk
    rcases set_at hp with ⟨hi, hp⟩ | ⟨hi, rfl⟩
    · rcases set_at hk with ⟨_, hk⟩ | ⟨hk, _⟩
      · exact h.keys.same i p k hp hk
      · exact absurd hk hi
    · rcases set_at hk with ⟨hk, _⟩ | ⟨_, rfl⟩
      · exact absurd hi hk
      · exact ⟨hks.came, hks.wrote, hks.size, fun q => (by cases q), fun _ => rfl⟩
  · intro k hk
    rcases set_at hk with ⟨_, hk2⟩ | ⟨h0, rfl⟩
    · exact h.keys.first k hk2
    · exact h.keys.first K (by rw [h0]; exact hK)
  · intro i k hk
    rcases set_at hk with ⟨_, hk⟩ | ⟨_, rfl⟩
    · exact h.keys.came i k hk
    · exact h.keys.came j K hK
  · intro i k hk
    rcases set_at hk with ⟨_, hk⟩ | ⟨_, rfl⟩
    · exact h.keys.wr i k hk
    · exact h.keys.wr j K hK
  · intro i k hk hz0
    rcases set_at hk with ⟨_, hk⟩ | ⟨_, rfl⟩
    · exact absurd hz0 (noz i k hk)
    · exact absurd hz0 (noz j K hK)
  · intro i l a c hil ha hc hcz
    rcases set_at ha with ⟨_, ha2⟩ | ⟨hi2, hae⟩
    · rcases set_at hc with ⟨_, hc2⟩ | ⟨hl2, hce⟩
      · exact h.keys.rise i l a c hil ha2 hc2 hcz
      · have := h.keys.rise i j a K (by omega) ha2 hK (by rw [hce] at hcz; exact hcz)
        rw [hce]; exact this
    · rcases set_at hc with ⟨_, hc2⟩ | ⟨hl2, _⟩
      · have := h.keys.rise j l K c (by omega) hK hc2 hcz
        rw [hae]; exact this
      · omega
  · intro q
    exact absurd q ht1
  · intro i k hk hz0
    rcases set_at hk with ⟨_, hk⟩ | ⟨_, rfl⟩
    · exact absurd hz0 (noz i k hk)
    · exact absurd hz0 (noz j K hK)
  · intro l K' hl hK'
    replace hl : writesOf (Y.keys.set j { K with gone := true }) Y.epoch = (l : Int) + 1 := hl
    rw [old] at hl
    rcases set_at hK' with ⟨_, hK'⟩ | ⟨rfl, _⟩
    · exact h.live l K' hl hK'
    · exact absurd hl hw
  · show Y.epoch + 1 ≤ 2 * (((Y.keys.set j _).length : Nat) : Int)
    simp
    exact h.ep.2.2.1
  · show X.write = writesOf (Y.keys.set j { K with gone := true }) Y.epoch
    rw [old]; exact h.write
  · intro i s hs
    obtain ⟨sn, uu, a1, a2, a3⟩ := h.srv i s hs
    refine ⟨sn, uu, a1, a2, a3.seen, a3.sn, a3.busy, fun hbz => ?_⟩
    obtain ⟨e1, e2, e3, e4, e5, e6, e7⟩ := a3.op hbz
    refine ⟨e1, e2, e3, e4, e5, e6, fun hg => ⟨(e7 hg).1, ?_⟩⟩
    show uu.e.key = writesOf (Y.keys.set j { K with gone := true }) uu.epoch
    rw [old]; exact (e7 hg).2
  · intro k hk2 hg
    obtain ⟨a1, l, K', a2, a3, a4⟩ := h.eok k hk2 hg
    by_cases e : l = j
    · subst e
      refine ⟨a1, l, { K with gone := true }, a2, List.getElem?_set_self hjl, fun ho => ?_⟩
      exact absurd ((h.gated hu k hk2 ho hg).symm.trans a2) hw
    · exact ⟨a1, l, K', a2, by show (Y.keys.set j _)[l]? = _; rw [List.getElem?_set_ne (fun q => e q.symm)]; exact a3, a4⟩
  · intro _ k hk2 ho hg
    show k.e.key = writesOf (Y.keys.set j { K with gone := true }) Y.epoch
    rw [old]
    exact h.gated hu k hk2 ho hg
/-! A move of Migrate. -/
def PS.moved (X : PS) (e : Ent) : PS := { X with draws := X.draws + 1, rev := X.rev + 1, entries := X.entries ++ [e] }
theorem Rel2.keysOk (h : Rel2 n X Y) : KeysOk Y := fun k hk hg => by
  obtain ⟨a1, j, K, a2, a3, _⟩ := h.eok k hk hg
  have hj : j < Y.keys.length := (List.getElem?_eq_some_iff.1 a3).1
  obtain ⟨p, hp⟩ : ∃ p, X.keys[j]? = some p := ⟨_, List.getElem?_eq_getElem (by rw [h.keys.len]; exact hj)⟩
  exact ⟨a1, j, K, a2, a3, (h.keys.same j p K hp a3).size⟩
theorem rel_move (h : Rel2 n X Y) (hn : n ≤ 50000000) {j : Nat} {K : RKey} (hj : writesOf Y.keys Y.epoch = (j : Int) + 1) (hK : Y.keys[j]? = some K) (hf : (dueOf Y).found = true) (hu : fullOf Y = false) : Rel2 (n + 1) (X.moved (moveEnt Y K ((j : Int) + 1))) (Y.move K ((j : Int) + 1)) := by
  obtain ⟨d0, d1, d2⟩ := h.draws
  have hlen : ((keptOf Y.all).length : Int) < Y.room := by unfold fullOf at hu; simp at hu; exact hu
  have hKg := h.live j K hj hK
  have hT : K.text.size = 48 := by
    have hjl : j < Y.keys.length := (List.getElem?_eq_some_iff.1 hK).1
    obtain ⟨p, hp⟩ : ∃ p, X.keys[j]? = some p := ⟨_, List.getElem?_eq_getElem (by rw [h.keys.len]; exact hjl)⟩
    exact (h.keys.same j p K hp hK).size
  have hok := move_ok h.keysOk hK hT hf ⟨d1, by omega⟩
  refine ⟨h.keys, h.live, h.ep, h.write, h.turn, h.room, h.rooms, ?_, h.floor, h.floor0, ⟨?_, ?_, ?_⟩, h.len, h.srv, ?_, ?_, ?_, ?_, ?_, ?_, h.pods⟩
  · show X.rev + 1 = (((Y.all ++ [_]).length : Nat) : Int)
    rw [h.rev, List.length_append]; rfl
  · show X.draws + 1 = Y.draws + 1
    rw [d0]
  · show 0 ≤ Y.draws + 1
    omega
  · show Y.draws + 1 ≤ ((n + 1 : Nat) : Int)
    omega
  · show X.entries ++ [moveEnt Y K ((j : Int) + 1)] = keptOf (Y.all ++ [⟨moveEnt Y K ((j : Int) + 1), false⟩])
    rw [keptOf_snoc, h.ent]
    rfl
  · show (((X.entries ++ [_]).length : Nat) : Int) ≤ Y.room
    rw [h.ent, List.length_append]
    show (((keptOf Y.all).length + 1 : Nat) : Int) ≤ Y.room
    omega
  · exact revs_snoc h.revs ⟨moveEnt Y K ((j : Int) + 1), false⟩ rfl
  · intro k hk hg
    rcases List.mem_append.1 hk with hk2 | hk2
    · exact h.eok k hk2 hg
    · obtain ⟨a1, _⟩ := hok k hk hg
      obtain rfl := List.mem_singleton.1 hk2
      exact ⟨a1, j, K, rfl, hK, fun _ => hKg⟩
  · show (Y.all ++ [_]).length ≤ n + 1
    rw [List.length_append]
    show Y.all.length + 1 ≤ n + 1
    have := h.all
    omega
  · intro ht k hk ho hg
    rcases List.mem_append.1 hk with hk2 | hk2
    · exact h.gated ht k hk2 ho hg
    · obtain rfl := List.mem_singleton.1 hk2
      exact hj.symm
end Go.Proofs.YtphapknfkbgapaaGreatDoor
namespace Go.Proofs.YtphapknfkbgapaaGreatDoor
open Go.RowKit

/-! Stage, Promote, Gate, Destroy on both sides, as soon as the program's are known. -/

variable {X : PS} {Y : RS} {n : Nat}
structure PStage (X : PS) (t : ByteArray) : Prop where
  arg : t.size ≠ 48 → PUni 39 [.string t] X (.tuple #[.int .i64 0, .int .i64 2]) X
  many : t.size = 48 → X.keys.length = 6 → PUni 39 [.string t] X (.tuple #[.int .i64 0, .int .i64 16]) X
  turn : t.size = 48 → X.keys.length < 6 → X.turn ≠ 0 → PUni 39 [.string t] X (.tuple #[.int .i64 0, .int .i64 17]) X
  yes : t.size = 48 → X.keys.length < 6 → X.turn = 0 → PUni 39 [.string t] X (.tuple #[.int .i64 ((X.keys.length : Int) + 1), .int .i64 0]) (X.stage t)
theorem stage_two (h : Rel2 n X Y) (t : ByteArray) (hP : PStage X t) : ∃ v e : Int, Pair2 39 40 [.string t] X Y n (.tuple #[.int .i64 v, .int .i64 e]) := by
  by_cases ht : t.size = 48
  · have h0 : ((t.size : Int) != 48) = false := by rw [bne_eq_false_iff_eq]; omega
    have hl := h.keys.len
    by_cases hk : Y.keys.length = 6
    · exact ⟨0, 16, X, Y, hP.many ht (by omega), r_same (fun w F b hR => Stage_many w t hR h0 hk), h.up⟩
    · have hk2 : Y.keys.length < 6 := by have := h.keys.few.2; omega
      by_cases hu : Y.turn = 0
      · refine ⟨(X.keys.length : Int) + 1, 0, X.stage t, Y.stage t, hP.yes ht (by omega) (by rw [h.turn]; exact hu), ?_, rel_stage h t ht hk2 hu⟩
        rw [hl]
        exact r_grow (fun w F b hR => Stage_yes w t hR h0 hk2 (by rw [hu]; rfl) ⟨by have := h.ep.2.1; omega, by have := h.ep.2.2.1; omega⟩)
      · exact ⟨0, 17, X, Y, hP.turn ht (by omega) (by rw [h.turn]; exact hu), r_same (fun w F b hR => Stage_turn w t hR h0 hk2 (by rw [bne_iff_ne]; exact hu)), h.up⟩
  · have h0 : ((t.size : Int) != 48) = true := by rw [bne_iff_ne]; omega
    exact ⟨0, 2, X, Y, hP.arg ht, r_same (fun w F b _ => Stage_arg w t h0), h.up⟩
structure PPromote (X : PS) : Prop where
  turn : X.turn ≠ 1 → PUni 41 [] X (.int .i64 17) X
  wait : X.turn = 1 → (∃ (i : Nat) (s : PSrv), X.servers[i]? = some s ∧ s.seen ≠ X.epoch) → PUni 41 [] X (.int .i64 18) X
  yes : X.turn = 1 → (∀ (i : Nat) (s : PSrv), X.servers[i]? = some s → s.seen = X.epoch) → ∀ (m : Nat) (P : PKey), X.keys.length = m + 1 → X.keys[m]? = some P → PUni 41 [] X (.int .i64 0) (X.promote m P)
theorem promote_two (h : Rel2 n X Y) (hP : PPromote X) : ∃ v : Int, Pair2 41 42 [] X Y n (.int .i64 v) := by
  by_cases hu : Y.turn = 1
  · obtain ⟨m, hm⟩ : ∃ m, Y.keys.length = m + 1 := ⟨Y.keys.length - 1, by have := h.keys.few.1; omega⟩
    have hl := h.keys.len
    obtain ⟨K, hK⟩ : ∃ K, Y.keys[m]? = some K := ⟨_, List.getElem?_eq_getElem (by omega)⟩
    obtain ⟨P, hPk⟩ : ∃ P, X.keys[m]? = some P := ⟨_, List.getElem?_eq_getElem (by omega)⟩
    have hr := fun (w : World) (F : Nat → Prop) (b : Nat) (hR : RIn w F b Y) => Promote_any w m K hR (by rw [hu]; rfl) h.len.2.2.1 hm (by have := h.keys.few.2; omega) hK ⟨by have := h.ep.2.1; omega, by have := h.ep.2.2.1; have := h.keys.few.2; omega⟩
    cases ha : allSeen Y
    · have hex : ∃ (i : Nat) (s : PSrv), X.servers[i]? = some s ∧ s.seen ≠ X.epoch := by
        obtain ⟨x, hx, hne⟩ := List.all_eq_false.1 ha
        obtain ⟨i, hi⟩ := List.getElem?_of_mem hx
        have hil : i < Y.seen.length := (List.getElem?_eq_some_iff.1 hi).1
        obtain ⟨s, hs⟩ : ∃ s, X.servers[i]? = some s := ⟨_, List.getElem?_eq_getElem (by rw [h.len.1]; exact hil)⟩
        obtain ⟨sn, uu, a1, _, a3⟩ := h.srv i s hs
        obtain rfl := Option.some.inj (hi.symm.trans a1)
        exact ⟨i, s, hs, by rw [a3.seen, h.ep.1]; simpa using hne⟩
      refine ⟨18, X, Y, hP.wait (by rw [h.turn]; exact hu) hex, r_low (fun w F b hR => (hr w F b hR).mono fun e w' q => ?_), h.up⟩
      rcases q with ⟨_, q1, q2⟩ | ⟨q, _⟩
      · exact ⟨q1, q2⟩
      · rw [ha] at q; cases q
    · have hall : ∀ (i : Nat) (s : PSrv), X.servers[i]? = some s → s.seen = X.epoch := fun i s hs => by
        obtain ⟨sn, uu, a1, _, a3⟩ := h.srv i s hs
        have := List.all_eq_true.1 ha sn (List.mem_of_getElem? a1)
        rw [a3.seen, h.ep.1]
        simpa using this
      refine ⟨0, _, _, hP.yes (by rw [h.turn]; exact hu) hall m P (by omega) hPk, r_kept (fun w F b hR => (hr w F b hR).mono fun e w' q => ?_), rel_promote h hu hm hPk hK⟩
      rcases q with ⟨q, _⟩ | ⟨_, q⟩
      · rw [ha] at q; cases q
      · exact q
  · exact ⟨17, X, Y, hP.turn (by rw [h.turn]; exact hu), r_same (fun w F b hR => Promote_turn w hR (by rw [bne_iff_ne]; exact hu)), h.up⟩
def pGoing (X : PS) : Bool := (X.turn == 2) || (X.turn == 3)
def pUsed (X : PS) : Bool := X.entries.any (fun e => !e.gone && (e.key != X.write))
structure PGate (X : PS) : Prop where
  turn : pGoing X = false → PUni 45 [] X (.int .i64 17) X
  used : pGoing X = true → pUsed X = true → PUni 45 [] X (.int .i64 19) X
  yes : pGoing X = true → pUsed X = false → PUni 45 [] X (.int .i64 0) (X.setTurn 3)
theorem gate_two (h : Rel2 n X Y) (hn : n ≤ 50000000) (hP : PGate X) : ∃ v : Int, Pair2 45 46 [] X Y n (.int .i64 v) := by
  have hg : pGoing X = goingOf Y := by unfold pGoing goingOf; rw [h.turn]
  have hu : pUsed X = usedOf Y := by unfold pUsed usedOf; rw [h.ent, h.write]
  have hA := h.all
  cases g : goingOf Y
  · exact ⟨17, X, Y, hP.turn (hg.trans g), r_same (fun w F b hR => Gate_turn w hR g), h.up⟩
  · have hr := fun (w : World) (F : Nat → Prop) (b : Nat) (hR : RIn w F b Y) => Gate_any w hR g h.keys.few.2 (by omega)
    cases uu : usedOf Y
    · refine ⟨0, X.setTurn 3, { Y with turn := 3 }, hP.yes (hg.trans g) (hu.trans uu), r_kept (fun w F b hR => ?_), rel_gate h g uu⟩
      have q := hr w F b hR
      unfold gateErr RS.gate at q
      rw [uu] at q
      exact q
    · refine ⟨19, X, Y, hP.used (hg.trans g) (hu.trans uu), r_kept (fun w F b hR => ?_), h.up⟩
      have q := hr w F b hR
      unfold gateErr RS.gate at q
      rw [uu] at q
      exact q
def pLeft (ks : List PKey) : Nat := ks.countP (fun k => !keyGone k)
structure PDestroy (X : PS) (k : Int) : Prop where
  none : k < 1 ∨ (X.keys.length : Int) < k → PUni 47 [.int .i64 k] X (.int .i64 12) X
  gone : ∀ (j : Nat) (P : PKey), k = (j : Int) + 1 → X.keys[j]? = some P → keyGone P = true → PUni 47 [.int .i64 k] X (.int .i64 14) X
  gate : ∀ (j : Nat) (P : PKey), k = (j : Int) + 1 → X.keys[j]? = some P → keyGone P = false → (k = X.write ∨ X.turn ≠ 3) → PUni 47 [.int .i64 k] X (.int .i64 20) X
  yes : ∀ (j : Nat) (P : PKey), k = (j : Int) + 1 → X.keys[j]? = some P → keyGone P = false → k ≠ X.write → X.turn = 3 → PUni 47 [.int .i64 k] X (.int .i64 0) (X.destroy j P (if pLeft (X.keys.set j { P with text := ⟨#[]⟩ }) == 1 then 0 else X.turn))
theorem KSame.alive {p : PKey} {k : RKey} (h : KSame p k) : keyGone p = k.gone := by
  cases hg : k.gone
  · exact keyGone_no (by rw [h.text hg]; exact h.size)
  · exact h.dead hg
theorem left_same : ∀ (ks : List PKey) (rs : List RKey), ks.length = rs.length → (∀ (i : Nat) (p : PKey) (k : RKey), ks[i]? = some p → rs[i]? = some k → keyGone p = k.gone) → pLeft ks = leftOf rs
  | [], [], _, _ => rfl
  | p :: r, k :: r', hl, hs => by
    have ih := left_same r r' (by simpa using hl) (fun i p k hp hk => hs (i + 1) p k (by simpa using hp) (by simpa using hk))
    have h0 := hs 0 p k rfl rfl
    unfold pLeft leftOf at *
    rw [List.countP_cons, List.countP_cons, ih, h0]
theorem destroy_two (h : Rel2 n X Y) (k : Int) (hP : PDestroy X k) : ∃ v : Int, Pair2 47 48 [.int .i64 k] X Y n (.int .i64 v) := by
  have hl := h.keys.len
  have hf := h.keys.few
  cases hno : noKey Y k
  · have hno2 : ¬ k < 1 ∧ ¬ (Y.keys.length : Int) < k := by unfold noKey at hno; simp at hno; omega
    obtain ⟨j, rfl⟩ : ∃ j : Nat, k = (j : Int) + 1 := ⟨(k - 1).toNat, by omega⟩
    obtain ⟨K, hK⟩ : ∃ K, Y.keys[j]? = some K := ⟨_, List.getElem?_eq_getElem (by omega)⟩
    obtain ⟨P, hPk⟩ : ∃ P, X.keys[j]? = some P := ⟨_, List.getElem?_eq_getElem (by omega)⟩
    have hks := h.keys.same j P K hPk hK
    have hj6 : j ≤ 6 := by omega
    cases hg : K.gone
    · have hgp : keyGone P = false := hks.alive.trans hg
      cases hb : badGate Y ((j : Int) + 1)
      · have hb2 := hb
        unfold badGate at hb2
        rw [Bool.or_eq_false_iff] at hb2
        have q1 : (j : Int) + 1 ≠ X.write := by rw [h.write]; simpa using hb2.1
        have q2 : X.turn = 3 := by rw [h.turn]; simpa using hb2.2
        have e : (if pLeft (X.keys.set j { P with text := ⟨#[]⟩ }) == 1 then (0 : Int) else X.turn) = (Y.destroy j K).turn := by
          show _ = (if leftOf (Y.keys.set j { K with gone := true }) == 1 then (0 : Int) else Y.turn)
          rw [h.turn, left_same (X.keys.set j { P with text := ⟨#[]⟩ }) (Y.keys.set j { K with gone := true }) (by simp [hl]) (fun i p k hp hk => ?_)]
          rcases set_at hp with ⟨hi, hp⟩ | ⟨hi, hpe⟩
          · rcases set_at hk with ⟨_, hk⟩ | ⟨hk, _⟩
            · exact (h.keys.same i p k hp hk).alive
            · exact absurd hk hi
          · rcases set_at hk with ⟨hk, _⟩ | ⟨_, hke⟩
            · exact absurd hi hk
            · rw [hpe, hke]
              exact beq_self_eq_true (⟨#[]⟩ : ByteArray).toList
        have hx := hP.yes j P rfl hPk hgp q1 q2
        rw [e] at hx
        exact ⟨0, _, _, hx, r_kept (fun w F b hR => Destroy_yes w j K hR hK hj6 hf.2 hg hb), rel_destroy h hPk hK hb⟩
      · refine ⟨20, X, Y, hP.gate j P rfl hPk hgp ?_, r_same (fun w F b hR => Destroy_gate w j K hR hK hj6 hf.2 hg hb), h.up⟩
        unfold badGate at hb
        rw [Bool.or_eq_true] at hb
        rcases hb with q | q
        · exact Or.inl (by rw [h.write]; simpa using q)
        · exact Or.inr (by rw [h.turn]; simpa using q)
    · exact ⟨14, X, Y, hP.gone j P rfl hPk (hks.alive.trans hg), r_same (fun w F b hR => Destroy_gone w j K hR hK hj6 hg), h.up⟩
  · refine ⟨12, X, Y, hP.none ?_, r_same (fun w F b hR => Destroy_none w k hR hno), h.up⟩
    unfold noKey at hno
    simp at hno
    omega
end Go.Proofs.YtphapknfkbgapaaGreatDoor
namespace Go.Proofs.YtphapknfkbgapaaGreatDoor
open Go.RowKit

/-! All that Turns asks of the two sides, as soon as the program's own contracts are known. -/

def Rel21 (n : Nat) (X : PS) (Y : RS) : Prop := Rel2 (21 * n) X Y
theorem pair21 {fx fr : Nat} {args : List Value} {X : PS} {Y : RS} {n : Nat} {v : Value} (h : Pair2 fx fr args X Y (21 * n) v) : PairR Rel21 fx fr args X Y n v := by
  obtain ⟨X', Y', a, b, c⟩ := h
  exact ⟨X', Y', a, b, c.mono (by omega)⟩
/-- What is still to be shown of the program. -/
structure PTurn : Prop where
  stage : ∀ (n : Nat) (X : PS) (Y : RS) (t : ByteArray), n ≤ 50000000 → Rel2 n X Y → t.size ≤ maxLen → PStage X t
  promote : ∀ (n : Nat) (X : PS) (Y : RS), n ≤ 50000000 → Rel2 n X Y → PPromote X
  gate : ∀ (n : Nat) (X : PS) (Y : RS), n ≤ 50000000 → Rel2 n X Y → PGate X
  destroy : ∀ (n : Nat) (X : PS) (Y : RS) (k : Int), n ≤ 50000000 → Rel2 n X Y → PDestroy X k
  migrate : ∀ (n : Nat) (X : PS) (Y : RS) (m : Int), n ≤ 2000000 → Rel21 n X Y → ∃ v e : Int, PairR Rel21 43 44 [.int .i64 m] X Y n (.tuple #[.int .i64 v, .int .i64 e])
theorem sides_of (hT : PTurn) : Sides Rel21 where
  refresh := fun n X Y s _ r => by
    obtain ⟨v, h⟩ := refresh_two r s
    exact ⟨v, pair21 h⟩
  crash := fun n X Y s _ r => by
    obtain ⟨v, h⟩ := crash_two r s
    exact ⟨v, pair21 h⟩
  begins := fun n X Y s q m p t hn r hp hq => by
    obtain ⟨v, h⟩ := begin_two r (by omega) s ⟨q, p, t, m⟩ hp hq
    exact ⟨v, pair21 h⟩
  commit := fun n X Y s hn r => by
    obtain ⟨v, e, h⟩ := commit_two r (by omega) s
    exact ⟨v, e, pair21 h⟩
  get := fun n X Y s p hn r => by
    obtain ⟨A, v, e, h⟩ := get_two r (by omega) s p
    exact ⟨A, v, e, pair21 h⟩
  getAt := fun n X Y s m p hn r => by
    obtain ⟨A, v, e, h⟩ := getAt_two r (by omega) s p m
    exact ⟨A, v, e, pair21 h⟩
  compact := fun n X Y m hn r => by
    obtain ⟨v, h⟩ := compact_two r (by omega) m
    exact ⟨v, pair21 h⟩
  stage := fun n X Y t hn r ht => by
    obtain ⟨v, e, h⟩ := stage_two r t (hT.stage _ X Y t (by omega) r ht)
    exact ⟨v, e, pair21 h⟩
  promote := fun n X Y hn r => by
    obtain ⟨v, h⟩ := promote_two r (hT.promote _ X Y (by omega) r)
    exact ⟨v, pair21 h⟩
  migrate := fun n X Y m hn r => hT.migrate n X Y m hn r
  gate := fun n X Y hn r => by
    obtain ⟨v, h⟩ := gate_two r (by omega) (hT.gate _ X Y (by omega) r)
    exact ⟨v, pair21 h⟩
  destroy := fun n X Y m hn r => by
    obtain ⟨v, h⟩ := destroy_two r m (hT.destroy _ X Y m (by omega) r)
    exact ⟨v, pair21 h⟩
  state := fun n X Y r => ⟨r.keys.few.2, r.rev.symm, r.floor.symm, r.ep.1.symm, r.write.symm, r.turn.symm⟩
  entries := fun n X Y hn r => ⟨r.ent.symm, by have := r.few; have := r.rooms; omega, by have := r.all; omega⟩
  up := fun n X Y r => Rel2.mono r (by omega)
theorem new21 (m : Nat) (room : Int) (key : ByteArray) (hc : cfgOk (m : Int) room key = true) : Rel21 0 (PS.new m room key) (RS.new m room key) := new_two m room key hc
end Go.Proofs.YtphapknfkbgapaaGreatDoor
