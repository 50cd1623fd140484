import Derived.Test.YtphapknfkbgapabDoorPGToPW
import Derived.Test.YtphapknfkbgapabDoorPOToRelE
import Derived.Test.YtphapknfkbgapabDoorPMToPF
import Derived.Test.YtphapknfkbgapabDoorRefBToPH
namespace Go.Proofs.YtphapknfkbgapabDoor
open Go.RowKit

variable {F : Nat → Prop} {b : Nat} {X : PS}

/-! Begin, where the key was destroyed. -/
set_option maxRecDepth 100000 in
set_option maxHeartbeats 1000000 in
theorem sealed_gone (w : World) (path plain : ByteArray) (K : PKey) (i : Nat) (h : XIn w F b X) (hk : X.keys[i]? = some K) (hi6 : i ≤ 6) (hK : keyGone K = true) :
    Calls Tryd.prog 78 #[.pointer (some ⟨b, 0, none⟩), .int .i64 ((i : Int) + 1), .string path, .string plain] w fun r w' =>
      r = .returned (.tuple #[.agg Ent.zero.cells.toArray, .int .i64 14]) ∧ Low w.heap.size w w' := by
  have HR := hid h
  have HK := hid hk
  have KG := hid hK
  have hb := h.lt
  clear h hk hK
  go_enter Tryd.func78, Tryd.ntmps78
  go_wp2_with (first | (go_at_call 53; refine (key_any _ i K (by exact HR.out.alloc _) HK.out (by omega)).mono ?_; rintro r y1 ⟨rfl, l1⟩; have bN : Blk y1 w.heap.size 65 Ent.zero.cells := (Blk.new w 65 Ent.zero.cells).low l1 (by simp); have L1 : Hid (Low w.heap.size w y1) := ((Low.refl _ w).alloc (Nat.le_refl _) _).trans (l1.mono (by simp)); have BN1 := hid bN; clear l1 bN) | (go_at_call 66; refine (destroyed_any _ K).mono ?_; rw [KG.out]; rintro r y2 ⟨rfl, l2⟩; have bNb : Blk y2 w.heap.size 65 Ent.zero.cells := (BN1.out.alloc _).low l2 (by have := BN1.out.lt; simp; omega); have L2 : Hid (Low w.heap.size w y2) := (L1.out.alloc L1.out.size _).trans (l2.mono (by have := L1.out.size; simp; omega)); have BN2 := hid bNb; clear l2 bNb) | ((with_reducible refine st50 (.tmp 8) (.tmp 20) w.heap.size Ent.zero Ent.zero ?_ ?_ BN2.out ?_); rfl; rfl; intro w1 b1 k1 t1; have B1 := hid b1; have K1 := hid k1; have LT1 := hid t1; clear b1 k1 t1))
  (try simp only [Exit.inBlock, Exit.then])
  refine bodyPost_ret (results_cell_tmp rfl w.heap.size Ent.zero.cells _ rfl B1.out.whole Tryd.underlying65 rfl (sz50 _)) rfl ?_
  exact ⟨rfl, low_set L2.out K1.out (Nat.le_refl _) (by have := BN2.out.lt; have := LT1.out; omega)⟩
set_option maxRecDepth 100000 in
set_option maxHeartbeats 1000000 in
theorem prepared_gone (w : World) (seen : Int) (o : AOp) (K : PKey) (i : Nat) (hk2 : (o.kind == 2) = false) (h : XIn w F b X) (hw : writerOf X.keys seen = (i : Int) + 1) (hk : X.keys[i]? = some K) (hl : X.keys.length ≤ 6) (hK : keyGone K = true) :
    Calls Tryd.prog 56 #[.pointer (some ⟨b, 0, none⟩), .int .i64 seen, .agg #[.int .i64 o.kind, .string o.path, .string o.plain, .int .i64 o.rev]] w fun e w' => e = .returned (.tuple #[.agg Ent.zero.cells.toArray, .int .i64 14]) ∧ Low w.heap.size w w' := by
  have HR := hid h
  have HW := hid hw
  have HK := hid hk
  have HT := hid hK
  have hil : i < X.keys.length := (List.getElem?_eq_some_iff.1 hk).1
  clear h hw hk hK
  have hV : Hid (∀ A B : Obj, Low w.heap.size w ((w.alloc A).alloc B)) := fun A B => ((Low.refl _ w).alloc (Nat.le_refl _) A).alloc (by simp) B
  go_enter Tryd.func56, Tryd.ntmps56
  go_wp2_with (first | (go_at_call 77; refine (writer_any _ _ (by exact (HR.out.alloc _).alloc _) hl (by omega)).mono ?_; rw [HW.out]; rintro e y1 ⟨rfl, rfl⟩) | (go_at_call 78; refine (sealed_gone _ _ _ K i (by exact (HR.out.alloc _).alloc _) HK.out (by omega) HT.out).mono ?_; rintro e y2 ⟨rfl, l2⟩; have L2 : Hid (Low w.heap.size w y2) := (hV.out _ _).trans (l2.mono (by simp; omega)); have BN : Hid (Blk y2 (w.heap.size + 1) 65 Ent.zero.cells) := (show Blk ((w.alloc (.cells o.cells.toArray 90)).alloc (.cells Ent.zero.cells.toArray 65)) (w.heap.size + 1) 65 Ent.zero.cells from (by (have q := Blk.new (w.alloc (.cells o.cells.toArray 90)) 65 Ent.zero.cells); rw [World.size_alloc] at q; exact q)).low l2 (by simp); clear l2) | ((with_reducible refine st50 (.tmp 6) (.tmp 25) (w.heap.size + 1) Ent.zero Ent.zero ?_ ?_ BN.out ?_); rfl; rfl; intro w1 b1 k1 t1; have B1 := hid b1; have K1 := hid k1; clear b1 k1 t1))
  (try simp only [Exit.inBlock, Exit.then])
  refine bodyPost_ret (results_cell_tmp rfl (w.heap.size + 1) Ent.zero.cells _ rfl B1.out.whole Tryd.underlying65 rfl (sz50 _)) rfl ?_
  exact ⟨rfl, low_set L2.out K1.out (by omega) (by have := BN.out.lt; omega)⟩
set_option maxRecDepth 100000 in
set_option maxHeartbeats 1000000 in
theorem pBegin_gone (w : World) (i : Nat) (s : PSrv) (o : AOp) (K : PKey) (ki : Nat) (h : XIn w F b X) (ha : X.servers[i]? = some s) (hu : s.busy = false) (hsn : (s.seen == 0) = false) (hp : o.path.size ≤ maxLen) (hq : o.plain.size ≤ maxLen) (ho : properOf o = true) (hk2 : (o.kind == 1) = true) (hw : writerOf X.keys s.seen = (ki : Int) + 1) (hk : X.keys[ki]? = some K) (hl : X.keys.length ≤ 6) (hK : keyGone K = true) :
    Calls Tryd.prog 36 #[.pointer (some ⟨b, 0, none⟩), .int .i64 (i : Int), .agg #[.int .i64 o.kind, .string o.path, .string o.plain, .int .i64 o.rev]] w fun e w' => e = .returned (.int .i64 14) ∧ Low w.heap.size w w' := by
  have hk3 : (o.kind == 2) = false := beq_eq_false_iff_ne.2 (by have := beq_iff_eq.1 hk2; omega)
  have HR := hid h
  have HS := hid (psrv ha).1
  have hb := h.lt
  obtain ⟨gS, capS, hcS, hgS, hcs, _⟩ := xin_srvAt h ha
  have s0 : w.cell? ⟨gS, i * 10, none⟩ = some (.int .i64 s.seen) := hcs 0 (by omega)
  have s1 : w.cell? ⟨gS, i * 10 + 1, none⟩ = some (.bool s.busy) := hcs 1 (by omega)
  have i1 := (psrv ha).2
  clear h hcs ha
  have HP := hid hp
  have HQ := hid hq
  have HO := hid ho
  have HW := hid hw
  have HKK := hid hk
  have HT := hid hK
  clear hp hq ho hw hk hK
  go_enter Tryd.func36, Tryd.ntmps36
  go_wp2_with (first | (go_at_call 23; refine (isServer_any _ _ (by exact HR.out.alloc _)).mono ?_; rw [HS.out]; rintro e y1 ⟨rfl, rfl⟩) | (go_at_call 55; refine (isOperation_any _ o HP.out HQ.out).mono ?_; rw [HO.out]; rintro e y1 ⟨rfl, l1⟩; have L1 : Hid (Low w.heap.size w y1) := ((Low.refl _ w).alloc (Nat.le_refl _) _).trans (l1.mono (by simp)); have b75 : Blk y1 w.heap.size 90 o.cells := (Blk.new w 90 o.cells).low l1 (by simp); have n0 : y1.cell? ⟨w.heap.size, 0, none⟩ = some (.int .i64 o.kind) := b75.cell 0; have n1 : y1.cell? ⟨w.heap.size, 1, none⟩ = some (.string o.path) := b75.cell 1; have n2 : y1.cell? ⟨w.heap.size, 2, none⟩ = some (.string o.plain) := b75.cell 2; have n3 : y1.cell? ⟨w.heap.size, 3, none⟩ = some (.int .i64 o.rev) := b75.cell 3; have X1 : Hid (XIn y1 F b X) := HR.out.low L1.out; clear l1 b75) | (go_at_call 56; refine (prepared_gone _ _ o K ki hk3 X1.out HW.out HKK.out hl HT.out).mono ?_; rintro e y2 ⟨rfl, l2⟩; have L2 : Hid (Low w.heap.size w y2) := L1.out.trans (l2.mono L1.out.size); clear l2) | ((with_reducible refine st50 (.tmp 8) (.tmp 41) y2.heap.size Ent.zero Ent.zero ?_ ?_ ?_ ?_); rfl; rfl; exact (Blk.new y2 65 Ent.zero.cells); intro W b3 k3 t3; have LW : Hid (Low w.heap.size w W) := low_set (L2.out.alloc L2.out.size _) k3 L2.out.size (by have := L2.out.size; simp; omega); clear b3 k3 t3))
  go_ret
  exact ⟨rfl, LW.out⟩
end Go.Proofs.YtphapknfkbgapabDoor
namespace Go.Proofs.YtphapknfkbgapabDoor
open Go.RowKit

variable {X : PS} {Y : RS} {n : Nat}
theorem KSame.dead {p : PKey} {k : RKey} (h : KSame p k) (hg : k.gone = true) : keyGone p = true := by
  unfold keyGone
  rw [h.gone hg]
  exact beq_self_eq_true _
end Go.Proofs.YtphapknfkbgapabDoor
namespace Go.Proofs.YtphapknfkbgapabDoor
open Go.RowKit

variable {X : PS} {Y : RS} {n : Nat}
theorem compact_of (hent : X.entries = keptOf Y.all) (hrevs : Revs Y.all) (r : Nat) : (X.compact (r : Int)).entries = keptOf (Y.compact r).all := by
  show X.entries.filter (fun e => outl X e (r : Int)) = keptOf (allTo Y.all (outAt Y.all r) r)
  have e0 : ∀ e : Ent, outl X e (r : Int) = (decide ((r : Int) < e.rev) || ((e.rev == ((lastOf (Y.all.take r) e.path).getD Ent.zero).rev) && !e.gone)) := by
    intro e
    unfold outl
    rw [hent, newest_last _ _ _ hrevs, Int.toNat_natCast]
  rw [hent]
  refine kept_filter (fun e => outl X e (r : Int)) (outAt Y.all r) r Y.all (fun j k hk ho => ?_)
  show outl X k.e (r : Int) = _
  rw [e0]
  have hrev := hrevs j k hk
  have hout : outAt Y.all r j = ((((lastOf (Y.all.take r) k.e.path).getD Ent.zero).rev != (j : Int) + 1) || ((lastOf (Y.all.take r) k.e.path).getD Ent.zero).gone) := by
    unfold outAt; rw [hk]
  rw [hout, hrev]
  by_cases hj : j < r
  · have d1 : decide ((r : Int) < (j : Int) + 1) = false := by simp; omega
    rw [d1, decide_eq_true hj, Bool.false_or, Bool.true_and]
    cases hL : lastOf (Y.all.take r) k.e.path with
    | none =>
      have : ((0 : Int) != (j : Int) + 1) = true := by rw [bne_iff_ne]; omega
      have h2 : (((j : Int) + 1) == (0 : Int)) = false := by rw [beq_eq_false_iff_ne]; omega
      simp [Ent.zero, this, h2]
    | some e =>
      simp only [Option.getD_some]
      by_cases he : e.rev = (j : Int) + 1
      · obtain ⟨k2, hm, rfl, _, _⟩ := lastOf_mem hL
        obtain ⟨i, hi⟩ := List.getElem?_of_mem hm
        have hi2 : Y.all[i]? = some k2 := by
          rw [List.getElem?_take] at hi
          split at hi
          · exact hi
          · cases hi
        have hr2 := hrevs i k2 hi2
        obtain rfl : i = j := by omega
        obtain rfl : k2 = k := Option.some.inj (hi2.symm.trans hk)
        simp [he]
      · have a1 : (((j : Int) + 1) == e.rev) = false := by rw [beq_eq_false_iff_ne]; omega
        have a2 : (e.rev != (j : Int) + 1) = true := by rw [bne_iff_ne]; exact he
        simp [a1, a2]
  · have d1 : decide ((r : Int) < (j : Int) + 1) = true := by simp; omega
    rw [d1, decide_eq_false hj]
    simp
theorem allTo_get2 {l : List RKept} {f : Nat → Bool} {n j : Nat} {k : RKept} (h : (allTo l f n)[j]? = some k) : ∃ k0, l[j]? = some k0 ∧ k.e = k0.e ∧ (k.out = false → k0.out = false) := by
  unfold allTo at h
  rw [List.getElem?_mapIdx] at h
  cases hl : l[j]? with
  | none => rw [hl] at h; cases h
  | some k0 =>
    rw [hl] at h
    have h : (if j < n then { k0 with out := k0.out || f j } else k0) = k := Option.some.inj h
    refine ⟨k0, rfl, ?_, ?_⟩
    · rw [← h]
      split <;> rfl
    · rw [← h]
      split
      · intro q
        have q : (k0.out || f j) = false := q
        exact (Bool.or_eq_false_iff.1 q).1
      · exact id
end Go.Proofs.YtphapknfkbgapabDoor
namespace Go.Proofs.YtphapknfkbgapabDoor
open Go.RowKit

/-! The two coffers stay alike while the key is turned: plain data. -/

variable {X : PS} {Y : RS} {n : Nat}
theorem new_two (m : Nat) (room : Int) (key : ByteArray) (hc : cfgOk (m : Int) room key = true) : Rel2 0 (PS.new m room key) (RS.new m room key) := by
  unfold cfgOk at hc
  simp at hc
  obtain ⟨⟨c1, c2, c3, c4⟩, c5⟩ := hc
  have e : (RS.new (m : Int) room key).seen = List.replicate m 0 := by show List.replicate (m : Int).toNat 0 = _; rw [Int.toNat_natCast]
  have e2 : (RS.new (m : Int) room key).ops = List.replicate m RUnd.zero := by show List.replicate (m : Int).toNat RUnd.zero = _; rw [Int.toNat_natCast]
  have one : ∀ (i : Nat) (k : RKey), ([⟨key, 1, 1, false⟩] : List RKey)[i]? = some k → i = 0 ∧ k = ⟨key, 1, 1, false⟩ := by
    intro i k hk
    have hi : i < 1 := (List.getElem?_eq_some_iff.1 hk).1
    have hi0 : i = 0 := by omega
    subst hi0
    exact ⟨rfl, (Option.some.inj hk).symm⟩
  refine ⟨⟨rfl, ⟨Nat.le_refl _, by show 1 ≤ 6; omega⟩, fun i p k hp hk => ?_, fun k hk => ?_, fun i k hk => ?_, fun i k hk => ?_, fun i k hk hz => ?_, fun i j a c hij ha hcj _ => ?_, fun ht => (by cases ht), fun i k hk hz => ?_⟩, fun j K _ hK => ?_, ⟨rfl, Int.le_refl _, by show (1 : Int) + 1 ≤ 2 * ((1 : Nat) : Int); omega, fun q => by cases q⟩, rfl, rfl, rfl, ⟨c3, c4⟩, rfl, rfl, Int.le_refl _, ⟨rfl, Int.le_refl _, Int.le_refl _⟩, ?_, ?_, rfl, ?_, ?_, ?_, Nat.le_refl _, fun ht => (by cases ht), ⟨fun i hi => ?_, fun q hq => (by cases hq), fun i _ => rfl, fun i _ => Nat.zero_le _⟩⟩
  · obtain ⟨rfl, rfl⟩ := one i k hk
    obtain rfl := (Option.some.inj hp).symm
    exact ⟨rfl, rfl, c5, fun _ => rfl, fun h => by cases h⟩
  · obtain ⟨_, rfl⟩ := one 0 k hk
    exact ⟨rfl, rfl⟩
  · obtain ⟨_, rfl⟩ := one i k hk
    exact ⟨Int.le_refl _, Int.le_refl _⟩
  · obtain ⟨_, rfl⟩ := one i k hk
    exact ⟨by show (0 : Int) ≤ 1; omega, Int.le_refl _⟩
  · obtain ⟨_, rfl⟩ := one i k hk
    cases hz
  · obtain ⟨rfl, _⟩ := one j c hcj
    omega
  · obtain ⟨_, rfl⟩ := one i k hk
    cases hz
  · obtain ⟨_, rfl⟩ := one j K hK
    rfl
  · rw [e, e2]
    show (List.replicate m PSrv.zero).length = _ ∧ _
    simp
    omega
  · intro i s hs
    rw [e, e2]
    have hs : (List.replicate m PSrv.zero)[i]? = some s := hs
    rw [List.getElem?_replicate] at hs
    split at hs
    · rename_i hi
      obtain rfl := (Option.some.inj hs).symm
      exact ⟨0, RUnd.zero, by rw [List.getElem?_replicate, if_pos hi], by rw [List.getElem?_replicate, if_pos hi], rfl, ⟨Int.le_refl _, by show (0 : Int) ≤ 1; omega⟩, rfl, fun q => by cases q⟩
    · cases hs
  · show ((([] : List Ent).length : Nat) : Int) ≤ room
    simp
    omega
  · intro i k hk
    have hk : ([] : List RKept)[i]? = some k := hk
    simp at hk
  · intro k hk
    have hk : k ∈ ([] : List RKept) := hk
    simp at hk
  · show (List.replicate 8 (-1 : Int))[i]? = some (-1)
    rw [List.getElem?_replicate, if_pos hi]
end Go.Proofs.YtphapknfkbgapabDoor
namespace Go.Proofs.YtphapknfkbgapabDoor
open Go.RowKit

variable {X : PS} {Y : RS} {n : Nat}
theorem snoc_at {α : Type} {l : List α} {x k : α} {i : Nat} (h : (l ++ [x])[i]? = some k) : l[i]? = some k ∨ (i = l.length ∧ k = x) := by
  by_cases hi : i < l.length
  · rw [List.getElem?_append_left hi] at h; exact Or.inl h
  · rw [List.getElem?_append_right (by omega)] at h
    have : i - l.length < 1 := (List.getElem?_eq_some_iff.1 h).1
    have hi2 : i = l.length := by omega
    subst hi2
    rw [Nat.sub_self] at h
    exact Or.inr ⟨rfl, (Option.some.inj h).symm⟩
theorem set_at {α : Type} {l : List α} {x k : α} {i j : Nat} (h : (l.set j x)[i]? = some k) : (i ≠ j ∧ l[i]? = some k) ∨ (i = j ∧ k = x) := by
  by_cases e : j = i
  · subst e
    have hi : j < l.length := by simpa using (List.getElem?_eq_some_iff.1 h).1
    rw [List.getElem?_set_self hi] at h
    exact Or.inr ⟨rfl, (Option.some.inj h).symm⟩
  · rw [List.getElem?_set_ne e] at h
    exact Or.inl ⟨fun q => e q.symm, h⟩
/-! Stage. -/
def PS.stage (X : PS) (t : ByteArray) : PS := { X with epoch := X.epoch + 1, keys := X.keys ++ [⟨t, X.epoch + 1, 0⟩], turn := 1 }
theorem rel_stage (h : Rel2 n X Y) (t : ByteArray) (ht : t.size = 48) (hk : Y.keys.length < 6) (hu : Y.turn = 0) : Rel2 (n + 1) (X.stage t) (Y.stage t) := by
  have hz : ∀ e : Int, writesOf (Y.keys ++ [⟨t, Y.epoch + 1, 0, false⟩]) e = writesOf Y.keys e := fun e => by
    rw [writesOf_snoc]
    simp
  have hW : writesOf (Y.keys ++ [⟨t, Y.epoch + 1, 0, false⟩]) (Y.epoch + 1) = writesOf Y.keys Y.epoch := by rw [hz, h.keys.later h.ep.2.1 (by omega)]
  have u := h.up
  refine ⟨⟨?_, ?_, ?_, ?_, ?_, ?_, ?_, ?_, ?_, ?_⟩, ?_, ?_, ?_, rfl, h.room, h.rooms, h.rev, h.floor, h.floor0, u.draws, h.len, ?_, h.ent, h.few, h.revs, ?_, u.all, fun q => (by cases q), h.pods⟩
  · show (X.keys ++ [_]).length = (Y.keys ++ [_]).length
    simp [h.keys.len]
  · show 1 ≤ (Y.keys ++ [_]).length ∧ (Y.keys ++ [_]).length ≤ 6
    simp
    omega
  · intro i p k hp hk2
    rcases snoc_at hp with hp | ⟨hp, rfl⟩
    · rcases snoc_at hk2 with hk2 | ⟨hk2, rfl⟩
      · exact h.keys.same i p k hp hk2
      · have := (List.getElem?_eq_some_iff.1 hp).1; have := h.keys.len; omega
    · rcases snoc_at hk2 with hk2 | ⟨_, rfl⟩
      · have := (List.getElem?_eq_some_iff.1 hk2).1; have := h.keys.len; omega
      · exact ⟨by show X.epoch + 1 = Y.epoch + 1; rw [h.ep.1], rfl, ht, fun _ => rfl, fun q => by cases q⟩
  · intro k hk2
    rcases snoc_at hk2 with hk2 | ⟨hk2, _⟩
    · exact h.keys.first k hk2
    · have := h.keys.few.1; omega
  · intro i k hk2
    show 1 ≤ k.came ∧ k.came ≤ Y.epoch + 1
    have := h.ep.2.1
    rcases snoc_at hk2 with hk2 | ⟨_, rfl⟩
    · have := h.keys.came i k hk2; omega
    · show 1 ≤ Y.epoch + 1 ∧ Y.epoch + 1 ≤ Y.epoch + 1; omega
  · intro i k hk2
    show 0 ≤ k.writes ∧ k.writes ≤ Y.epoch + 1
    have := h.ep.2.1
    rcases snoc_at hk2 with hk2 | ⟨_, rfl⟩
    · have := h.keys.wr i k hk2; omega
    · show 0 ≤ (0 : Int) ∧ 0 ≤ Y.epoch + 1; omega
  · intro i k hk2 hz0
    rcases snoc_at hk2 with hk2 | ⟨hk2, _⟩
    · have := (h.keys.zero i k hk2 hz0).2; omega
    · exact ⟨by show i + 1 = (Y.keys ++ [_]).length; simp [hk2], rfl⟩
  · intro i j a c hij ha hc hcz
    rcases snoc_at hc with hc | ⟨_, rfl⟩
    · rcases snoc_at ha with ha | ⟨ha, _⟩
      · exact h.keys.rise i j a c hij ha hc hcz
      · have := (List.getElem?_eq_some_iff.1 hc).1; omega
    · exact absurd rfl hcz
  · intro _ k hk2
    rcases snoc_at hk2 with hk2 | ⟨_, rfl⟩
    · have := (List.getElem?_eq_some_iff.1 hk2).1
      have e : (Y.stage t).keys.length = Y.keys.length + 1 := by show (Y.keys ++ [_]).length = _; simp
      omega
    · rfl
  · intro i k hk2 hz0
    rcases snoc_at hk2 with hk2 | ⟨_, rfl⟩
    · exact h.keys.fresh i k hk2 hz0
    · rfl
  · intro j K hj hK
    replace hj : writesOf (Y.keys ++ [⟨t, Y.epoch + 1, 0, false⟩]) (Y.epoch + 1) = (j : Int) + 1 := hj
    rw [hW] at hj
    rcases snoc_at hK with hK | ⟨_, rfl⟩
    · exact h.live j K hj hK
    · rfl
  · refine ⟨by show X.epoch + 1 = Y.epoch + 1; rw [h.ep.1], by show 1 ≤ Y.epoch + 1; have := h.ep.2.1; omega, ?_, fun _ => ?_⟩
    · show Y.epoch + 1 + 1 ≤ 2 * (((Y.keys ++ [_]).length : Nat) : Int)
      have := h.ep.2.2.1
      simp
      omega
    · show Y.epoch + 1 + 2 ≤ 2 * (((Y.keys ++ [_]).length : Nat) : Int)
      have := h.ep.2.2.1
      simp
      omega
  · show X.write = writesOf (Y.keys ++ [⟨t, Y.epoch + 1, 0, false⟩]) (Y.epoch + 1)
    rw [hW]; exact h.write
  · intro i s hs
    obtain ⟨sn, uu, a1, a2, a3⟩ := h.srv i s hs
    refine ⟨sn, uu, a1, a2, a3.seen, ⟨a3.sn.1, by show sn ≤ Y.epoch + 1; have := a3.sn.2; omega⟩, a3.busy, fun hb => ?_⟩
    obtain ⟨e1, e2, e3, e4, e5, e6, e7⟩ := a3.op hb
    refine ⟨e1, e2, e3, e4, ⟨e5.1, by show uu.epoch ≤ Y.epoch + 1; omega⟩, e6, fun hg => ⟨(e7 hg).1, ?_⟩⟩
    show uu.e.key = writesOf (Y.keys ++ [⟨t, Y.epoch + 1, 0, false⟩]) uu.epoch
    rw [hz]; exact (e7 hg).2
  · intro k hk2 hg
    obtain ⟨a1, j, K, a2, a3, a4⟩ := h.eok k hk2 hg
    exact ⟨a1, j, K, a2, by show (Y.keys ++ [_])[j]? = _; rw [List.getElem?_append_left (List.getElem?_eq_some_iff.1 a3).1]; exact a3, a4⟩
/-! Gate. -/
def PS.setTurn (X : PS) (t : Int) : PS := { X with turn := t }
theorem rel_gate (h : Rel2 n X Y) (hg : goingOf Y = true) (hu : usedOf Y = false) : Rel2 (n + 1) (X.setTurn 3) { Y with turn := 3 } := by
  have u := h.up
  have hne : Y.turn ≠ 1 := by
    unfold goingOf at hg
    intro e
    rw [e] at hg
    cases hg
  refine ⟨⟨h.keys.len, h.keys.few, h.keys.same, h.keys.first, h.keys.came, h.keys.wr, fun i k hk hz => absurd (h.keys.zero i k hk hz).2 hne, h.keys.rise, fun q => (by cases q), h.keys.fresh⟩, h.live, ⟨h.ep.1, h.ep.2.1, h.ep.2.2.1, fun q => (by cases q)⟩, h.write, rfl, h.room, h.rooms, h.rev, h.floor, h.floor0, u.draws, h.len, h.srv, h.ent, h.few, h.revs, h.eok, u.all, fun _ k hk ho hgo => ?_, h.pods⟩
  have hm : k.e ∈ keptOf Y.all := by
    unfold keptOf
    exact List.mem_map.2 ⟨k, List.mem_filter.2 ⟨hk, by simp [ho]⟩, rfl⟩
  unfold usedOf at hu
  have := List.any_eq_false.1 hu k.e hm
  simp [hgo] at this
  exact this
/-! Promote. -/
def PS.promote (X : PS) (m : Nat) (P : PKey) : PS := { X with epoch := X.epoch + 1, keys := X.keys.set m { P with wrote := X.epoch + 1 }, write := (m : Int) + 1, turn := 2 }
theorem rel_promote (h : Rel2 n X Y) (hu : Y.turn = 1) {m : Nat} {P : PKey} {K : RKey} (hm : Y.keys.length = m + 1) (hP : X.keys[m]? = some P) (hK : Y.keys[m]? = some K) : Rel2 (n + 1) (X.promote m P) (Y.promote m K) := by
  have hK0 : K.writes = 0 := h.keys.staged hu K (by rw [show Y.keys.length - 1 = m by omega]; exact hK)
  have hKg := h.keys.fresh m K hK hK0
  have hks := h.keys.same m P K hP hK
  have u := h.up
  have e1 := h.ep.2.1
  have old : ∀ e : Int, e ≤ Y.epoch → writesOf (Y.keys.set m { K with writes := Y.epoch + 1 }) e = writesOf Y.keys e := fun e he => by
    refine writes_congr (by simp) (fun i k k' hk hk' => ?_)
    rcases set_at hk with ⟨_, hk⟩ | ⟨rfl, rfl⟩
    · obtain rfl := Option.some.inj (hk.symm.trans hk')
      rfl
    · obtain rfl := Option.some.inj (hK.symm.trans hk')
      simp [writesAt, hK0]
      omega
  have hme : (Y.keys.set m { K with writes := Y.epoch + 1 })[m]? = some { K with writes := Y.epoch + 1 } := List.getElem?_set_self (by omega)
  have hW : writesOf (Y.keys.set m { K with writes := Y.epoch + 1 }) (Y.epoch + 1) = (m : Int) + 1 := by
    refine writes_unique hme (by simp [writesAt]; omega) (fun i k hi hk => ?_)
    have := (List.getElem?_eq_some_iff.1 hk).1
    simp at this
    omega
  refine ⟨⟨?_, ?_, ?_, ?_, ?_, ?_, ?_, ?_, ?_, ?_⟩, ?_, ?_, ?_, rfl, h.room, h.rooms, h.rev, h.floor, h.floor0, u.draws, h.len, ?_, h.ent, h.few, h.revs, ?_, u.all, fun q => (by cases q), h.pods⟩
  · show (X.keys.set m _).length = (Y.keys.set m _).length
    simp [h.keys.len]
  · show 1 ≤ (Y.keys.set m _).length ∧ (Y.keys.set m _).length ≤ 6
    simp
    exact h.keys.few
  · intro i p k hp hk
    rcases set_at hp with ⟨hi, hp⟩ | ⟨hi, rfl⟩
    · rcases set_at hk with ⟨_, hk⟩ | ⟨hk, _⟩
      · exact h.keys.same i p k hp hk
      · exact absurd hk hi
    · rcases set_at hk with ⟨hk, _⟩ | ⟨_, rfl⟩
      · exact absurd hi hk
      · exact ⟨hks.came, by show X.epoch + 1 = Y.epoch + 1; rw [h.ep.1], hks.size, hks.text, hks.gone⟩
  · intro k hk
    rcases set_at hk with ⟨_, hk⟩ | ⟨hk, _⟩
    · exact h.keys.first k hk
    · have := (h.keys.first K (by rw [hk]; exact hK)).2
      omega
  · intro i k hk
    show 1 ≤ k.came ∧ k.came ≤ Y.epoch + 1
    rcases set_at hk with ⟨_, hk⟩ | ⟨_, rfl⟩
    · have := h.keys.came i k hk; omega
    · have := h.keys.came m K hK
      show 1 ≤ K.came ∧ K.came ≤ Y.epoch + 1
      omega
  · intro i k hk
    show 0 ≤ k.writes ∧ k.writes ≤ Y.epoch + 1
    rcases set_at hk with ⟨_, hk⟩ | ⟨_, rfl⟩
    · have := h.keys.wr i k hk; omega
    · show 0 ≤ Y.epoch + 1 ∧ Y.epoch + 1 ≤ Y.epoch + 1; omega
  · intro i k hk hz0
    rcases set_at hk with ⟨hi, hk⟩ | ⟨_, rfl⟩
    · have := (h.keys.zero i k hk hz0).1; omega
    · have hz1 : Y.epoch + 1 = 0 := hz0
      omega
  · intro i j a c hij ha hc hcz
    rcases set_at ha with ⟨hi, ha⟩ | ⟨hi, _⟩
    · rcases set_at hc with ⟨_, hc⟩ | ⟨_, rfl⟩
      · exact h.keys.rise i j a c hij ha hc hcz
      · have := h.keys.wr i a ha
        show a.writes < Y.epoch + 1
        omega
    · have := (List.getElem?_eq_some_iff.1 hc).1
      have e : (Y.promote m K).keys.length = m + 1 := by show (Y.keys.set m _).length = _; simp [hm]
      omega
  · intro q
    cases q
  · intro i k hk hz0
    rcases set_at hk with ⟨_, hk⟩ | ⟨_, rfl⟩
    · exact h.keys.fresh i k hk hz0
    · exact hKg
  · intro j K' hj hK'
    replace hj : writesOf (Y.keys.set m { K with writes := Y.epoch + 1 }) (Y.epoch + 1) = (j : Int) + 1 := hj
    rw [hW] at hj
    rcases set_at hK' with ⟨hi, _⟩ | ⟨_, rfl⟩
    · omega
    · exact hKg
  · refine ⟨by show X.epoch + 1 = Y.epoch + 1; rw [h.ep.1], by show 1 ≤ Y.epoch + 1; omega, ?_, fun q => by cases q⟩
    show Y.epoch + 1 + 1 ≤ 2 * (((Y.keys.set m _).length : Nat) : Int)
    have := h.ep.2.2.2 hu
    simp
    omega
  · show (m : Int) + 1 = writesOf (Y.keys.set m { K with writes := Y.epoch + 1 }) (Y.epoch + 1)
    rw [hW]
  · intro i s hs
    obtain ⟨sn, uu, a1, a2, a3⟩ := h.srv i s hs
    refine ⟨sn, uu, a1, a2, a3.seen, ⟨a3.sn.1, by show sn ≤ Y.epoch + 1; have := a3.sn.2; omega⟩, a3.busy, fun hb => ?_⟩
    obtain ⟨e1, e2, e3, e4, e5, e6, e7⟩ := a3.op hb
    refine ⟨e1, e2, e3, e4, ⟨e5.1, by show uu.epoch ≤ Y.epoch + 1; omega⟩, e6, fun hg => ⟨(e7 hg).1, ?_⟩⟩
    show uu.e.key = writesOf (Y.keys.set m { K with writes := Y.epoch + 1 }) uu.epoch
    rw [old _ e5.2]; exact (e7 hg).2
  · intro k hk2 hg
    obtain ⟨a1, j, K', a2, a3, a4⟩ := h.eok k hk2 hg
    by_cases e : j = m
    · subst e
      obtain rfl := Option.some.inj (a3.symm.trans hK)
      exact ⟨a1, j, _, a2, hme, fun _ => hKg⟩
    · exact ⟨a1, j, K', a2, by show (Y.keys.set m _)[j]? = _; rw [List.getElem?_set_ne (fun q => e q.symm)]; exact a3, a4⟩
/-! Destroy. -/
def PS.destroy (X : PS) (j : Nat) (P : PKey) (t : Int) : PS := { X with keys := X.keys.set j { P with text := ⟨#[]⟩ }, turn := t }
theorem rel_destroy (h : Rel2 n X Y) {j : Nat} {P : PKey} {K : RKey} (hP : X.keys[j]? = some P) (hK : Y.keys[j]? = some K) (hb : badGate Y ((j : Int) + 1) = false) : Rel2 (n + 1) (X.destroy j P (Y.destroy j K).turn) (Y.destroy j K) := by
  unfold badGate at hb
  rw [Bool.or_eq_false_iff] at hb
  have hw : writesOf Y.keys Y.epoch ≠ (j : Int) + 1 := fun e => by
    have := hb.1
    rw [e] at this
    simp at this
  have hu : Y.turn = 3 := by simpa using hb.2
  have hks := h.keys.same j P K hP hK
  have hjl : j < Y.keys.length := (List.getElem?_eq_some_iff.1 hK).1
  have u := h.up
  have old : ∀ e : Int, writesOf (Y.keys.set j { K with gone := true }) e = writesOf Y.keys e := fun e => by
    refine writes_congr (by simp) (fun i k k' hk hk' => ?_)
    rcases set_at hk with ⟨_, hk⟩ | ⟨rfl, rfl⟩
    · obtain rfl := Option.some.inj (hk.symm.trans hk')
      rfl
    · obtain rfl := Option.some.inj (hK.symm.trans hk')
      rfl
  have ht1 : (Y.destroy j K).turn ≠ 1 := by
    show (if leftOf (Y.keys.set j { K with gone := true }) == 1 then (0 : Int) else Y.turn) ≠ 1
    split
    · omega
    · omega
  have noz : ∀ (i : Nat) (k : RKey), Y.keys[i]? = some k → k.writes ≠ 0 := fun i k hk hz => by
    have := (h.keys.zero i k hk hz).2
    omega
  refine ⟨⟨?_, ?_, ?_, ?_, ?_, ?_, ?_, ?_, ?_, ?_⟩, ?_, ⟨h.ep.1, h.ep.2.1, ?_, fun q => absurd q ht1⟩, ?_, rfl, h.room, h.rooms, h.rev, h.floor, h.floor0, u.draws, h.len, ?_, h.ent, h.few, h.revs, ?_, u.all, ?_, h.pods⟩
  · show (X.keys.set j _).length = (Y.keys.set j _).length
    simp [h.keys.len]
  · show 1 ≤ (Y.keys.set j _).length ∧ (Y.keys.set j _).length ≤ 6
    simp
    exact h.keys.few
  · intro i p k hp hk
    rcases set_at hp with ⟨hi, hp⟩ | ⟨hi, rfl⟩
    · rcases set_at hk with ⟨_, hk⟩ | ⟨hk, _⟩
      · exact h.keys.same i p k hp hk
      · exact absurd hk hi
    · rcases set_at hk with ⟨hk, _⟩ | ⟨_, rfl⟩
      · exact absurd hi hk
      · exact ⟨hks.came, hks.wrote, hks.size, fun q => (by cases q), fun _ => rfl⟩
  · intro k hk
    rcases set_at hk with ⟨_, hk2⟩ | ⟨h0, rfl⟩
    · exact h.keys.first k hk2
    · exact h.keys.first K (by rw [h0]; exact hK)
  · intro i k hk
    rcases set_at hk with ⟨_, hk⟩ | ⟨_, rfl⟩
    · exact h.keys.came i k hk
    · exact h.keys.came j K hK
  · intro i k hk
    rcases set_at hk with ⟨_, hk⟩ | ⟨_, rfl⟩
    · exact h.keys.wr i k hk
    · exact h.keys.wr j K hK
  · intro i k hk hz0
    rcases set_at hk with ⟨_, hk⟩ | ⟨_, rfl⟩
    · exact absurd hz0 (noz i k hk)
    · exact absurd hz0 (noz j K hK)
  · intro i l a c hil ha hc hcz
    rcases set_at ha with ⟨_, ha2⟩ | ⟨hi2, hae⟩
    · rcases set_at hc with ⟨_, hc2⟩ | ⟨hl2, hce⟩
      · exact h.keys.rise i l a c hil ha2 hc2 hcz
      · have := h.keys.rise i j a K (by omega) ha2 hK (by rw [hce] at hcz; exact hcz)
        rw [hce]; exact this
    · rcases set_at hc with ⟨_, hc2⟩ | ⟨hl2, _⟩
      · have := h.keys.rise j l K c (by omega) hK hc2 hcz
        rw [hae]; exact this
      · omega
  · intro q
    exact absurd q ht1
  · intro i k hk hz0
    rcases set_at hk with ⟨_, hk⟩ | ⟨_, rfl⟩
    · exact absurd hz0 (noz i k hk)
    · exact absurd hz0 (noz j K hK)
  · intro l K' hl hK'
    replace hl : writesOf (Y.keys.set j { K with gone := true }) Y.epoch = (l : Int) + 1 := hl
    rw [old] at hl
    rcases set_at hK' with ⟨_, hK'⟩ | ⟨rfl, _⟩
    · exact h.live l K' hl hK'
    · exact absurd hl hw
  · show Y.epoch + 1 ≤ 2 * (((Y.keys.set j _).length : Nat) : Int)
    simp
    exact h.ep.2.2.1
  · show X.write = writesOf (Y.keys.set j { K with gone := true }) Y.epoch
    rw [old]; exact h.write
  · intro i s hs
    obtain ⟨sn, uu, a1, a2, a3⟩ := h.srv i s hs
    refine ⟨sn, uu, a1, a2, a3.seen, a3.sn, a3.busy, fun hbz => ?_⟩
    obtain ⟨e1, e2, e3, e4, e5, e6, e7⟩ := a3.op hbz
    refine ⟨e1, e2, e3, e4, e5, e6, fun hg => ⟨(e7 hg).1, ?_⟩⟩
    show uu.e.key = writesOf (Y.keys.set j { K with gone := true }) uu.epoch
    rw [old]; exact (e7 hg).2
  · intro k hk2 hg
    obtain ⟨a1, l, K', a2, a3, a4⟩ := h.eok k hk2 hg
    by_cases e : l = j
    · subst e
      refine ⟨a1, l, { K with gone := true }, a2, List.getElem?_set_self hjl, fun ho => ?_⟩
      exact absurd ((h.gated hu k hk2 ho hg).symm.trans a2) hw
    · exact ⟨a1, l, K', a2, by show (Y.keys.set j _)[l]? = _; rw [List.getElem?_set_ne (fun q => e q.symm)]; exact a3, a4⟩
  · intro _ k hk2 ho hg
    show k.e.key = writesOf (Y.keys.set j { K with gone := true }) Y.epoch
    rw [old]
    exact h.gated hu k hk2 ho hg
/-! A move of Migrate. -/
def PS.moved (X : PS) (e : Ent) : PS := { X with draws := X.draws + 1, rev := X.rev + 1, entries := X.entries ++ [e] }
theorem Rel2.keysOk (h : Rel2 n X Y) : KeysOk Y := fun k hk hg => by
  obtain ⟨a1, j, K, a2, a3, _⟩ := h.eok k hk hg
  have hj : j < Y.keys.length := (List.getElem?_eq_some_iff.1 a3).1
  obtain ⟨p, hp⟩ : ∃ p, X.keys[j]? = some p := ⟨_, List.getElem?_eq_getElem (by rw [h.keys.len]; exact hj)⟩
  exact ⟨a1, j, K, a2, a3, (h.keys.same j p K hp a3).size⟩
theorem rel_move (h : Rel2 n X Y) (hn : n ≤ 50000000000000) {j : Nat} {K : RKey} (hj : writesOf Y.keys Y.epoch = (j : Int) + 1) (hK : Y.keys[j]? = some K) (hf : (dueOf Y).found = true) (hu : fullOf Y = false) : Rel2 (n + 1) (X.moved (moveEnt Y K ((j : Int) + 1))) (Y.move K ((j : Int) + 1)) := by
  obtain ⟨d0, d1, d2⟩ := h.draws
  have hlen : ((keptOf Y.all).length : Int) < Y.room := by unfold fullOf at hu; simp at hu; exact hu
  have hKg := h.live j K hj hK
  have hT : K.text.size = 48 := by
    have hjl : j < Y.keys.length := (List.getElem?_eq_some_iff.1 hK).1
    obtain ⟨p, hp⟩ : ∃ p, X.keys[j]? = some p := ⟨_, List.getElem?_eq_getElem (by rw [h.keys.len]; exact hjl)⟩
    exact (h.keys.same j p K hp hK).size
  have hok := move_ok h.keysOk hK hT hf ⟨d1, by omega⟩
  refine ⟨h.keys, h.live, h.ep, h.write, h.turn, h.room, h.rooms, ?_, h.floor, h.floor0, ⟨?_, ?_, ?_⟩, h.len, h.srv, ?_, ?_, ?_, ?_, ?_, ?_, h.pods⟩
  · show X.rev + 1 = (((Y.all ++ [_]).length : Nat) : Int)
    rw [h.rev, List.length_append]; rfl
  · show X.draws + 1 = Y.draws + 1
    rw [d0]
  · show 0 ≤ Y.draws + 1
    omega
  · show Y.draws + 1 ≤ ((n + 1 : Nat) : Int)
    omega
  · show X.entries ++ [moveEnt Y K ((j : Int) + 1)] = keptOf (Y.all ++ [⟨moveEnt Y K ((j : Int) + 1), false⟩])
    rw [keptOf_snoc, h.ent]
    rfl
  · show (((X.entries ++ [_]).length : Nat) : Int) ≤ Y.room
    rw [h.ent, List.length_append]
    show (((keptOf Y.all).length + 1 : Nat) : Int) ≤ Y.room
    omega
  · exact revs_snoc h.revs ⟨moveEnt Y K ((j : Int) + 1), false⟩ rfl
  · intro k hk hg
    rcases List.mem_append.1 hk with hk2 | hk2
    · exact h.eok k hk2 hg
    · obtain ⟨a1, _⟩ := hok k hk hg
      obtain rfl := List.mem_singleton.1 hk2
      exact ⟨a1, j, K, rfl, hK, fun _ => hKg⟩
  · show (Y.all ++ [_]).length ≤ n + 1
    rw [List.length_append]
    show Y.all.length + 1 ≤ n + 1
    have := h.all
    omega
  · intro ht k hk ho hg
    rcases List.mem_append.1 hk with hk2 | hk2
    · exact h.gated ht k hk2 ho hg
    · obtain rfl := List.mem_singleton.1 hk2
      exact hj.symm
end Go.Proofs.YtphapknfkbgapabDoor
namespace Go.Proofs.YtphapknfkbgapabDoor
open Go.RowKit

/-! Stage, Promote, Gate, Destroy on both sides, as soon as the program's are known. -/

variable {X : PS} {Y : RS} {n : Nat}
structure PStage (X : PS) (t : ByteArray) : Prop where
  arg : t.size ≠ 48 → PUni 60 [.string t] X (.tuple #[.int .i64 0, .int .i64 2]) X
  many : t.size = 48 → X.keys.length = 6 → PUni 60 [.string t] X (.tuple #[.int .i64 0, .int .i64 16]) X
  turn : t.size = 48 → X.keys.length < 6 → X.turn ≠ 0 → PUni 60 [.string t] X (.tuple #[.int .i64 0, .int .i64 17]) X
  yes : t.size = 48 → X.keys.length < 6 → X.turn = 0 → PUni 60 [.string t] X (.tuple #[.int .i64 ((X.keys.length : Int) + 1), .int .i64 0]) (X.stage t)
structure PPromote (X : PS) : Prop where
  turn : X.turn ≠ 1 → PUni 42 [] X (.int .i64 17) X
  wait : X.turn = 1 → (∃ (i : Nat) (s : PSrv), X.servers[i]? = some s ∧ s.seen ≠ X.epoch) → PUni 42 [] X (.int .i64 18) X
  yes : X.turn = 1 → (∀ (i : Nat) (s : PSrv), X.servers[i]? = some s → s.seen = X.epoch) → ∀ (m : Nat) (P : PKey), X.keys.length = m + 1 → X.keys[m]? = some P → PUni 42 [] X (.int .i64 0) (X.promote m P)
def pGoing (X : PS) : Bool := (X.turn == 2) || (X.turn == 3)
def pUsed (X : PS) : Bool := X.entries.any (fun e => !e.gone && (e.key != X.write))
structure PGate (X : PS) : Prop where
  turn : pGoing X = false → PUni 44 [] X (.int .i64 17) X
  used : pGoing X = true → pUsed X = true → PUni 44 [] X (.int .i64 19) X
  yes : pGoing X = true → pUsed X = false → PUni 44 [] X (.int .i64 0) (X.setTurn 3)
def pLeft (ks : List PKey) : Nat := ks.countP (fun k => !keyGone k)
structure PDestroy (X : PS) (k : Int) : Prop where
  none : k < 1 ∨ (X.keys.length : Int) < k → PUni 45 [.int .i64 k] X (.int .i64 12) X
  gone : ∀ (j : Nat) (P : PKey), k = (j : Int) + 1 → X.keys[j]? = some P → keyGone P = true → PUni 45 [.int .i64 k] X (.int .i64 14) X
  gate : ∀ (j : Nat) (P : PKey), k = (j : Int) + 1 → X.keys[j]? = some P → keyGone P = false → (k = X.write ∨ X.turn ≠ 3) → PUni 45 [.int .i64 k] X (.int .i64 20) X
  yes : ∀ (j : Nat) (P : PKey), k = (j : Int) + 1 → X.keys[j]? = some P → keyGone P = false → k ≠ X.write → X.turn = 3 → PUni 45 [.int .i64 k] X (.int .i64 0) (X.destroy j P (if pLeft (X.keys.set j { P with text := ⟨#[]⟩ }) == 1 then 0 else X.turn))
theorem KSame.alive {p : PKey} {k : RKey} (h : KSame p k) : keyGone p = k.gone := by
  cases hg : k.gone
  · exact keyGone_no (by rw [h.text hg]; exact h.size)
  · exact h.dead hg
theorem left_same : ∀ (ks : List PKey) (rs : List RKey), ks.length = rs.length → (∀ (i : Nat) (p : PKey) (k : RKey), ks[i]? = some p → rs[i]? = some k → keyGone p = k.gone) → pLeft ks = leftOf rs
  | [], [], _, _ => rfl
  | p :: r, k :: r', hl, hs => by
    have ih := left_same r r' (by simpa using hl) (fun i p k hp hk => hs (i + 1) p k (by simpa using hp) (by simpa using hk))
    have h0 := hs 0 p k rfl rfl
    unfold pLeft leftOf at *
    rw [List.countP_cons, List.countP_cons, ih, h0]
end Go.Proofs.YtphapknfkbgapabDoor
namespace Go.Proofs.YtphapknfkbgapabDoor
open Go.RowKit

section
variable {P : Program} (w : World)
/-- copy of a whole slice into one that was just made. -/
theorem copy_mine (t ty e : TypeId) (size : Nat) (ht : P.underlying t = some (.slice e)) (hi : (P.info? e).map (·.size) = some size) (v : Value) (n : Nat) (xs : List Value) (hown : w.ownsRow 0 e size v n xs)
    (g : Nat) (cur : Array Value) (hg : w.heap[g]? = some (.cells cur e (0, 0))) (hc : cur.size = n * size) (hm : n ≤ maxLen) (h1 : ∀ u ∈ xs, u.oneCell' = true) :
    ∃ w', (Builtin.copy_ #[t, t] ty #[.slice (some ⟨g, 0, none⟩) n n, v]).run P w = .ok (goInt n) w' ∧ w'.ownsRow 0 e size (.slice (some ⟨g, 0, none⟩) n n) n xs ∧ Kept (fun k => k = g) w w' := by
  cases hq : P.info? e with
  | none => simp [hq] at hi
  | some i =>
    have hsz : i.size = size := by simpa [hq] using hi
    have hlen : xs.length = n * size := hown.1
    have hst := run_storeCells_at P g 0 e xs 0 cur w hg (by omega) h1
    have hrow : (cur.toList.take (0 + 0) ++ xs ++ cur.toList.drop (0 + 0 + xs.length)).toArray = xs.toArray := by
      have : cur.toList.drop (0 + 0 + xs.length) = [] := List.drop_eq_nil_of_le (by simp; omega)
      rw [this]; simp
    rw [hrow] at hst
    refine ⟨w.setRow g xs.toArray, ?_, ⟨hlen, Or.inr ⟨g, n, xs.toArray, rfl, Nat.zero_le _, setRow_heap w g cur _ e _ hg, Nat.le_refl _, hm, by simpa using hlen, by rw [List.toList_toArray, ← hlen, List.take_length]⟩⟩, ⟨rfl, rfl, by simp, fun k _ hk => setRow_other w g k _ hk⟩⟩
    rcases hown.2 with ⟨rfl, rfl⟩ | ⟨g', cap, cur', rfl, _, hg', _⟩
    · have hx : xs = [] := List.eq_nil_of_length_eq_zero (by simpa using hlen)
      subst hx
      have hs0 : (storeCells ⟨g, 0, none⟩ [] 0).run P w = .ok () (w.setRow g #[]) := by simpa using hst
      simp [Builtin.copy_, run_underlying ht, Go.sizeOf, typeInfo, hq, Builtin.lenOf, Builtin.firstCells, hs0]
    · have hf := run_firstCells_some (P := P) w i.size n ⟨g', 0, none⟩ n cap xs (by rw [hsz]; exact hlen) (hown.cells (g := g') rfl)
      simp [Builtin.copy_, run_underlying ht, Go.sizeOf, typeInfo, hq, Builtin.lenOf, hf, hst]
theorem wpList_copy_mine {ops : Array Oper} {rest : List Oper} {d : Option Tmp} {t0 : TypeId} {pos : String} {after : Array Edge} {a : Act} {Q : Exit → Act → World → Prop} (x y : Operand) (t e : TypeId) (size : Nat) (ht : P.underlying t = some (.slice e)) (hi : (P.info? e).map (·.size) = some size) (v : Value) (n : Nat) (xs : List Value)
    (g : Nat) (cur : Array Value) (hx : a.eval x = .slice (some ⟨g, 0, none⟩) n n) (hy : a.eval y = v) (hown : w.ownsRow 0 e size v n xs) (hg : w.heap[g]? = some (.cells cur e (0, 0))) (hc : cur.size = n * size) (hm : n ≤ maxLen) (h1 : ∀ u ∈ xs, u.oneCell' = true)
    (h : ∀ w', w'.ownsRow 0 e size (.slice (some ⟨g, 0, none⟩) n n) n xs → Kept (fun k => k = g) w w' → wpList P ops Q rest (a.put d (goInt n)) w') :
    wpList P ops Q ({ dst := d, op := .call { callee := .builtin .copy, args := #[x, y], argTypes := #[t, t] }, type := t0, pos := pos, after := after, guard := none } :: rest) a w := by
  refine wpList_plain rfl fun K hK => ?_
  obtain ⟨w', hr, h2, h3⟩ := copy_mine (P := P) w t t0 e size ht hi v n xs hown g cur hg hc hm h1
  unfold Oper.wp execOp
  simp only [resolve, invoke, builtin, Sem.run_bind, Sem.run_pure, Result.andThen_ok, List.map_toArray, List.map_cons, List.map_nil, hx, hy, hr]
  exact hK _ _ (h w' h2 h3)
end

variable {F : Nat → Prop} {b : Nat} {X : PS}
set_option maxRecDepth 100000 in
set_option maxHeartbeats 1000000 in
theorem pEntries_any (w : World) (h : XIn w F b X) (hn : X.entries.length ≤ 1000) :
    Calls Tryd.prog 48 #[.pointer (some ⟨b, 0, none⟩)] w fun e w' => ∃ v, e = .returned v ∧ Low w.heap.size w w' ∧ w'.ownsRow 0 65 6 v X.entries.length (X.entries.flatMap Ent.cells) ∧ ∀ k, v.ownBlock = some k → w.heap.size ≤ k := by
  obtain ⟨i50, hi50, hz0, hz1, hz2⟩ := info_parts info50
  have hown : ∃ a cap, w.cell? ⟨b, 9, none⟩ = some (.slice a X.entries.length cap) ∧ w.ownsRow 0 65 6 (.slice a X.entries.length cap) X.entries.length (X.entries.flatMap Ent.cells) := by
    obtain ⟨vK, vS, vE, vN, hN, hO⟩ := h
    obtain ⟨v, hv, ho, _⟩ := hO.row 2 rfl
    obtain ⟨a, cap, rfl, _, _⟩ := ownsRow_view ho
    exact ⟨a, cap, by rw [hO.cell]; exact hv, ho⟩
  obtain ⟨a, cap, c9, o9⟩ := hown
  have HR := hid h
  have O9 := hid o9
  have hb := h.lt
  have hby : i50.bytes * X.entries.length ≤ 281474976710656 := by rw [hz2]; omega
  have HBY := hid hby
  have h1 : Hid (∀ u ∈ X.entries.flatMap Ent.cells, u.oneCell' = true) := by
    intro u hu
    obtain ⟨e, _, he⟩ := List.mem_flatMap.1 hu
    exact e.one u he
  have hm : Hid (X.entries.length ≤ maxLen) := by show _ ≤ _; unfold maxLen; omega
  clear h o9 hby
  go_enter Tryd.func48, Tryd.ntmps48
  go_upto_region 2 with (at_make; refine wpList_make_full _ rfl (.tmp 8) (.tmp 8) 46 rfl 0 65 i50 _ 6 Tryd.underlying46 hi50 hz0 hz1 .i64 .i64 _ _ X.entries.length rfl rfl rfl rfl HBY.out hm.out (Nat.zero_le _) ?_; intro W o1 g1; have O1 := hid o1; have G1 := hid g1; clear o1 g1)
  have LW : Hid (Low w.heap.size w W) := ⟨G1.out.os, G1.out.output, G1.out.size, fun k hk => G1.out.block k hk (by simp)⟩
  have c9w : W.cell? ⟨b, 9, none⟩ = some (.slice a X.entries.length cap) := (LW.out.cell hb).trans c9
  have OW : Hid (W.ownsRow 0 65 6 (.slice a X.entries.length cap) X.entries.length (X.entries.flatMap Ent.cells)) := ownsRow_at O9.out (fun q hq => LW.out.block q (O9.out.lt q hq).2)
  have hcur : ∃ cur, W.heap[w.heap.size]? = some (.cells cur 65 (0, 0)) ∧ cur.size = X.entries.length * 6 := by
    rcases O1.out.2 with ⟨q, _⟩ | ⟨g, cap', cur, q, _, hg, _, _, hs, _⟩
    · cases q
    · injection q with q1 q2 q3
      obtain rfl : g = w.heap.size := by injection q1 with q1; injection q1 with q1; exact q1.symm
      exact ⟨cur, hg, by rw [hs, ← q3]⟩
  obtain ⟨cur, hcu, hcs⟩ := hcur
  have HCU := hid hcu
  have HCS := hid hcs
  clear c9 hb hcu hcs
  go_wp2_with ((with_reducible refine wpList_copy_mine _ (.tmp 10) (.tmp 14) 46 65 6 Tryd.underlying46 (show (Tryd.prog.info? 65).map (·.size) = some 6 by kernel_rfl) (.slice a X.entries.length cap) X.entries.length (X.entries.flatMap Ent.cells) w.heap.size cur ?_ ?_ OW.out HCU.out HCS.out hm.out h1.out ?_); rfl; rfl; intro V o2 k2; have O2 := hid o2; have K2 := hid k2; clear o2 k2)
  go_ret
  exact ⟨_, rfl, low_set LW.out K2.out (Nat.le_refl _) LW.out.size, O2.out, fun k hk => Nat.le_of_eq (Option.some.inj hk)⟩
end Go.Proofs.YtphapknfkbgapabDoor
namespace Go.Proofs.YtphapknfkbgapabDoor
open Go.RowKit

/-! All that Turns asks of the two sides, as soon as the program's own contracts are known. -/

def Rel21 (n : Nat) (X : PS) (Y : RS) : Prop := Rel2 (21 * n) X Y
theorem new21 (m : Nat) (room : Int) (key : ByteArray) (hc : cfgOk (m : Int) room key = true) : Rel21 0 (PS.new m room key) (RS.new m room key) := new_two m room key hc
end Go.Proofs.YtphapknfkbgapabDoor
namespace Go.Proofs.YtphapknfkbgapabDoor
open Go.RowKit

variable {F : Nat → Prop} {b : Nat} {Y : RS}

/-! Fetch. -/
/-- Every need is a pod's. -/
def NeedsOk (Y : RS) : Prop := ∀ q ∈ Y.needs, ∃ p, p < 8 ∧ q.1 = digitOf p
def podOf (s : ByteArray) : Nat := (s.data.toList.headD 48).toNat - 48
def wants (Y : RS) (node : Int) (name : ByteArray) (q : ByteArray × ByteArray) : Bool := (Y.node[podOf q.1]?.getD 0 == node) && (q.2.toList == name.toList)
def allowedOf (Y : RS) (node : Int) (name : ByteArray) : Bool := Y.needs.any (wants Y node name)
theorem podOf_digit (p : Nat) (hp : p < 8) : podOf (digitOf p) = p := by
  unfold podOf digitOf
  show (UInt8.ofNat (48 + p)).toNat - 48 = p
  rw [UInt8.toNat_ofNat']
  omega
def badNode (node : Int) : Bool := decide (node < 0) || decide (4 ≤ node)
end Go.Proofs.YtphapknfkbgapabDoor
namespace Go.Proofs.YtphapknfkbgapabDoor
open Go.RowKit

/-! The order of paths is that of Go's strings. -/
theorem before_less : ∀ (a c : List UInt8), beforeL a c = Op.bytesLess a c
  | [], [] => rfl
  | _ :: _, [] => rfl
  | [], _ :: _ => rfl
  | x :: xs, y :: ys => by
    have ih := before_less xs ys
    show (if x != y then decide (x < y) else beforeL xs ys) = (decide (x < y) || (x == y && Op.bytesLess xs ys))
    rw [ih]
    by_cases e : x = y
    · subst e
      have : ¬ x < x := by rw [UInt8.lt_iff_toNat_lt]; omega
      simp [this]
    · simp [e]
theorem before_string (a c : ByteArray) : beforeOf a c = Op.bytesLess a.toList c.toList := by
  unfold beforeOf
  rw [before_less, ByteArray.toList_eq, ByteArray.toList_eq]
end Go.Proofs.YtphapknfkbgapabDoor
namespace Go.Proofs.YtphapknfkbgapabDoor
open Go.RowKit

/-! What Migrate moves next: the least path that is due. -/
theorem u8_eq {x y : UInt8} (h : x.toNat = y.toNat) : x = y := UInt8.toNat_inj.1 h
theorem before_step (x y : UInt8) (xs ys : List UInt8) : beforeL (x :: xs) (y :: ys) = (decide (x.toNat < y.toNat) || (decide (x.toNat = y.toNat) && beforeL xs ys)) := by
  rw [before_cons]
  by_cases e : x.toNat = y.toNat
  · have h1 : ((x.toNat : Int) != (y.toNat : Int)) = false := by rw [bne_eq_false_iff_eq]; omega
    have h2 : decide (x.toNat < y.toNat) = false := by simp; omega
    rw [h1, h2, decide_eq_true e]
    simp
  · have h1 : ((x.toNat : Int) != (y.toNat : Int)) = true := by rw [bne_iff_ne]; omega
    rw [h1, decide_eq_false e]
    simp
theorem before_trans : ∀ (a b c : List UInt8), beforeL a b = true → beforeL b c = true → beforeL a c = true
  | [], [], _, h1, _ => by cases h1
  | _ :: _, [], _, h1, _ => by cases h1
  | [], _ :: _, [], _, h2 => by cases h2
  | _ :: _, _ :: _, [], _, h2 => by cases h2
  | [], _ :: _, _ :: _, _, _ => rfl
  | x :: xs, y :: ys, z :: zs, h1, h2 => by
    have ih := before_trans xs ys zs
    rw [before_step, Bool.or_eq_true, Bool.and_eq_true, decide_eq_true_eq, decide_eq_true_eq] at h1 h2 ⊢
    rcases h1 with h1 | h1
    · rcases h2 with h2 | h2
      · left; omega
      · left; omega
    · rcases h2 with h2 | h2
      · left; omega
      · right; exact ⟨by omega, ih h1.2 h2.2⟩
theorem before_irrefl : ∀ (a : List UInt8), beforeL a a = false
  | [] => rfl
  | x :: xs => by
    rw [before_step, before_irrefl xs]
    simp
theorem before_total : ∀ (a b : List UInt8), beforeL a b = false → beforeL b a = false → a = b
  | [], [], _, _ => rfl
  | [], _ :: _, h, _ => by cases h
  | _ :: _, [], _, h => by cases h
  | x :: xs, y :: ys, h1, h2 => by
    rw [before_step, Bool.or_eq_false_iff, decide_eq_false_iff_not] at h1 h2
    have e : x.toNat = y.toNat := by omega
    have a1 := h1.2
    have a2 := h2.2
    rw [decide_eq_true e, Bool.true_and] at a1
    rw [decide_eq_true e.symm, Bool.true_and] at a2
    rw [u8_eq e, before_total xs ys a1 a2]
/-- The newest entry of x's path may be moved; its secret is s. -/
structure Moves (Y : RS) (m : Int) (x : Ent) (E : Ent) (s : ByteArray) : Prop where
  newest : E = (lastOf Y.all x.path).getD Ent.zero
  there : E.gone = false
  old : E.key ≠ m
  opens : openedOf (keyAt Y.keys E.key) E Y.epoch = (s, 0)
structure DueSpec (Y : RS) (m : Int) (l : List Ent) (d : Due) : Prop where
  no : d.found = false → ∀ x ∈ l, ∀ E s, ¬ Moves Y m x E s
  yes : d.found = true → ∃ x ∈ l, ∃ E, Moves Y m x E d.text ∧ E.path = d.name
  least : d.found = true → ∀ x ∈ l, ∀ E s, Moves Y m x E s → beforeOf E.path d.name = false
theorem due_spec (Y : RS) (m : Int) (l : List Ent) : DueSpec Y m l (l.foldl (dueStep Y m) due0) := by
  refine snoc_ind (P := fun l => DueSpec Y m l (l.foldl (dueStep Y m) due0)) ?_ ?_ l
  · exact ⟨fun _ x hx => (by simp at hx), fun h => (by cases h), fun h => (by cases h)⟩
  · intro l x ih
    rw [List.foldl_append]
    show DueSpec Y m (l ++ [x]) (dueStep Y m (l.foldl (dueStep Y m) due0) x)
    obtain ⟨d, hd⟩ : ∃ d, d = l.foldl (dueStep Y m) due0 := ⟨_, rfl⟩
    rw [← hd] at ih ⊢
    obtain ⟨E, hE⟩ : ∃ E, E = (lastOf Y.all x.path).getD Ent.zero := ⟨_, rfl⟩
    unfold dueStep
    rw [← hE]
    -- where x does not move, nothing changes
    have same : (∀ s, ¬ Moves Y m x E s) → DueSpec Y m (l ++ [x]) d := fun hno => by
      have hx : ∀ E' s, ¬ Moves Y m x E' s := fun E' s q => by
        have e : E' = E := q.newest.trans hE.symm
        subst e
        exact hno s q
      refine ⟨fun h y hy E' s q => ?_, fun h => ?_, fun h y hy E' s q => ?_⟩
      · rcases List.mem_append.1 hy with hy | hy
        · exact ih.no h y hy E' s q
        · obtain rfl := List.mem_singleton.1 hy; exact hx E' s q
      · obtain ⟨y, hy, r⟩ := ih.yes h
        exact ⟨y, List.mem_append_left _ hy, r⟩
      · rcases List.mem_append.1 hy with hy | hy
        · exact ih.least h y hy E' s q
        · obtain rfl := List.mem_singleton.1 hy; exact absurd q (hx E' s)
    by_cases hskip : (E.gone || (E.key == m)) = true
    · rw [if_pos hskip]
      refine same (fun s q => ?_)
      rw [Bool.or_eq_true] at hskip
      rcases hskip with r | r
      · rw [q.there] at r; cases r
      · exact q.old (by simpa using r)
    · rw [if_neg hskip]
      have hs1 : E.gone = false ∧ E.key ≠ m := by
        rw [Bool.not_eq_true, Bool.or_eq_false_iff] at hskip
        exact ⟨hskip.1, by simpa using hskip.2⟩
      obtain ⟨O, hO⟩ : ∃ O, O = openedOf (keyAt Y.keys E.key) E Y.epoch := ⟨_, rfl⟩
      rw [← hO]
      unfold dueNew
      by_cases h0 : O.2 = 0
      · have hm : Moves Y m x E O.1 := ⟨hE, hs1.1, hs1.2, by rw [← hO, ← h0]⟩
        have hz : (O.2 == 0) = true := by rw [h0]; rfl
        rw [hz, Bool.true_and]
        by_cases hn : (!d.found || beforeOf E.path d.name) = true
        · rw [if_pos hn]
          refine ⟨fun h => (by cases h), fun _ => ⟨x, by simp, E, hm, rfl⟩, fun _ y hy E' s q => ?_⟩
          show beforeOf E'.path E.path = false
          rcases List.mem_append.1 hy with hy | hy
          · cases hf : d.found
            · exact absurd q (ih.no hf y hy E' s)
            · rw [hf] at hn
              have hb : beforeOf E.path d.name = true := by simpa using hn
              have hl := ih.least hf y hy E' s q
              cases hq : beforeOf E'.path E.path
              · rfl
              · have := before_trans _ _ _ hq hb
                unfold beforeOf at hl
                rw [this] at hl
                cases hl
          · obtain rfl := List.mem_singleton.1 hy
            have e : E' = E := q.newest.trans hE.symm
            subst e
            exact before_irrefl _
        · rw [if_neg hn]
          rw [Bool.not_eq_true, Bool.or_eq_false_iff] at hn
          have hf : d.found = true := by simpa using hn.1
          refine ⟨fun h => (by rw [hf] at h; cases h), fun h => ?_, fun h y hy E' s q => ?_⟩
          · obtain ⟨y, hy, r⟩ := ih.yes h
            exact ⟨y, List.mem_append_left _ hy, r⟩
          · rcases List.mem_append.1 hy with hy | hy
            · exact ih.least h y hy E' s q
            · obtain rfl := List.mem_singleton.1 hy
              have e : E' = E := q.newest.trans hE.symm
              subst e
              exact hn.2
      · have hz : (O.2 == 0) = false := by rw [beq_eq_false_iff_ne]; exact h0
        rw [hz, Bool.false_and, if_neg (by simp)]
        refine same (fun s q => ?_)
        have := q.opens
        rw [← hO] at this
        exact h0 (by rw [this])
/-- Two that fit are one. -/
theorem due_unique {Y : RS} {m : Int} {l : List Ent} {d d' : Due} (h : DueSpec Y m l d) (h' : DueSpec Y m l d') (hf : d.found = true) (hf' : d'.found = true) : d.name = d'.name := by
  obtain ⟨x, hx, E, q, e⟩ := h.yes hf
  obtain ⟨x', hx', E', q', e'⟩ := h'.yes hf'
  have a1 := h.least hf x' hx' E' _ q'
  have a2 := h'.least hf' x hx E _ q
  rw [e'] at a1
  rw [e] at a2
  have := before_total _ _ a2 a1
  exact bytes_ext this
theorem last_path {l : List RKept} {p q : ByteArray} (h : p.toList = q.toList) : lastOf l p = lastOf l q := by
  unfold lastOf
  rw [h]
/-- So there is but one answer: the document's due is any that fits. -/
theorem due_only {Y : RS} {m : Int} {d d' : Due} (h : DueSpec Y m (keptOf Y.all) d) (h' : DueSpec Y m (keptOf Y.all) d') (hf : d.found = true) (hf' : d'.found = true) : d.name = d'.name ∧ d.text = d'.text := by
  have hn := due_unique h h' hf hf'
  refine ⟨hn, ?_⟩
  obtain ⟨x, hx, E, q, e⟩ := h.yes hf
  obtain ⟨x', hx', E', q', e'⟩ := h'.yes hf'
  obtain ⟨k, _, hk⟩ := last_some hx
  obtain ⟨k', _, hk'⟩ := last_some hx'
  have a : E = k.e := by rw [q.newest, hk]; rfl
  have a' : E' = k'.e := by rw [q'.newest, hk']; rfl
  obtain ⟨_, _, _, _, p1⟩ := lastOf_mem hk
  obtain ⟨_, _, _, _, p2⟩ := lastOf_mem hk'
  have b : x.path.toList = x'.path.toList := by
    rw [← p1, ← p2, ← a, ← a', e, e', hn]
  have c : E = E' := by rw [q.newest, q'.newest, last_path b]
  have o := q.opens
  rw [c, q'.opens] at o
  exact (congrArg Prod.fst o).symm
theorem dueOf_spec (Y : RS) : DueSpec Y (writesOf Y.keys Y.epoch) (keptOf Y.all) (dueOf Y) := due_spec Y _ _
end Go.Proofs.YtphapknfkbgapabDoor
