import Derived.Test.YtphapknfkbgapaaGreatDoorRelBToRelD
import Derived.Test.YtphapknfkbgapaaGreatDoorLawEToRefK
namespace Go.Proofs.YtphapknfkbgapaaGreatDoor
open Go.RowKit

theorem getz {α : Type} {l : List α} {x : α} (h : l = [x]) : l[0]? = some x := by rw [h]; rfl
theorem writerOne (K : PKey) (ep : Int) : writerOf [K] ep = 1 := rfl
theorem writesOne (key : ByteArray) : writesOf [⟨key, 1, 1, false⟩] 1 = 1 := rfl
theorem proper_parts {o : AOp} (h : properOf o = true) : (1 ≤ o.path.size ∧ o.path.size ≤ 16) ∧ -1 ≤ o.rev ∧ ((o.kind == 1) = true → o.plain.size ≤ 64) ∧ ((o.kind == 1) = false → (o.kind == 2) = true) := by
  unfold properOf isPath at h
  simp at h
  obtain ⟨⟨⟨h1, h2⟩, h3⟩, h4⟩ := h
  refine ⟨⟨by omega, h2⟩, h3, fun hk => ?_, fun hk => ?_⟩
  · have hk : o.kind = 1 := by simpa using hk
    rcases h4 with h4 | h4
    · exact h4.2
    · omega
  · have hk : o.kind ≠ 1 := by simpa using hk
    rcases h4 with h4 | h4
    · exact absurd h4.1 hk
    · simpa using h4.1
theorem begin_pair {X : PS} {Y : RS} {key : ByteArray} {n : Nat} (h : Rel X Y key) (hb : Bd n Y) (hn : n ≤ 10000000) (s : Int) (o : AOp) (hp : o.path.size ≤ maxLen) (hq : o.plain.size ≤ maxLen) :
    ∃ v : Int, Pair 27 28 [.int .i64 s, .agg #[.int .i64 o.kind, .string o.path, .string o.plain, .int .i64 o.rev]] X Y key n (.int .i64 v) := by
  cases hs : isSrv Y.seen.length s
  · have hx : isSrv X.servers.length s = false := by rw [h.len.1]; exact hs
    exact ⟨4, X, Y, p_low (fun w F b hX _ _ => pBegin_srv w s o hX hx), r_low (fun w F b hR => Begin_srv w s o hR hs), h, hb.up⟩
  · obtain ⟨i, p, sn, u, rfl, hpp, ha, hS, hi, h01⟩ := h.at hs
    cases hbz : p.busy
    · have hu : u.on = false := by rw [← hS.busy]; exact hbz
      rcases h01 with rfl | rfl
      · have hz : (p.seen == 0) = true := by rw [hS.seen]; rfl
        exact ⟨6, X, Y, p_low (fun w F b hX _ _ => pBegin_blind w i p o hX hpp hbz hz), r_low (fun w F b hR => Begin_blind w i 0 u o hR ha hu rfl), h, hb.up⟩
      · have hz : (p.seen == 0) = false := by rw [hS.seen]; rfl
        cases ho : properOf o
        · exact ⟨7, X, Y, p_low (fun w F b hX _ _ => pBegin_op w i p o hX hpp hbz hz hp hq ho), r_low (fun w F b hR => Begin_op w i 1 u o hR ha hu rfl hp hq ho), h, hb.up⟩
        · obtain ⟨o1, o2, o3, o4⟩ := proper_parts ho
          cases hk : (o.kind == 1)
          · have q := h.put hi ⟨p.seen, true, p.seen, o.rev, delEnt o.path⟩ 1 ⟨true, delEnt o.path, 1, o.rev⟩ ⟨hS.seen, rfl, fun _ => ⟨hS.seen, rfl, rfl, o2, Int.le_refl _, o1, fun e => by cases e⟩⟩ (Or.inr rfl)
            rw [set_same ha.seen] at q
            exact ⟨0, _, _, p_kept (fun w F b hX _ _ => pBegin_del w i p o hX hpp hbz hz hp hq ho (o4 hk)), r_kept (fun w F b hR => Begin_del w i 1 u o hR ha hu rfl hp hq ho hk), q, ⟨Nat.le_succ_of_le hb.all, hb.d0, by have := hb.d1; show Y.draws ≤ _; omega⟩⟩
          · have d0 := hb.d0
            have d1 := hb.d1
            have eX : X.draws = Y.draws := h.draws
            have h2 : Rel { X with draws := X.draws + 1 } { Y with draws := Y.draws + 1 } key := ⟨h.ksize, h.kx, h.ky, h.write, h.ep, h.turn, h.room, h.rooms, h.rev, h.floor, h.floor0, by show X.draws + 1 = Y.draws + 1; rw [eX], h.len, h.srv, h.sn, h.ent, h.few, h.revs, h.eok⟩
            have hsz := sealOf_size key (nonceTo (Y.draws + 1) 12) o.path o.plain
            have hpl := o3 hk
            have hok : EntOk (closedOf key 1 o.path o.plain (Y.draws + 1)) := ⟨o1, ⟨by show 0 ≤ Y.draws + 1; omega, by show Y.draws + 1 ≤ _; omega⟩, ⟨by show 8 ≤ (sealOf key (nonceTo (Y.draws + 1) 12) o.path o.plain).size; omega, by show (sealOf key (nonceTo (Y.draws + 1) 12) o.path o.plain).size ≤ _; omega⟩⟩
            have q := h2.put hi ⟨p.seen, true, p.seen, o.rev, closedOf key 1 o.path o.plain (X.draws + 1)⟩ 1 ⟨true, closedOf key 1 o.path o.plain (Y.draws + 1), 1, o.rev⟩ ⟨hS.seen, rfl, fun _ => ⟨hS.seen, rfl, by rw [eX], o2, Int.le_refl _, o1, fun _ => ⟨hok, rfl⟩⟩⟩ (Or.inr rfl)
            replace q : Rel _ { Y with draws := Y.draws + 1, seen := Y.seen.set i 1, ops := Y.ops.set i ⟨true, closedOf key 1 o.path o.plain (Y.draws + 1), 1, o.rev⟩ } key := q
            rw [set_same ha.seen] at q
            exact ⟨0, _, _, p_kept (fun w F b hX hF h1 => pBegin_put w i p o ⟨key, 1, 1⟩ 0 hX hpp hbz hz hp hq ho hk (by rw [h.kx]; exact writerOne _ _) (getz h.kx) (by simp [h.kx]) h.ksize ⟨by omega, by omega⟩ hF h1),
              r_kept (fun w F b hR => Begin_put w i 1 u o ⟨key, 1, 1, false⟩ 0 hR ha hu rfl hp hq ho hk (by simp [h.ky]) (by rw [h.ky]; exact writesOne key) (getz h.ky) rfl h.ksize ⟨by omega, by omega⟩), q, ⟨Nat.le_succ_of_le hb.all, by show 0 ≤ Y.draws + 1; omega, by show Y.draws + 1 ≤ _; omega⟩⟩
    · have hu : u.on = true := by rw [← hS.busy]; exact hbz
      exact ⟨5, X, Y, p_low (fun w F b hX _ _ => pBegin_busy w i p o hX hpp hbz), r_low (fun w F b hR => Begin_busy w i sn u o hR ha hu), h, hb.up⟩
/-- What a read tells, on either side. -/
theorem read_pair {X : PS} {Y : RS} {key : ByteArray} {n : Nat} (h : Rel X Y key) (hb : Bd n Y) (hn : n ≤ 10000000) {i : Nat} {p : PSrv} {u : RUnd} (hpp : X.servers[i]? = some p) (ha : At Y i 1 u) (hS : Same p 1 u) (name : ByteArray) (rev : Int) (asked : Bool)
    (hr : asked = true → decide (rev < Y.floor) = false ∧ decide ((Y.all.length : Int) < rev) = false) :
    ∃ (A : ByteArray) (B C : Int), (∀ (w : World) (F : Nat → Prop) (b : Nat), XIn w F b X → Fours w → 1 ≤ w.heap.size → Calls Tryz.prog 74 #[.pointer (some ⟨b, 0, none⟩), .int .i64 (i : Int), .string name, .int .i64 rev] w fun e w' => e = .returned (.tuple #[.string A, .int .i64 B, .int .i64 C]) ∧ Low w.heap.size w w') ∧
      (∀ (w : World) (F : Nat → Prop) (b : Nat), RIn w F b Y → Calls Tryz.prog 75 #[.pointer (some ⟨b, 0, none⟩), .int .i64 (i : Int), .string name, .int .i64 rev, .bool asked] w fun e w' => e = .returned (.tuple #[.string A, .int .i64 B, .int .i64 C]) ∧ Low w.heap.size w w') := by
  have hA := hb.all
  have hent : X.entries.length ≤ 1000 := by have := h.few; have := h.rooms; omega
  have hN : newestOf X.entries name rev = (lastOf (Y.all.take rev.toNat) name).getD Ent.zero := by rw [h.ent]; exact newest_last _ _ _ h.revs
  cases hL : lastOf (Y.all.take rev.toNat) name with
  | none =>
    rw [hL] at hN
    have ht : thereOf (lastOf (Y.all.take rev.toNat) name) = false := by rw [hL]; rfl
    refine ⟨⟨#[]⟩, 0, 12, fun w F b hX _ _ => read_none w i name rev hX hent (by rw [hN]; rfl), fun w F b hR => ?_⟩
    cases asked
    · exact get_none_false w i 1 u name rev hR ha rfl (by omega) ht
    · exact get_none_true w i 1 u name rev hR ha rfl (by omega) (hr rfl).1 (hr rfl).2 ht
  | some E =>
    rw [hL] at hN
    replace hN : newestOf X.entries name rev = E := hN
    obtain ⟨k, hk, hkE, _, _⟩ := lastOf_mem hL
    have hkm : k ∈ Y.all := List.mem_of_mem_take hk
    obtain ⟨j, hj⟩ := List.getElem?_of_mem hkm
    have hrv := h.revs j k hj
    rw [hkE] at hrv
    have hz : (E.rev == 0) = false := by rw [beq_eq_false_iff_ne]; omega
    cases hg : E.gone
    · obtain ⟨ok1, ok2⟩ := h.eok k hkm (by rw [hkE]; exact hg)
      rw [hkE] at ok1 ok2
      have hkg : keyGone ⟨key, 1, 1⟩ = false := keyGone_no h.ksize
      have e1 : pRead ⟨key, 1, 1⟩ E p.seen = openedOf ⟨key, 1, 1, false⟩ E 1 := by
        unfold pRead openedOf pOpened
        rw [hS.seen, hkg]
      refine ⟨(openedOf ⟨key, 1, 1, false⟩ E 1).1, revOr (openedOf ⟨key, 1, 1, false⟩ E 1) E.rev, (openedOf ⟨key, 1, 1, false⟩ E 1).2, fun w F b hX hF h1 => ?_, fun w F b hR => ?_⟩
      · have q := read_some w i p name rev E ⟨key, 1, 1⟩ 0 hX hpp hent hN hz hg (getz h.kx) ok2 (by omega) h.ksize ok1 hF h1
        rw [e1] at q
        exact q
      · cases asked
        · exact get_some_false w i 1 u name rev E ⟨key, 1, 1, false⟩ 0 hR ha rfl (by omega) hL hg (getz h.ky) ok2 (by omega) h.ksize ok1
        · exact get_some_true w i 1 u name rev E ⟨key, 1, 1, false⟩ 0 hR ha rfl (by omega) (hr rfl).1 (hr rfl).2 hL hg (getz h.ky) ok2 (by omega) h.ksize ok1
    · have ht : thereOf (lastOf (Y.all.take rev.toNat) name) = false := by rw [hL]; simp [thereOf, hg]
      refine ⟨⟨#[]⟩, 0, 12, fun w F b hX _ _ => read_none w i name rev hX hent (by rw [hN, hg, Bool.or_true]), fun w F b hR => ?_⟩
      cases asked
      · exact get_none_false w i 1 u name rev hR ha rfl (by omega) ht
      · exact get_none_true w i 1 u name rev hR ha rfl (by omega) (hr rfl).1 (hr rfl).2 ht
theorem get_pair {X : PS} {Y : RS} {key : ByteArray} {n : Nat} (h : Rel X Y key) (hb : Bd n Y) (hn : n ≤ 10000000) (s : Int) (name : ByteArray) :
    ∃ (A : ByteArray) (B C : Int), Pair 31 32 [.int .i64 s, .string name] X Y key n (.tuple #[.string A, .int .i64 B, .int .i64 C]) := by
  cases hs : isSrv Y.seen.length s
  · have hx : isSrv X.servers.length s = false := by rw [h.len.1]; exact hs
    exact ⟨⟨#[]⟩, 0, 4, X, Y, p_same (fun w F b hX => pGet_srv w s name hX hx), r_low (fun w F b hR => rGet_via w s name hR _ _ _ (get_srv w s name _ false hR hs)), h, hb.up⟩
  · obtain ⟨i, p, sn, u, rfl, hpp, ha, hS, hi, h01⟩ := h.at hs
    rcases h01 with rfl | rfl
    · have hz : (p.seen == 0) = true := by rw [hS.seen]; rfl
      exact ⟨⟨#[]⟩, 0, 6, X, Y, p_same (fun w F b hX => pGet_blind w i p name hX hpp hz), r_low (fun w F b hR => rGet_via w i name hR _ _ _ (get_blind w i 0 u name _ false hR ha rfl)), h, hb.up⟩
    · have hz : (p.seen == 0) = false := by rw [hS.seen]; rfl
      obtain ⟨A, B, C, q1, q2⟩ := read_pair h hb hn hpp ha hS name (Y.all.length : Int) false (fun e => by cases e)
      exact ⟨A, B, C, X, Y, p_low (fun w F b hX hF h1 => pGet_ok w i p name hX hpp hz A B C (by rw [h.rev]; exact q1 w F b hX hF h1)), r_low (fun w F b hR => rGet_via w i name hR _ _ _ (q2 w F b hR)), h, hb.up⟩
theorem getAt_pair {X : PS} {Y : RS} {key : ByteArray} {n : Nat} (h : Rel X Y key) (hb : Bd n Y) (hn : n ≤ 10000000) (s : Int) (name : ByteArray) (rev : Int) :
    ∃ (A : ByteArray) (B C : Int), Pair 33 34 [.int .i64 s, .string name, .int .i64 rev] X Y key n (.tuple #[.string A, .int .i64 B, .int .i64 C]) := by
  have hA := hb.all
  cases hs : isSrv Y.seen.length s
  · have hx : isSrv X.servers.length s = false := by rw [h.len.1]; exact hs
    exact ⟨⟨#[]⟩, 0, 4, X, Y, p_same (fun w F b hX => pGetAt_srv w s name rev hX hx), r_low (fun w F b hR => rGetAt_via w s name rev _ _ _ (get_srv w s name rev true hR hs)), h, hb.up⟩
  · obtain ⟨i, p, sn, u, rfl, hpp, ha, hS, hi, h01⟩ := h.at hs
    rcases h01 with rfl | rfl
    · have hz : (p.seen == 0) = true := by rw [hS.seen]; rfl
      exact ⟨⟨#[]⟩, 0, 6, X, Y, p_same (fun w F b hX => pGetAt_blind w i p name rev hX hpp hz), r_low (fun w F b hR => rGetAt_via w i name rev _ _ _ (get_blind w i 0 u name rev true hR ha rfl)), h, hb.up⟩
    · have hz : (p.seen == 0) = false := by rw [hS.seen]; rfl
      have hbr : pBadRev X rev = badRev Y rev true := by unfold pBadRev badRev; rw [h.floor, h.rev, Bool.true_and]
      cases hbad : badRev Y rev true
      · have hbad2 : (decide (rev < Y.floor) || decide ((Y.all.length : Int) < rev)) = false := hbad
        obtain ⟨A, B, C, q1, q2⟩ := read_pair h hb hn hpp ha hS name rev true (fun _ => Bool.or_eq_false_iff.1 hbad2)
        exact ⟨A, B, C, X, Y, p_low (fun w F b hX hF h1 => pGetAt_ok w i p name rev hX hpp hz (hbr.trans hbad) A B C (q1 w F b hX hF h1)), r_low (fun w F b hR => rGetAt_via w i name rev _ _ _ (q2 w F b hR)), h, hb.up⟩
      · exact ⟨⟨#[]⟩, 0, 15, X, Y, p_same (fun w F b hX => pGetAt_rev w i p name rev hX hpp hz (hbr.trans hbad)), r_low (fun w F b hR => rGetAt_via w i name rev _ _ _ (get_rev w i 1 u name rev true hR ha rfl (by omega) hbad)), h, hb.up⟩
theorem allTo_get {l : List RKept} {f : Nat → Bool} {n j : Nat} {k : RKept} (h : (allTo l f n)[j]? = some k) : ∃ k0, l[j]? = some k0 ∧ k.e = k0.e := by
  unfold allTo at h
  rw [List.getElem?_mapIdx] at h
  cases hl : l[j]? with
  | none => rw [hl] at h; cases h
  | some k0 =>
    rw [hl] at h
    have h : (if j < n then { k0 with out := k0.out || f j } else k0) = k := Option.some.inj h
    refine ⟨k0, rfl, ?_⟩
    rw [← h]
    split <;> rfl
theorem compact_pair {X : PS} {Y : RS} {key : ByteArray} {n : Nat} (h : Rel X Y key) (hb : Bd n Y) (hn : n ≤ 10000000) (rev : Int) : ∃ v : Int, Pair 37 38 [.int .i64 rev] X Y key n (.int .i64 v) := by
  have hA := hb.all
  have hent : X.entries.length ≤ 1000 := by have := h.few; have := h.rooms; omega
  have hbc : pBadCut X rev = badCut Y rev := by unfold pBadCut badCut; rw [h.floor, h.rev]
  cases hbad : badCut Y rev
  · obtain ⟨c1, c2⟩ : ¬ rev ≤ Y.floor ∧ ¬ (Y.all.length : Int) < rev := by unfold badCut at hbad; simp at hbad; omega
    have f0 := h.floor0
    obtain ⟨r, rfl⟩ : ∃ r : Nat, rev = (r : Int) := ⟨rev.toNat, by omega⟩
    have hl : (allTo Y.all (outAt Y.all r) r).length = Y.all.length := by unfold allTo; simp
    refine ⟨0, X.compact (r : Int), Y.compact r, p_grow (fun w F b hX => pCompact_yes w r hX (hbc.trans hbad) hent), r_kept (fun w F b hR => Compact_yes w r hR (by omega) (by omega) (by omega)), ?_, ⟨by show (allTo Y.all (outAt Y.all r) r).length ≤ _; omega, hb.d0, by have := hb.d1; show Y.draws ≤ _; omega⟩⟩
    refine ⟨h.ksize, h.kx, h.ky, h.write, h.ep, h.turn, h.room, h.rooms, ?_, rfl, ?_, h.draws, h.len, h.srv, h.sn, compact_same h r, ?_, ?_, ?_⟩
    · show X.rev = ((allTo Y.all (outAt Y.all r) r).length : Int)
      rw [hl]; exact h.rev
    · show (0 : Int) ≤ (r : Int)
      omega
    · show ((X.entries.filter (fun e => outl X e (r : Int))).length : Int) ≤ Y.room
      have := List.length_filter_le (fun e => outl X e (r : Int)) X.entries
      have := h.few
      omega
    · intro j k hk
      obtain ⟨k0, hk0, e0⟩ := allTo_get hk
      rw [e0]
      exact h.revs j k0 hk0
    · intro k hk hg
      obtain ⟨j, hj⟩ := List.getElem?_of_mem hk
      obtain ⟨k0, hk0, e0⟩ := allTo_get hj
      rw [e0] at hg ⊢
      exact h.eok k0 (List.mem_of_getElem? hk0) hg
  · exact ⟨15, X, Y, p_same (fun w F b hX => pCompact_no w rev hX (hbc.trans hbad)), r_same (fun w F b hR => Compact_no w rev hR hbad), h, hb.up⟩
theorem new_rel (m : Nat) (room : Int) (key : ByteArray) (hc : cfgOk (m : Int) room key = true) : Rel (PS.new m room key) (RS.new m room key) key ∧ Bd 0 (RS.new m room key) := by
  unfold cfgOk at hc
  simp at hc
  obtain ⟨⟨c1, c2, c3, c4⟩, c5⟩ := hc
  have e : (RS.new (m : Int) room key).seen = List.replicate m 0 := by show List.replicate (m : Int).toNat 0 = _; rw [Int.toNat_natCast]
  have e2 : (RS.new (m : Int) room key).ops = List.replicate m RUnd.zero := by show List.replicate (m : Int).toNat RUnd.zero = _; rw [Int.toNat_natCast]
  refine ⟨⟨c5, rfl, rfl, rfl, ⟨rfl, rfl⟩, ⟨rfl, rfl⟩, rfl, ⟨c3, c4⟩, rfl, rfl, Int.le_refl _, rfl, ?_, ?_, ?_, rfl, ?_, ?_, ?_⟩, ⟨Nat.le_refl _, Int.le_refl _, Int.le_refl _⟩⟩
  · rw [e, e2]
    show (List.replicate m PSrv.zero).length = _ ∧ _
    simp
  · intro i s hs
    replace hs : (List.replicate m PSrv.zero)[i]? = some s := hs
    have hi : i < m := by have := (List.getElem?_eq_some_iff.1 hs).1; simpa using this
    rw [List.getElem?_replicate, if_pos hi] at hs
    obtain rfl := Option.some.inj hs
    rw [e, e2]
    exact ⟨0, RUnd.zero, by rw [List.getElem?_replicate, if_pos hi], by rw [List.getElem?_replicate, if_pos hi], ⟨rfl, rfl, fun z => by cases z⟩⟩
  · intro i sn hs
    rw [e] at hs
    have hi : i < m := by have := (List.getElem?_eq_some_iff.1 hs).1; simpa using this
    rw [List.getElem?_replicate, if_pos hi] at hs
    exact Or.inl (Option.some.inj hs).symm
  · show ((0 : Nat) : Int) ≤ room
    omega
  · intro i k hk
    cases hk
  · intro k hk
    cases hk
end Go.Proofs.YtphapknfkbgapaaGreatDoor
namespace Go.Proofs.YtphapknfkbgapaaGreatDoor
open Go.RowKit

/-! The two coffers, the law's world and the caller's lists, side by side in memory; G: blocks that none of them has. -/

structure St (w : World) (G : Nat → Prop) (bw bx br : Nat) (X : PS) (Y : RS) (outs : List LOut) (Fx Fr Fw H : Nat → Prop) : Prop where
  x : XIn w Fx bx X
  r : RIn w Fr br Y
  o : WIn w Fw bw bx br outs
  ok : ∀ o ∈ outs, OutOk w H o
  hb : ∀ g, H g → g < w.heap.size
  gb : ∀ k, G k → k < w.heap.size
  gx : ∀ k, Fx k → ¬ G k
  gr : ∀ k, Fr k → ¬ G k
  gw : ∀ k, Fw k → ¬ G k
  xr : ∀ k, Fx k → ¬ Fr k
  xw : ∀ k, Fx k → ¬ Fw k
  xh : ∀ k, H k → ¬ Fx k
  rw : ∀ k, Fr k → ¬ Fw k
  rh : ∀ k, H k → ¬ Fr k
  wh : ∀ k, H k → ¬ Fw k
  g0 : G 0
  f : Fours w
  gh : ∀ k, H k → ¬ G k
def J (w : World) (G : Nat → Prop) (bw bx br : Nat) (X : PS) (Y : RS) (outs : List LOut) : Prop := ∃ Fx Fr Fw H, St w G bw bx br X Y outs Fx Fr Fw H
theorem WIn.kept {w w' : World} {F G : Nat → Prop} {b bx r : Nat} {outs : List LOut} (h : WIn w F b bx r outs) (k : Kept G w w') (hd : ∀ i, F i → ¬ G i) : WIn w' F b bx r outs := by
  obtain ⟨v, h⟩ := h
  exact ⟨v, h.kept k hd⟩
theorem WIn.below {w : World} {F : Nat → Prop} {b bx r : Nat} {outs : List LOut} (h : WIn w F b bx r outs) : ∀ k, F k → k < w.heap.size := by
  obtain ⟨v, h⟩ := h
  exact h.below
theorem fours_at {w w' : World} (h : Fours w) (e : w'.heap[0]? = w.heap[0]?) (os : w'.os = w.os) (out : w'.output = w.output) (sz : w.heap.size ≤ w'.heap.size) : Fours w' :=
  h.later ⟨os, out, sz, fun k hk => by obtain rfl : k = 0 := by omega
                                       exact e⟩
variable {w w' : World} {G : Nat → Prop} {bw bx br : Nat} {X X' : PS} {Y Y' : RS} {outs : List LOut}
theorem J.low (h : J w G bw bx br X Y outs) (k : Low w.heap.size w w') : J w' G bw bx br X Y outs := by
  obtain ⟨Fx, Fr, Fw, H, h⟩ := h
  exact ⟨Fx, Fr, Fw, H, h.x.low k, h.r.low k, win_low h.o k, fun o ho => out_low (h.ok o ho) k, fun g hg => Nat.lt_of_lt_of_le (h.hb g hg) k.size, fun g hg => Nat.lt_of_lt_of_le (h.gb g hg) k.size, h.gx, h.gr, h.gw, h.xr, h.xw, h.xh, h.rw, h.rh, h.wh, h.g0, fours_at h.f (k.block 0 (h.gb 0 h.g0)) k.os k.output k.size, h.gh⟩
theorem J.weak (h : J w G bw bx br X Y outs) {G' : Nat → Prop} (hs : ∀ k, G' k → G k) (g0 : G' 0) : J w G' bw bx br X Y outs := by
  obtain ⟨Fx, Fr, Fw, H, h⟩ := h
  exact ⟨Fx, Fr, Fw, H, h.x, h.r, h.o, h.ok, h.hb, fun k hk => h.gb k (hs k hk), fun k hk g => h.gx k hk (hs k g), fun k hk g => h.gr k hk (hs k g), fun k hk g => h.gw k hk (hs k g), h.xr, h.xw, h.xh, h.rw, h.rh, h.wh, g0, h.f, fun k hk g => h.gh k hk (hs k g)⟩
theorem J.box (h : J w G bw bx br X Y outs) (ob : Obj) : J (w.alloc ob) (fun k => G k ∨ k = w.heap.size) bw bx br X Y outs := by
  obtain ⟨Fx, Fr, Fw, H, h⟩ := h
  have hx := h.x.below
  have hr := h.r.below
  have hw := h.o.below
  have k := (Low.refl _ w).alloc (Nat.le_refl _) ob
  exact ⟨Fx, Fr, Fw, H, h.x.low k, h.r.low k, win_low h.o k, fun o ho => out_low (h.ok o ho) k, fun g hg => Nat.lt_of_lt_of_le (h.hb g hg) k.size, fun g hg => by rcases hg with hg | hg; exact Nat.lt_of_lt_of_le (h.gb g hg) k.size; simp [hg], fun q f g => by rcases g with g | g; exact h.gx q f g; have := hx q f; omega, fun q f g => by rcases g with g | g; exact h.gr q f g; have := hr q f; omega, fun q f g => by rcases g with g | g; exact h.gw q f g; have := hw q f; omega, h.xr, h.xw, h.xh, h.rw, h.rh, h.wh, Or.inl h.g0, fours_at h.f (k.block 0 (h.gb 0 h.g0)) k.os k.output k.size, fun q hq g => by rcases g with g | g; exact h.gh q hq g; have := h.hb q hq; omega⟩
theorem J.ptrs (h : J w G bw bx br X Y outs) : w.cell? ⟨bw, 0, none⟩ = some (.pointer (some ⟨bx, 0, none⟩)) ∧ w.cell? ⟨bw, 1, none⟩ = some (.pointer (some ⟨br, 0, none⟩)) ∧ bw < w.heap.size := by
  obtain ⟨Fx, Fr, Fw, H, h⟩ := h
  exact win_ptrs h.o
theorem J.gb (h : J w G bw bx br X Y outs) : ∀ k, G k → k < w.heap.size := by
  obtain ⟨Fx, Fr, Fw, H, h⟩ := h
  exact h.gb
theorem J.callX {f : Nat} {args : List Value} {v : Value} (h : J w G bw bx br X Y outs) (hp : PUni f args X v X') :
    Calls Tryz.prog f (.pointer (some ⟨bx, 0, none⟩) :: args).toArray w fun e w' => e = .returned v ∧ J w' G bw bx br X' Y outs ∧ Kept (fun k => ¬ G k) w w' := by
  obtain ⟨Fx, Fr, Fw, H, h⟩ := h
  refine (hp w Fx bx h.x h.f (Nat.lt_of_le_of_lt (Nat.zero_le 0) (h.gb 0 h.g0))).mono ?_
  rintro e w' ⟨rfl, F', x', k, hF⟩
  have hr := h.r.below
  have hw := h.o.below
  have hg := h.gb
  have hh := h.hb
  refine ⟨rfl, ⟨F', Fr, Fw, H, x', h.r.kept k (fun i hi g => h.xr i g hi), h.o.kept k (fun i hi g => h.xw i g hi), fun o ho => out_kept (h.ok o ho) k h.xh, fun g hg => Nat.lt_of_lt_of_le (h.hb g hg) k.size, fun g hg => Nat.lt_of_lt_of_le (h.gb g hg) k.size, fun q f g => ?_, h.gr, h.gw, fun q f g => ?_, fun q f g => ?_, fun q g f => ?_, h.rw, h.rh, h.wh, h.g0, fours_at h.f (k.block 0 (h.gb 0 h.g0) (fun f => h.gx 0 f h.g0)) k.os k.output k.size, h.gh⟩, k.mono (fun i _ f g => h.gx i f g)⟩
  · rcases hF q f with e | e
    · exact h.gx q e g
    · have := hg q g; omega
  · rcases hF q f with e | e
    · exact h.xr q e g
    · have := hr q g; omega
  · rcases hF q f with e | e
    · exact h.xw q e g
    · have := hw q g; omega
  · rcases hF q f with e | e
    · exact h.xh q g e
    · have := hh q g; omega
theorem J.callR {f : Nat} {args : List Value} {v : Value} (h : J w G bw bx br X Y outs) (hp : RUni f args Y v Y') :
    Calls Tryz.prog f (.pointer (some ⟨br, 0, none⟩) :: args).toArray w fun e w' => e = .returned v ∧ J w' G bw bx br X Y' outs ∧ Kept (fun k => ¬ G k) w w' := by
  obtain ⟨Fx, Fr, Fw, H, h⟩ := h
  refine (hp w Fr br h.r).mono ?_
  rintro e w' ⟨rfl, F', x', k, hF⟩
  have hx := h.x.below
  have hw := h.o.below
  have hg := h.gb
  have hh := h.hb
  refine ⟨rfl, ⟨Fx, F', Fw, H, h.x.kept k (fun i hi g => h.xr i hi g), x', h.o.kept k (fun i hi g => h.rw i g hi), fun o ho => out_kept (h.ok o ho) k h.rh, fun g hg => Nat.lt_of_lt_of_le (h.hb g hg) k.size, fun g hg => Nat.lt_of_lt_of_le (h.gb g hg) k.size, h.gx, fun q f g => ?_, h.gw, fun q g f => ?_, h.xw, h.xh, fun q f g => ?_, fun q g f => ?_, h.wh, h.g0, fours_at h.f (k.block 0 (h.gb 0 h.g0) (fun f => h.gr 0 f h.g0)) k.os k.output k.size, h.gh⟩, k.mono (fun i _ f g => h.gr i f g)⟩
  · rcases hF q f with e | e
    · exact h.gr q e g
    · have := hg q g; omega
  · rcases hF q f with e | e
    · exact h.xr q g e
    · have := hx q g; omega
  · rcases hF q f with e | e
    · exact h.rw q e g
    · have := hw q g; omega
  · rcases hF q f with e | e
    · exact h.rh q g e
    · have := hh q g; omega
end Go.Proofs.YtphapknfkbgapaaGreatDoor
namespace Go.Proofs.YtphapknfkbgapaaGreatDoor
open Go.RowKit

variable {w w' : World} {G : Nat → Prop} {bw bx br : Nat} {X X' : PS} {Y Y' : RS} {outs : List LOut}
theorem J.drew (h : J w G bw bx br X Y outs) : J w.drew G bw bx br X Y outs := h.low (Low.refl _ w).drew
theorem J.g0 (h : J w G bw bx br X Y outs) : G 0 := by
  obtain ⟨Fx, Fr, Fw, H, h⟩ := h
  exact h.g0
theorem keptG {M : Nat} {V y1 y2 : World} (k : Kept (fun q => ¬ G q) w V) (k1 : Kept (fun q => ¬ (G q ∨ q = M)) V.drew y1) (k2 : Kept (fun q => ¬ (G q ∨ q = M)) y1.drew y2) : Kept (fun q => ¬ G q) w y2 :=
  (k.trans k1.of_drew (H := fun q => ¬ G q) (fun _ f => f) (fun _ _ f g => f (Or.inl g))).trans k2.of_drew (fun _ f => f) (fun _ _ f g => f (Or.inl g))
def actL (k s n q : Int) (p t : ByteArray) (on : Bool) : List Value := [.int .i64 k, .int .i64 s, .int .i64 n, .int .i64 q, .string p, .string t, .bool on]
set_option maxRecDepth 100000 in
set_option maxHeartbeats 1000000 in
theorem serve1 (w : World) (s n q : Int) (p t : ByteArray) (on : Bool) (v : Int) (h : J w G bw bx br X Y outs) (hp : PUni 23 [.int .i64 s] X (.int .i64 v) X') (hr : RUni 24 [.int .i64 s] Y (.int .i64 v) Y') :
    Calls Tryz.prog 15 #[.pointer (some ⟨bw, 0, none⟩), .agg #[.int .i64 1, .int .i64 s, .int .i64 n, .int .i64 q, .string p, .string t, .bool on]] w fun e w' => e = .returned (.bool true) ∧ J w' G bw bx br X' Y' outs ∧ Kept (fun k => ¬ G k) w w' := by
  have HJ := hid h
  have HP := hid hp
  have HR := hid hr
  clear h hp hr
  go_enter Tryz.func15, Tryz.ntmps15
  go_upto_region 9 with fail
  go_name_world V hV
  have JV : Hid (J V (fun k => G k ∨ k = w.heap.size) bw bx br X Y outs) := by
    show J V _ bw bx br X Y outs
    rw [← hV]; exact HJ.out.box _
  have KV : Hid (Kept (fun k => ¬ G k) w V) := by
    show Kept _ w V
    rw [← hV]; exact ((Low.refl _ w).alloc (Nat.le_refl _) _).keptF _
  have BV : Blk V w.heap.size 32 (actL 1 s n q p t on) := by rw [← hV]; exact Blk.new w 32 (actL 1 s n q p t on)
  obtain ⟨c0, c1, lb⟩ := JV.out.ptrs
  have m1 : V.cell? ⟨w.heap.size, 1, none⟩ = some (.int .i64 s) := BV.cell 1
  clear hV BV
  go_region_held3 (fun W' => W'.cell? ⟨bw, 0, none⟩ = some (.pointer (some ⟨bx, 0, none⟩)) ∧ W'.cell? ⟨w.heap.size, 1, none⟩ = some (.int .i64 s)) (first | assumption | go_keep)
    (first | (go_at_call 23; refine (JV.out.drew.callX HP.out).mono ?_; rintro e y1 ⟨rfl, j1, k1⟩; have S1 : y1.cell? ⟨bw, 0, none⟩ = some (.pointer (some ⟨bx, 0, none⟩)) ∧ y1.cell? ⟨w.heap.size, 1, none⟩ = some (.int .i64 s) := ⟨j1.ptrs.1, k1.cell m1 (fun f => f (Or.inr rfl))⟩; have J1 := hid j1; have K1 := hid k1; clear j1 k1))
  have d1 : y1.cell? ⟨bw, 1, none⟩ = some (.pointer (some ⟨br, 0, none⟩)) := J1.out.ptrs.2.1
  have n1 : y1.cell? ⟨w.heap.size, 1, none⟩ = some (.int .i64 s) := S1.2
  have lb1 : bw < y1.heap.size := J1.out.ptrs.2.2
  clear S1 c0 c1 m1 lb
  go_upto_region 10 with fail
  go_region_held3 (fun W' => W'.cell? ⟨bw, 1, none⟩ = some (.pointer (some ⟨br, 0, none⟩)) ∧ W'.cell? ⟨w.heap.size, 1, none⟩ = some (.int .i64 s)) (first | assumption | go_keep)
    (first | (go_at_call 24; refine (J1.out.drew.callR HR.out).mono ?_; rintro e y2 ⟨rfl, j2, k2⟩; have S2 : y2.cell? ⟨bw, 1, none⟩ = some (.pointer (some ⟨br, 0, none⟩)) ∧ y2.cell? ⟨w.heap.size, 1, none⟩ = some (.int .i64 s) := ⟨j2.ptrs.2.1, k2.cell n1 (fun f => f (Or.inr rfl))⟩; have J2 := hid j2; have K2 := hid k2; clear j2 k2))
  clear S2
  go_wp2_with fail
  go_ret
  exact ⟨rfl, J2.out.weak (fun _ g => Or.inl g) HJ.out.g0, keptG KV.out K1.out K2.out⟩
set_option maxRecDepth 100000 in
set_option maxHeartbeats 1000000 in
theorem serve2 (w : World) (s n q : Int) (p t : ByteArray) (on : Bool) (v : Int) (h : J w G bw bx br X Y outs) (hp : PUni 25 [.int .i64 s] X (.int .i64 v) X') (hr : RUni 26 [.int .i64 s] Y (.int .i64 v) Y') :
    Calls Tryz.prog 15 #[.pointer (some ⟨bw, 0, none⟩), .agg #[.int .i64 2, .int .i64 s, .int .i64 n, .int .i64 q, .string p, .string t, .bool on]] w fun e w' => e = .returned (.bool true) ∧ J w' G bw bx br X' Y' outs ∧ Kept (fun k => ¬ G k) w w' := by
  have HJ := hid h
  have HP := hid hp
  have HR := hid hr
  clear h hp hr
  go_enter Tryz.func15, Tryz.ntmps15
  go_upto_region 12 with fail
  go_name_world V hV
  have JV : Hid (J V (fun k => G k ∨ k = w.heap.size) bw bx br X Y outs) := by
    show J V _ bw bx br X Y outs
    rw [← hV]; exact HJ.out.box _
  have KV : Hid (Kept (fun k => ¬ G k) w V) := by
    show Kept _ w V
    rw [← hV]; exact ((Low.refl _ w).alloc (Nat.le_refl _) _).keptF _
  have BV : Blk V w.heap.size 32 (actL 2 s n q p t on) := by rw [← hV]; exact Blk.new w 32 (actL 2 s n q p t on)
  obtain ⟨c0, c1, lb⟩ := JV.out.ptrs
  have m1 : V.cell? ⟨w.heap.size, 1, none⟩ = some (.int .i64 s) := BV.cell 1
  clear hV BV
  go_region_held3 (fun W' => W'.cell? ⟨bw, 0, none⟩ = some (.pointer (some ⟨bx, 0, none⟩)) ∧ W'.cell? ⟨w.heap.size, 1, none⟩ = some (.int .i64 s)) (first | assumption | go_keep)
    (first | (go_at_call 25; refine (JV.out.drew.callX HP.out).mono ?_; rintro e y1 ⟨rfl, j1, k1⟩; have S1 : y1.cell? ⟨bw, 0, none⟩ = some (.pointer (some ⟨bx, 0, none⟩)) ∧ y1.cell? ⟨w.heap.size, 1, none⟩ = some (.int .i64 s) := ⟨j1.ptrs.1, k1.cell m1 (fun f => f (Or.inr rfl))⟩; have J1 := hid j1; have K1 := hid k1; clear j1 k1))
  have d1 : y1.cell? ⟨bw, 1, none⟩ = some (.pointer (some ⟨br, 0, none⟩)) := J1.out.ptrs.2.1
  have n1 : y1.cell? ⟨w.heap.size, 1, none⟩ = some (.int .i64 s) := S1.2
  have lb1 : bw < y1.heap.size := J1.out.ptrs.2.2
  clear S1 c0 c1 m1 lb
  go_upto_region 13 with fail
  go_region_held3 (fun W' => W'.cell? ⟨bw, 1, none⟩ = some (.pointer (some ⟨br, 0, none⟩)) ∧ W'.cell? ⟨w.heap.size, 1, none⟩ = some (.int .i64 s)) (first | assumption | go_keep)
    (first | (go_at_call 26; refine (J1.out.drew.callR HR.out).mono ?_; rintro e y2 ⟨rfl, j2, k2⟩; have S2 : y2.cell? ⟨bw, 1, none⟩ = some (.pointer (some ⟨br, 0, none⟩)) ∧ y2.cell? ⟨w.heap.size, 1, none⟩ = some (.int .i64 s) := ⟨j2.ptrs.2.1, k2.cell n1 (fun f => f (Or.inr rfl))⟩; have J2 := hid j2; have K2 := hid k2; clear j2 k2))
  clear S2
  go_wp2_with fail
  go_ret
  exact ⟨rfl, J2.out.weak (fun _ g => Or.inl g) HJ.out.g0, keptG KV.out K1.out K2.out⟩
set_option maxRecDepth 100000 in
set_option maxHeartbeats 1000000 in
theorem serve4 (w : World) (s n q : Int) (p t : ByteArray) (on : Bool) (v e : Int) (h : J w G bw bx br X Y outs) (hp : PUni 29 [.int .i64 s] X (.tuple #[.int .i64 v, .int .i64 e]) X') (hr : RUni 30 [.int .i64 s] Y (.tuple #[.int .i64 v, .int .i64 e]) Y') :
    Calls Tryz.prog 15 #[.pointer (some ⟨bw, 0, none⟩), .agg #[.int .i64 4, .int .i64 s, .int .i64 n, .int .i64 q, .string p, .string t, .bool on]] w fun e w' => e = .returned (.bool true) ∧ J w' G bw bx br X' Y' outs ∧ Kept (fun k => ¬ G k) w w' := by
  have HJ := hid h
  have HP := hid hp
  have HR := hid hr
  clear h hp hr
  go_enter Tryz.func15, Tryz.ntmps15
  go_upto_region 19 with fail
  go_name_world V hV
  have JV : Hid (J V (fun k => G k ∨ k = w.heap.size) bw bx br X Y outs) := by
    show J V _ bw bx br X Y outs
    rw [← hV]; exact HJ.out.box _
  have KV : Hid (Kept (fun k => ¬ G k) w V) := by
    show Kept _ w V
    rw [← hV]; exact ((Low.refl _ w).alloc (Nat.le_refl _) _).keptF _
  have BV : Blk V w.heap.size 32 (actL 4 s n q p t on) := by rw [← hV]; exact Blk.new w 32 (actL 4 s n q p t on)
  obtain ⟨c0, c1, lb⟩ := JV.out.ptrs
  have m1 : V.cell? ⟨w.heap.size, 1, none⟩ = some (.int .i64 s) := BV.cell 1
  clear hV BV
  go_region_held3 (fun W' => W'.cell? ⟨bw, 0, none⟩ = some (.pointer (some ⟨bx, 0, none⟩)) ∧ W'.cell? ⟨w.heap.size, 1, none⟩ = some (.int .i64 s)) (first | assumption | go_keep)
    (first | (go_at_call 29; refine (JV.out.drew.callX HP.out).mono ?_; rintro e y1 ⟨rfl, j1, k1⟩; have S1 : y1.cell? ⟨bw, 0, none⟩ = some (.pointer (some ⟨bx, 0, none⟩)) ∧ y1.cell? ⟨w.heap.size, 1, none⟩ = some (.int .i64 s) := ⟨j1.ptrs.1, k1.cell m1 (fun f => f (Or.inr rfl))⟩; have J1 := hid j1; have K1 := hid k1; clear j1 k1))
  have d1 : y1.cell? ⟨bw, 1, none⟩ = some (.pointer (some ⟨br, 0, none⟩)) := J1.out.ptrs.2.1
  have n1 : y1.cell? ⟨w.heap.size, 1, none⟩ = some (.int .i64 s) := S1.2
  have lb1 : bw < y1.heap.size := J1.out.ptrs.2.2
  clear S1 c0 c1 m1 lb
  go_upto_region 20 with fail
  go_region_held3 (fun W' => W'.cell? ⟨bw, 1, none⟩ = some (.pointer (some ⟨br, 0, none⟩)) ∧ W'.cell? ⟨w.heap.size, 1, none⟩ = some (.int .i64 s)) (first | assumption | go_keep)
    (first | (go_at_call 30; refine (J1.out.drew.callR HR.out).mono ?_; rintro e y2 ⟨rfl, j2, k2⟩; have S2 : y2.cell? ⟨bw, 1, none⟩ = some (.pointer (some ⟨br, 0, none⟩)) ∧ y2.cell? ⟨w.heap.size, 1, none⟩ = some (.int .i64 s) := ⟨j2.ptrs.2.1, k2.cell n1 (fun f => f (Or.inr rfl))⟩; have J2 := hid j2; have K2 := hid k2; clear j2 k2))
  clear S2
  go_wp2_with fail
  go_ret
  exact ⟨rfl, J2.out.weak (fun _ g => Or.inl g) HJ.out.g0, keptG KV.out K1.out K2.out⟩
set_option maxRecDepth 100000 in
set_option maxHeartbeats 1000000 in
theorem serve5 (w : World) (s n q : Int) (p t : ByteArray) (on : Bool) (A : ByteArray) (v e : Int) (h : J w G bw bx br X Y outs) (hp : PUni 31 [.int .i64 s, .string p] X (.tuple #[.string A, .int .i64 v, .int .i64 e]) X') (hr : RUni 32 [.int .i64 s, .string p] Y (.tuple #[.string A, .int .i64 v, .int .i64 e]) Y') :
    Calls Tryz.prog 15 #[.pointer (some ⟨bw, 0, none⟩), .agg #[.int .i64 5, .int .i64 s, .int .i64 n, .int .i64 q, .string p, .string t, .bool on]] w fun e w' => e = .returned (.bool true) ∧ J w' G bw bx br X' Y' outs ∧ Kept (fun k => ¬ G k) w w' := by
  have HJ := hid h
  have HP := hid hp
  have HR := hid hr
  have qA : (A.toList == A.toList) = true := beq_self_eq_true _
  clear h hp hr
  go_enter Tryz.func15, Tryz.ntmps15
  go_upto_region 22 with fail
  go_name_world V hV
  have JV : Hid (J V (fun k => G k ∨ k = w.heap.size) bw bx br X Y outs) := by
    show J V _ bw bx br X Y outs
    rw [← hV]; exact HJ.out.box _
  have KV : Hid (Kept (fun k => ¬ G k) w V) := by
    show Kept _ w V
    rw [← hV]; exact ((Low.refl _ w).alloc (Nat.le_refl _) _).keptF _
  have BV : Blk V w.heap.size 32 (actL 5 s n q p t on) := by rw [← hV]; exact Blk.new w 32 (actL 5 s n q p t on)
  obtain ⟨c0, c1, lb⟩ := JV.out.ptrs
  have m1 : V.cell? ⟨w.heap.size, 1, none⟩ = some (.int .i64 s) := BV.cell 1
  have m4 : V.cell? ⟨w.heap.size, 4, none⟩ = some (.string p) := BV.cell 4
  clear hV BV
  go_region_held3 (fun W' => W'.cell? ⟨bw, 0, none⟩ = some (.pointer (some ⟨bx, 0, none⟩)) ∧ W'.cell? ⟨w.heap.size, 1, none⟩ = some (.int .i64 s) ∧ W'.cell? ⟨w.heap.size, 4, none⟩ = some (.string p)) (first | assumption | go_keep)
    (first | (go_at_call 31; refine (JV.out.drew.callX HP.out).mono ?_; rintro e y1 ⟨rfl, j1, k1⟩; have S1 : y1.cell? ⟨bw, 0, none⟩ = some (.pointer (some ⟨bx, 0, none⟩)) ∧ y1.cell? ⟨w.heap.size, 1, none⟩ = some (.int .i64 s) ∧ y1.cell? ⟨w.heap.size, 4, none⟩ = some (.string p) := ⟨j1.ptrs.1, k1.cell m1 (fun f => f (Or.inr rfl)), k1.cell m4 (fun f => f (Or.inr rfl))⟩; have J1 := hid j1; have K1 := hid k1; clear j1 k1))
  have d1 : y1.cell? ⟨bw, 1, none⟩ = some (.pointer (some ⟨br, 0, none⟩)) := J1.out.ptrs.2.1
  have n1 : y1.cell? ⟨w.heap.size, 1, none⟩ = some (.int .i64 s) := S1.2.1
  have n4 : y1.cell? ⟨w.heap.size, 4, none⟩ = some (.string p) := S1.2.2
  have lb1 : bw < y1.heap.size := J1.out.ptrs.2.2
  clear S1 c0 c1 m1 m4 lb
  go_upto_region 23 with fail
  go_region_held3 (fun W' => W'.cell? ⟨bw, 1, none⟩ = some (.pointer (some ⟨br, 0, none⟩)) ∧ W'.cell? ⟨w.heap.size, 1, none⟩ = some (.int .i64 s) ∧ W'.cell? ⟨w.heap.size, 4, none⟩ = some (.string p)) (first | assumption | go_keep)
    (first | (go_at_call 32; refine (J1.out.drew.callR HR.out).mono ?_; rintro e y2 ⟨rfl, j2, k2⟩; have S2 : y2.cell? ⟨bw, 1, none⟩ = some (.pointer (some ⟨br, 0, none⟩)) ∧ y2.cell? ⟨w.heap.size, 1, none⟩ = some (.int .i64 s) ∧ y2.cell? ⟨w.heap.size, 4, none⟩ = some (.string p) := ⟨j2.ptrs.2.1, k2.cell n1 (fun f => f (Or.inr rfl)), k2.cell n4 (fun f => f (Or.inr rfl))⟩; have J2 := hid j2; have K2 := hid k2; clear j2 k2))
  clear S2
  go_wp2_with fail
  go_ret
  exact ⟨rfl, J2.out.weak (fun _ g => Or.inl g) HJ.out.g0, keptG KV.out K1.out K2.out⟩
set_option maxRecDepth 100000 in
set_option maxHeartbeats 1000000 in
theorem serve6 (w : World) (s n q : Int) (p t : ByteArray) (on : Bool) (A : ByteArray) (v e : Int) (h : J w G bw bx br X Y outs) (hp : PUni 33 [.int .i64 s, .string p, .int .i64 n] X (.tuple #[.string A, .int .i64 v, .int .i64 e]) X') (hr : RUni 34 [.int .i64 s, .string p, .int .i64 n] Y (.tuple #[.string A, .int .i64 v, .int .i64 e]) Y') :
    Calls Tryz.prog 15 #[.pointer (some ⟨bw, 0, none⟩), .agg #[.int .i64 6, .int .i64 s, .int .i64 n, .int .i64 q, .string p, .string t, .bool on]] w fun e w' => e = .returned (.bool true) ∧ J w' G bw bx br X' Y' outs ∧ Kept (fun k => ¬ G k) w w' := by
  have HJ := hid h
  have HP := hid hp
  have HR := hid hr
  have qA : (A.toList == A.toList) = true := beq_self_eq_true _
  clear h hp hr
  go_enter Tryz.func15, Tryz.ntmps15
  go_upto_region 25 with fail
  go_name_world V hV
  have JV : Hid (J V (fun k => G k ∨ k = w.heap.size) bw bx br X Y outs) := by
    show J V _ bw bx br X Y outs
    rw [← hV]; exact HJ.out.box _
  have KV : Hid (Kept (fun k => ¬ G k) w V) := by
    show Kept _ w V
    rw [← hV]; exact ((Low.refl _ w).alloc (Nat.le_refl _) _).keptF _
  have BV : Blk V w.heap.size 32 (actL 6 s n q p t on) := by rw [← hV]; exact Blk.new w 32 (actL 6 s n q p t on)
  obtain ⟨c0, c1, lb⟩ := JV.out.ptrs
  have m1 : V.cell? ⟨w.heap.size, 1, none⟩ = some (.int .i64 s) := BV.cell 1
  have m2 : V.cell? ⟨w.heap.size, 2, none⟩ = some (.int .i64 n) := BV.cell 2
  have m4 : V.cell? ⟨w.heap.size, 4, none⟩ = some (.string p) := BV.cell 4
  clear hV BV
  go_region_held3 (fun W' => W'.cell? ⟨bw, 0, none⟩ = some (.pointer (some ⟨bx, 0, none⟩)) ∧ W'.cell? ⟨w.heap.size, 1, none⟩ = some (.int .i64 s) ∧ W'.cell? ⟨w.heap.size, 2, none⟩ = some (.int .i64 n) ∧ W'.cell? ⟨w.heap.size, 4, none⟩ = some (.string p)) (first | assumption | go_keep)
    (first | (go_at_call 33; refine (JV.out.drew.callX HP.out).mono ?_; rintro e y1 ⟨rfl, j1, k1⟩; have S1 : y1.cell? ⟨bw, 0, none⟩ = some (.pointer (some ⟨bx, 0, none⟩)) ∧ y1.cell? ⟨w.heap.size, 1, none⟩ = some (.int .i64 s) ∧ y1.cell? ⟨w.heap.size, 2, none⟩ = some (.int .i64 n) ∧ y1.cell? ⟨w.heap.size, 4, none⟩ = some (.string p) := ⟨j1.ptrs.1, k1.cell m1 (fun f => f (Or.inr rfl)), k1.cell m2 (fun f => f (Or.inr rfl)), k1.cell m4 (fun f => f (Or.inr rfl))⟩; have J1 := hid j1; have K1 := hid k1; clear j1 k1))
  have d1 : y1.cell? ⟨bw, 1, none⟩ = some (.pointer (some ⟨br, 0, none⟩)) := J1.out.ptrs.2.1
  have n1 : y1.cell? ⟨w.heap.size, 1, none⟩ = some (.int .i64 s) := S1.2.1
  have n2 : y1.cell? ⟨w.heap.size, 2, none⟩ = some (.int .i64 n) := S1.2.2.1
  have n4 : y1.cell? ⟨w.heap.size, 4, none⟩ = some (.string p) := S1.2.2.2
  have lb1 : bw < y1.heap.size := J1.out.ptrs.2.2
  clear S1 c0 c1 m1 m2 m4 lb
  go_upto_region 26 with fail
  go_region_held3 (fun W' => W'.cell? ⟨bw, 1, none⟩ = some (.pointer (some ⟨br, 0, none⟩)) ∧ W'.cell? ⟨w.heap.size, 1, none⟩ = some (.int .i64 s) ∧ W'.cell? ⟨w.heap.size, 2, none⟩ = some (.int .i64 n) ∧ W'.cell? ⟨w.heap.size, 4, none⟩ = some (.string p)) (first | assumption | go_keep)
    (first | (go_at_call 34; refine (J1.out.drew.callR HR.out).mono ?_; rintro e y2 ⟨rfl, j2, k2⟩; have S2 : y2.cell? ⟨bw, 1, none⟩ = some (.pointer (some ⟨br, 0, none⟩)) ∧ y2.cell? ⟨w.heap.size, 1, none⟩ = some (.int .i64 s) ∧ y2.cell? ⟨w.heap.size, 2, none⟩ = some (.int .i64 n) ∧ y2.cell? ⟨w.heap.size, 4, none⟩ = some (.string p) := ⟨j2.ptrs.2.1, k2.cell n1 (fun f => f (Or.inr rfl)), k2.cell n2 (fun f => f (Or.inr rfl)), k2.cell n4 (fun f => f (Or.inr rfl))⟩; have J2 := hid j2; have K2 := hid k2; clear j2 k2))
  clear S2
  go_wp2_with fail
  go_ret
  exact ⟨rfl, J2.out.weak (fun _ g => Or.inl g) HJ.out.g0, keptG KV.out K1.out K2.out⟩
set_option maxRecDepth 100000 in
set_option maxHeartbeats 1000000 in
theorem keys7 (w : World) (s n q : Int) (p t : ByteArray) (on : Bool) (v : Int) (h : J w G bw bx br X Y outs) (hp : PUni 37 [.int .i64 n] X (.int .i64 v) X') (hr : RUni 38 [.int .i64 n] Y (.int .i64 v) Y') :
    Calls Tryz.prog 16 #[.pointer (some ⟨bw, 0, none⟩), .agg #[.int .i64 7, .int .i64 s, .int .i64 n, .int .i64 q, .string p, .string t, .bool on]] w fun e w' => e = .returned (.bool true) ∧ J w' G bw bx br X' Y' outs ∧ Kept (fun k => ¬ G k) w w' := by
  have HJ := hid h
  have HP := hid hp
  have HR := hid hr
  clear h hp hr
  go_enter Tryz.func16, Tryz.ntmps16
  go_upto_region 7 with fail
  go_name_world V hV
  have JV : Hid (J V (fun k => G k ∨ k = w.heap.size) bw bx br X Y outs) := by
    show J V _ bw bx br X Y outs
    rw [← hV]; exact HJ.out.box _
  have KV : Hid (Kept (fun k => ¬ G k) w V) := by
    show Kept _ w V
    rw [← hV]; exact ((Low.refl _ w).alloc (Nat.le_refl _) _).keptF _
  have BV : Blk V w.heap.size 32 (actL 7 s n q p t on) := by rw [← hV]; exact Blk.new w 32 (actL 7 s n q p t on)
  obtain ⟨c0, c1, lb⟩ := JV.out.ptrs
  have m2 : V.cell? ⟨w.heap.size, 2, none⟩ = some (.int .i64 n) := BV.cell 2
  clear hV BV
  go_region_held3 (fun W' => W'.cell? ⟨bw, 0, none⟩ = some (.pointer (some ⟨bx, 0, none⟩)) ∧ W'.cell? ⟨w.heap.size, 2, none⟩ = some (.int .i64 n)) (first | assumption | go_keep)
    (first | (go_at_call 37; refine (JV.out.drew.callX HP.out).mono ?_; rintro e y1 ⟨rfl, j1, k1⟩; have S1 : y1.cell? ⟨bw, 0, none⟩ = some (.pointer (some ⟨bx, 0, none⟩)) ∧ y1.cell? ⟨w.heap.size, 2, none⟩ = some (.int .i64 n) := ⟨j1.ptrs.1, k1.cell m2 (fun f => f (Or.inr rfl))⟩; have J1 := hid j1; have K1 := hid k1; clear j1 k1))
  have d1 : y1.cell? ⟨bw, 1, none⟩ = some (.pointer (some ⟨br, 0, none⟩)) := J1.out.ptrs.2.1
  have n2 : y1.cell? ⟨w.heap.size, 2, none⟩ = some (.int .i64 n) := S1.2
  have lb1 : bw < y1.heap.size := J1.out.ptrs.2.2
  clear S1 c0 c1 m2 lb
  go_upto_region 8 with fail
  go_region_held3 (fun W' => W'.cell? ⟨bw, 1, none⟩ = some (.pointer (some ⟨br, 0, none⟩)) ∧ W'.cell? ⟨w.heap.size, 2, none⟩ = some (.int .i64 n)) (first | assumption | go_keep)
    (first | (go_at_call 38; refine (J1.out.drew.callR HR.out).mono ?_; rintro e y2 ⟨rfl, j2, k2⟩; have S2 : y2.cell? ⟨bw, 1, none⟩ = some (.pointer (some ⟨br, 0, none⟩)) ∧ y2.cell? ⟨w.heap.size, 2, none⟩ = some (.int .i64 n) := ⟨j2.ptrs.2.1, k2.cell n2 (fun f => f (Or.inr rfl))⟩; have J2 := hid j2; have K2 := hid k2; clear j2 k2))
  clear S2
  go_wp2_with fail
  go_ret
  exact ⟨rfl, J2.out.weak (fun _ g => Or.inl g) HJ.out.g0, keptG KV.out K1.out K2.out⟩
end Go.Proofs.YtphapknfkbgapaaGreatDoor
namespace Go.Proofs.YtphapknfkbgapaaGreatDoor
open Go.RowKit

variable {w w' : World} {G : Nat → Prop} {bw bx br : Nat} {X X' : PS} {Y Y' : RS} {outs : List LOut}
theorem keptG2 {G' : Nat → Prop} {V y1 y2 : World} (k : Kept (fun q => ¬ G q) w V) (k1 : Kept (fun q => ¬ G' q) V.drew y1) (k2 : Kept (fun q => ¬ G' q) y1.drew y2) (hs : ∀ q, G q → G' q) : Kept (fun q => ¬ G q) w y2 :=
  (k.trans k1.of_drew (H := fun q => ¬ G q) (fun _ f => f) (fun q _ f g => f (hs q g))).trans k2.of_drew (fun _ f => f) (fun q _ f g => f (hs q g))
set_option maxRecDepth 100000 in
set_option maxHeartbeats 1000000 in
theorem serve3 (w : World) (s n q : Int) (p t : ByteArray) (on : Bool) (v : Int) (h : J w G bw bx br X Y outs) (hp : PUni 27 [.int .i64 s, .agg #[.int .i64 q, .string p, .string t, .int .i64 n]] X (.int .i64 v) X') (hr : RUni 28 [.int .i64 s, .agg #[.int .i64 q, .string p, .string t, .int .i64 n]] Y (.int .i64 v) Y') :
    Calls Tryz.prog 15 #[.pointer (some ⟨bw, 0, none⟩), .agg #[.int .i64 3, .int .i64 s, .int .i64 n, .int .i64 q, .string p, .string t, .bool on]] w fun e w' => e = .returned (.bool true) ∧ J w' G bw bx br X' Y' outs ∧ Kept (fun k => ¬ G k) w w' := by
  have HJ := hid h
  have HP := hid hp
  have HR := hid hr
  clear h hp hr
  go_enter Tryz.func15, Tryz.ntmps15
  go_upto_region 16 with fail
  go_name_world V hV
  have JV : Hid (J V (fun k => (G k ∨ k = w.heap.size) ∨ k = w.heap.size + 1) bw bx br X Y outs) := by
    show J V _ bw bx br X Y outs
    rw [← hV]
    have q := (HJ.out.box (.cells (actL 3 s n q p t on).toArray 32)).box (.cells (AOp.cells ⟨q, p, t, n⟩).toArray 80)
    rw [World.size_alloc] at q
    exact q
  have KV : Hid (Kept (fun k => ¬ G k) w V) := by
    show Kept _ w V
    rw [← hV]; exact (((Low.refl _ w).alloc (Nat.le_refl _) _).alloc (by simp) _).keptF _
  have BV : Blk V w.heap.size 32 (actL 3 s n q p t on) := by rw [← hV]; exact (Blk.new w 32 (actL 3 s n q p t on)).alloc _
  have BO : Blk V (w.heap.size + 1) 80 (AOp.cells ⟨q, p, t, n⟩) := by
    rw [← hV]
    have q := Blk.new (w.alloc (.cells (actL 3 s n q p t on).toArray 32)) 80 (AOp.cells ⟨q, p, t, n⟩)
    rw [World.size_alloc] at q
    exact q
  obtain ⟨c0, c1, lb⟩ := JV.out.ptrs
  have m1 : V.cell? ⟨w.heap.size, 1, none⟩ = some (.int .i64 s) := BV.cell 1
  have o0 : V.cell? ⟨w.heap.size + 1, 0, none⟩ = some (.int .i64 q) := BO.cell 0
  have o1 : V.cell? ⟨w.heap.size + 1, 1, none⟩ = some (.string p) := BO.cell 1
  have o2 : V.cell? ⟨w.heap.size + 1, 2, none⟩ = some (.string t) := BO.cell 2
  have o3 : V.cell? ⟨w.heap.size + 1, 3, none⟩ = some (.int .i64 n) := BO.cell 3
  clear hV BV BO
  go_region_held3 (fun W' => W'.cell? ⟨bw, 0, none⟩ = some (.pointer (some ⟨bx, 0, none⟩)) ∧ W'.cell? ⟨w.heap.size, 1, none⟩ = some (.int .i64 s) ∧ W'.cell? ⟨w.heap.size + 1, 0, none⟩ = some (.int .i64 q) ∧ W'.cell? ⟨w.heap.size + 1, 1, none⟩ = some (.string p) ∧ W'.cell? ⟨w.heap.size + 1, 2, none⟩ = some (.string t) ∧ W'.cell? ⟨w.heap.size + 1, 3, none⟩ = some (.int .i64 n)) (first | assumption | go_keep)
    (first | (go_at_call 27; refine (JV.out.drew.callX HP.out).mono ?_; rintro e y1 ⟨rfl, j1, k1⟩; have S1 : y1.cell? ⟨bw, 0, none⟩ = some (.pointer (some ⟨bx, 0, none⟩)) ∧ y1.cell? ⟨w.heap.size, 1, none⟩ = some (.int .i64 s) ∧ y1.cell? ⟨w.heap.size + 1, 0, none⟩ = some (.int .i64 q) ∧ y1.cell? ⟨w.heap.size + 1, 1, none⟩ = some (.string p) ∧ y1.cell? ⟨w.heap.size + 1, 2, none⟩ = some (.string t) ∧ y1.cell? ⟨w.heap.size + 1, 3, none⟩ = some (.int .i64 n) := ⟨j1.ptrs.1, k1.cell m1 (fun f => f (Or.inl (Or.inr rfl))), k1.cell o0 (fun f => f (Or.inr rfl)), k1.cell o1 (fun f => f (Or.inr rfl)), k1.cell o2 (fun f => f (Or.inr rfl)), k1.cell o3 (fun f => f (Or.inr rfl))⟩; have J1 := hid j1; have K1 := hid k1; clear j1 k1))
  obtain ⟨_, n1, p0, p1, p2, p3⟩ := S1
  have d1 : y1.cell? ⟨bw, 1, none⟩ = some (.pointer (some ⟨br, 0, none⟩)) := J1.out.ptrs.2.1
  have lb1 : bw < y1.heap.size := J1.out.ptrs.2.2
  clear c0 c1 m1 lb o0 o1 o2 o3
  go_upto_region 17 with fail
  go_region_held3 (fun W' => W'.cell? ⟨bw, 1, none⟩ = some (.pointer (some ⟨br, 0, none⟩)) ∧ W'.cell? ⟨w.heap.size, 1, none⟩ = some (.int .i64 s) ∧ W'.cell? ⟨w.heap.size + 1, 0, none⟩ = some (.int .i64 q) ∧ W'.cell? ⟨w.heap.size + 1, 1, none⟩ = some (.string p) ∧ W'.cell? ⟨w.heap.size + 1, 2, none⟩ = some (.string t) ∧ W'.cell? ⟨w.heap.size + 1, 3, none⟩ = some (.int .i64 n)) (first | assumption | go_keep)
    (first | (go_at_call 28; refine (J1.out.drew.callR HR.out).mono ?_; rintro e y2 ⟨rfl, j2, k2⟩; have S2 : y2.cell? ⟨bw, 1, none⟩ = some (.pointer (some ⟨br, 0, none⟩)) ∧ y2.cell? ⟨w.heap.size, 1, none⟩ = some (.int .i64 s) ∧ y2.cell? ⟨w.heap.size + 1, 0, none⟩ = some (.int .i64 q) ∧ y2.cell? ⟨w.heap.size + 1, 1, none⟩ = some (.string p) ∧ y2.cell? ⟨w.heap.size + 1, 2, none⟩ = some (.string t) ∧ y2.cell? ⟨w.heap.size + 1, 3, none⟩ = some (.int .i64 n) := ⟨j2.ptrs.2.1, k2.cell n1 (fun f => f (Or.inl (Or.inr rfl))), k2.cell p0 (fun f => f (Or.inr rfl)), k2.cell p1 (fun f => f (Or.inr rfl)), k2.cell p2 (fun f => f (Or.inr rfl)), k2.cell p3 (fun f => f (Or.inr rfl))⟩; have J2 := hid j2; have K2 := hid k2; clear j2 k2))
  clear S2
  go_wp2_with fail
  go_ret
  exact ⟨rfl, J2.out.weak (fun _ g => Or.inl (Or.inl g)) HJ.out.g0, keptG2 KV.out K1.out K2.out (fun _ g => Or.inl (Or.inl g))⟩
end Go.Proofs.YtphapknfkbgapaaGreatDoor
namespace Go.Proofs.YtphapknfkbgapaaGreatDoor
open Go.RowKit

variable {w w' : World} {G : Nat → Prop} {bw bx br : Nat} {X X' : PS} {Y Y' : RS} {outs : List LOut} {key : ByteArray} {n : Nat}
/-- All is as it should be: the two coffers are alike, and the lists are the caller's. -/
def Good (w : World) (G : Nat → Prop) (bw bx br : Nat) (key : ByteArray) (n : Nat) : Prop := ∃ X Y outs, J w G bw bx br X Y outs ∧ Rel X Y key ∧ Bd n Y ∧ outs.length ≤ 4 * n
theorem Good.low (h : Good w G bw bx br key n) (k : Low w.heap.size w w') : Good w' G bw bx br key n := by
  obtain ⟨X, Y, outs, j, r⟩ := h
  exact ⟨X, Y, outs, j.low k, r⟩
theorem Good.weak (h : Good w G bw bx br key n) {G' : Nat → Prop} (hs : ∀ k, G' k → G k) (g0 : G' 0) : Good w G' bw bx br key n := by
  obtain ⟨X, Y, outs, j, r⟩ := h
  exact ⟨X, Y, outs, j.weak hs g0, r⟩
theorem Good.box (h : Good w G bw bx br key n) (ob : Obj) : Good (w.alloc ob) (fun k => G k ∨ k = w.heap.size) bw bx br key n := by
  obtain ⟨X, Y, outs, j, r⟩ := h
  exact ⟨X, Y, outs, j.box ob, r⟩
theorem Good.gb (h : Good w G bw bx br key n) : ∀ k, G k → k < w.heap.size := by
  obtain ⟨X, Y, outs, j, r⟩ := h
  exact j.gb
theorem Good.g0 (h : Good w G bw bx br key n) : G 0 := by
  obtain ⟨X, Y, outs, j, r⟩ := h
  exact j.g0
theorem Good.up (h : Good w G bw bx br key n) : Good w G bw bx br key (n + 1) := by
  obtain ⟨X, Y, outs, j, r, b, o⟩ := h
  exact ⟨X, Y, outs, j, r, b.up, by omega⟩
theorem good_of {fx fr : Nat} {args : List Value} {v : Value} {g : Nat} {A : Array Value} (hb : outs.length ≤ 4 * n) (hp : Pair fx fr args X Y key n v)
    (h : ∀ X' Y', PUni fx args X v X' → RUni fr args Y v Y' → Calls Tryz.prog g A w fun e w' => e = .returned (.bool true) ∧ J w' G bw bx br X' Y' outs ∧ Kept (fun k => ¬ G k) w w') :
    Calls Tryz.prog g A w fun e w' => e = .returned (.bool true) ∧ Good w' G bw bx br key (n + 1) ∧ Kept (fun k => ¬ G k) w w' := by
  obtain ⟨X', Y', h1, h2, h3, h4⟩ := hp
  exact (h X' Y' h1 h2).mono fun _ _ ⟨e, j, k⟩ => ⟨e, ⟨X', Y', outs, j, h3, h4, by omega⟩, k⟩
theorem gserve1 (w : World) (s m q : Int) (p t : ByteArray) (on : Bool) (h : Good w G bw bx br key n) :
    Calls Tryz.prog 15 #[.pointer (some ⟨bw, 0, none⟩), .agg #[.int .i64 1, .int .i64 s, .int .i64 m, .int .i64 q, .string p, .string t, .bool on]] w fun e w' => e = .returned (.bool true) ∧ Good w' G bw bx br key (n + 1) ∧ Kept (fun k => ¬ G k) w w' := by
  obtain ⟨X, Y, outs, j, r, b, o⟩ := h
  obtain ⟨v, hp⟩ := refresh_pair r b s
  exact good_of o hp (fun X' Y' h1 h2 => serve1 w s m q p t on v j h1 h2)
theorem gserve2 (w : World) (s m q : Int) (p t : ByteArray) (on : Bool) (h : Good w G bw bx br key n) :
    Calls Tryz.prog 15 #[.pointer (some ⟨bw, 0, none⟩), .agg #[.int .i64 2, .int .i64 s, .int .i64 m, .int .i64 q, .string p, .string t, .bool on]] w fun e w' => e = .returned (.bool true) ∧ Good w' G bw bx br key (n + 1) ∧ Kept (fun k => ¬ G k) w w' := by
  obtain ⟨X, Y, outs, j, r, b, o⟩ := h
  obtain ⟨v, hp⟩ := crash_pair r b s
  exact good_of o hp (fun X' Y' h1 h2 => serve2 w s m q p t on v j h1 h2)
theorem gserve3 (w : World) (s m q : Int) (p t : ByteArray) (on : Bool) (h : Good w G bw bx br key n) (hn : n ≤ 10000000) (hp : p.size ≤ maxLen) (hq : t.size ≤ maxLen) :
    Calls Tryz.prog 15 #[.pointer (some ⟨bw, 0, none⟩), .agg #[.int .i64 3, .int .i64 s, .int .i64 m, .int .i64 q, .string p, .string t, .bool on]] w fun e w' => e = .returned (.bool true) ∧ Good w' G bw bx br key (n + 1) ∧ Kept (fun k => ¬ G k) w w' := by
  obtain ⟨X, Y, outs, j, r, b, o⟩ := h
  obtain ⟨v, hpr⟩ := begin_pair r b hn s ⟨q, p, t, m⟩ hp hq
  exact good_of o hpr (fun X' Y' h1 h2 => serve3 w s m q p t on v j h1 h2)
theorem gserve4 (w : World) (s m q : Int) (p t : ByteArray) (on : Bool) (h : Good w G bw bx br key n) (hn : n ≤ 10000000) :
    Calls Tryz.prog 15 #[.pointer (some ⟨bw, 0, none⟩), .agg #[.int .i64 4, .int .i64 s, .int .i64 m, .int .i64 q, .string p, .string t, .bool on]] w fun e w' => e = .returned (.bool true) ∧ Good w' G bw bx br key (n + 1) ∧ Kept (fun k => ¬ G k) w w' := by
  obtain ⟨X, Y, outs, j, r, b, o⟩ := h
  obtain ⟨v, e, hp⟩ := commit_pair r b hn s
  exact good_of o hp (fun X' Y' h1 h2 => serve4 w s m q p t on v e j h1 h2)
theorem gserve5 (w : World) (s m q : Int) (p t : ByteArray) (on : Bool) (h : Good w G bw bx br key n) (hn : n ≤ 10000000) :
    Calls Tryz.prog 15 #[.pointer (some ⟨bw, 0, none⟩), .agg #[.int .i64 5, .int .i64 s, .int .i64 m, .int .i64 q, .string p, .string t, .bool on]] w fun e w' => e = .returned (.bool true) ∧ Good w' G bw bx br key (n + 1) ∧ Kept (fun k => ¬ G k) w w' := by
  obtain ⟨X, Y, outs, j, r, b, o⟩ := h
  obtain ⟨A, v, e, hp⟩ := get_pair r b hn s p
  exact good_of o hp (fun X' Y' h1 h2 => serve5 w s m q p t on A v e j h1 h2)
theorem gserve6 (w : World) (s m q : Int) (p t : ByteArray) (on : Bool) (h : Good w G bw bx br key n) (hn : n ≤ 10000000) :
    Calls Tryz.prog 15 #[.pointer (some ⟨bw, 0, none⟩), .agg #[.int .i64 6, .int .i64 s, .int .i64 m, .int .i64 q, .string p, .string t, .bool on]] w fun e w' => e = .returned (.bool true) ∧ Good w' G bw bx br key (n + 1) ∧ Kept (fun k => ¬ G k) w w' := by
  obtain ⟨X, Y, outs, j, r, b, o⟩ := h
  obtain ⟨A, v, e, hp⟩ := getAt_pair r b hn s p m
  exact good_of o hp (fun X' Y' h1 h2 => serve6 w s m q p t on A v e j h1 h2)
theorem gkeys7 (w : World) (s m q : Int) (p t : ByteArray) (on : Bool) (h : Good w G bw bx br key n) (hn : n ≤ 10000000) :
    Calls Tryz.prog 16 #[.pointer (some ⟨bw, 0, none⟩), .agg #[.int .i64 7, .int .i64 s, .int .i64 m, .int .i64 q, .string p, .string t, .bool on]] w fun e w' => e = .returned (.bool true) ∧ Good w' G bw bx br key (n + 1) ∧ Kept (fun k => ¬ G k) w w' := by
  obtain ⟨X, Y, outs, j, r, b, o⟩ := h
  obtain ⟨v, hp⟩ := compact_pair r b hn m
  exact good_of o hp (fun X' Y' h1 h2 => keys7 w s m q p t on v j h1 h2)
end Go.Proofs.YtphapknfkbgapaaGreatDoor
