import Derived.Test.YtphapknfkbgapabDoorPlCToPlM
import Derived.Test.YtphapknfkbgapabDoorRefBToPH
import Derived.Test.YtphapknfkbgapabDoorPGToPW
import Derived.Test.YtphapknfkbgapabDoorPOToRelE
import Derived.Test.YtphapknfkbgapabDoorPMToPF
namespace Go.Proofs.YtphapknfkbgapabDoor
open Go.RowKit

variable {N : ByteArray → Prop} {X : PS} {D : PD} {n S : Nat} {R : Int}

/-- The player's knowledge of the program's coffer: there is a coffer of the document's that is alike, and of which it holds. -/
def Kn (N : ByteArray → Prop) (n : Nat) (X : PS) (D : PD) (S : Nat) (R : Int) : Prop := ∃ (Y : RS) (m : Nat), Rel2 m X Y ∧ Know N Y D ∧ Y.seen.length = S ∧ Y.room = R ∧ Slack Y m n ∧ (D.seen.map Ent.rev).Nodup
theorem Kn.up (h : Kn N n X D S R) : Kn N (n + 1) X D S R := by
  obtain ⟨Y, mm, h, k, s, r, sl, od⟩ := h
  exact ⟨Y, mm, h, k, s, r, sl.up (by omega), od⟩
theorem Kn.mono {m : Nat} (h : Kn N n X D S R) (hm : n ≤ m) : Kn N m X D S R := by
  obtain ⟨Y, mm, h, k, s, r, sl, od⟩ := h
  exact ⟨Y, mm, h, k, s, r, sl.up hm, od⟩
theorem Rel2.srvAt {Y : RS} (h : Rel2 n X Y) {i : Nat} (hi : i < Y.seen.length) : ∃ (p : PSrv) (sn : Int) (u : RUnd), X.servers[i]? = some p ∧ At Y i sn u ∧ Same2 Y.keys Y.epoch p sn u := by
  obtain ⟨p, hp⟩ : ∃ p, X.servers[i]? = some p := ⟨_, List.getElem?_eq_getElem (by rw [h.len.1]; exact hi)⟩
  obtain ⟨sn, u, h1, h2, h3⟩ := h.srv _ _ hp
  exact ⟨p, sn, u, hp, ⟨h1, h2⟩, h3⟩
theorem kn_refresh (h : Kn N n X D S R) {s : Nat} (hs : s < S) : ∃ X', PUni 14 [.int .i64 (s : Int)] X (.int .i64 0) X' ∧ Kn N (n + 1) X' D S R := by
  obtain ⟨Y, mm, h, k, rfl, r, sl, od⟩ := h
  obtain ⟨p, sn, u, hp, ha, hS⟩ := h.srvAt hs
  refine ⟨X.refresh s p, p_kept (fun w F b hX _ _ => pRefresh_yes w s p hX hp), Y.refresh (s : Int), mm + 1, rel_refresh h hp ha hS hs, know_refresh k h (s : Int), ?_, r, sl.step (Nat.le_refl _), od⟩
  show (Y.seen.set _ _).length = _
  simp
theorem kn_crash (h : Kn N n X D S R) {s : Nat} (hs : s < S) : ∃ X', PUni 18 [.int .i64 (s : Int)] X (.int .i64 0) X' ∧ Kn N (n + 1) X' { D with ops := D.ops.set s Und2.zero } S R := by
  obtain ⟨Y, mm, h, k, rfl, r, sl, od⟩ := h
  obtain ⟨p, sn, u, hp, ha, hS⟩ := h.srvAt hs
  refine ⟨X.crash s, p_kept (fun w F b hX _ _ => pCrash_yes w s p hX hp), Y.crash (s : Int), mm + 1, rel_crash h hs, know_crash k s, ?_, r, sl.step (Nat.le_refl _), od⟩
  show (Y.seen.set _ _).length = _
  simp
/-- What servers have seen stays. -/
def SeenKept (X X' : PS) : Prop := ∀ (t : Nat) (p : PSrv), X.servers[t]? = some p → ∃ p', X'.servers[t]? = some p' ∧ p'.seen = p.seen
theorem SeenKept.refl (X : PS) : SeenKept X X := fun _ p h => ⟨p, h, rfl⟩
theorem seenKept_set {X X' : PS} {s : Nat} {p q : PSrv} (hp : X.servers[s]? = some p) (hX : X'.servers = X.servers.set s q) (hq : q.seen = p.seen) : SeenKept X X' := fun t p0 h => by
  rw [hX]
  by_cases e : s = t
  · subst e
    obtain rfl := Option.some.inj (hp.symm.trans h)
    exact ⟨q, List.getElem?_set_self (List.getElem?_eq_some_iff.1 h).1, hq⟩
  · exact ⟨p0, by rw [List.getElem?_set_ne e]; exact h, rfl⟩
/-- Server s has seen all, and has nothing under way. -/
def FreshAt (X : PS) (s : Nat) : Prop := ∃ p, X.servers[s]? = some p ∧ p.busy = false ∧ p.seen = X.epoch
theorem kn_begin (h : Kn N n X D S R) (hn : n ≤ 50000000000000) {s : Nat} (hs : s < S) (o : AOp) (d : Dd) (hp : o.path.size ≤ maxLen) (hq : o.plain.size ≤ maxLen) (ho : properOf o = true) (hpath : o.path = d.path) (hN : N d.path) (hd1 : (o.kind == 1) = true → d.gone = false ∧ d.text = o.plain) (hd2 : (o.kind == 1) = false → d.gone = true ∧ d.text = ⟨#[]⟩) :
    ∃ (e : Int) (X' : PS), PUni 36 [.int .i64 (s : Int), .agg #[.int .i64 o.kind, .string o.path, .string o.plain, .int .i64 o.rev]] X (.int .i64 e) X' ∧ SeenKept X X' ∧ (FreshAt X s → e = 0 ∧ ∃ p', X'.servers[s]? = some p' ∧ p'.busy = true ∧ p'.epoch = X'.epoch ∧ p'.rev = o.rev ∧ p'.e.gone = d.gone) ∧
      ∃ v, D.ops[s]? = some v ∧ ((e = 0 ∧ v.on = false ∧ Kn N (n + 1) X' { D with ops := D.ops.set s ⟨true, d⟩ } S R) ∨ ((e = 6 ∨ e = 14 ∨ (e = 5 ∧ v.on = true)) ∧ Kn N (n + 1) X' D S R)) := by
  obtain ⟨Y, mm, h, k, rfl, r, sl, od⟩ := h
  obtain ⟨p, sn, u, hpp, ha, hS⟩ := h.srvAt hs
  obtain ⟨v, hv, hvo, _⟩ := k.ops s u ha.op
  have hol : s < D.ops.length := (List.getElem?_eq_some_iff.1 hv).1
  obtain ⟨o1, o2, o3, o4⟩ := proper_parts ho
  have same : Kn N (n + 1) X D Y.seen.length R := ⟨Y, mm, h, k, rfl, r, sl.up (by omega), od⟩
  have hmn := sl.le
  cases hbz : p.busy
  · have hu : u.on = false := by rw [← hS.busy]; exact hbz
    cases hzn : (sn == 0)
    · have hz : (p.seen == 0) = false := by rw [hS.seen]; exact hzn
      have h1n : 1 ≤ sn := by have := hS.sn.1; have : sn ≠ 0 := by simpa using hzn
                              omega
      cases hk : (o.kind == 1)
      · obtain ⟨g1, g2⟩ := hd2 hk
        have q := (h.put hs ⟨p.seen, true, p.seen, o.rev, delEnt o.path⟩ sn ⟨true, delEnt o.path, sn, o.rev⟩ ⟨hS.seen, hS.sn, rfl, fun _ => ⟨hS.seen, rfl, rfl, o2, ⟨h1n, hS.sn.2⟩, o1, fun e => by cases e⟩⟩).up
        rw [set_same ha.seen] at q
        have kk := know_setOp k s ⟨true, delEnt o.path, sn, o.rev⟩ ⟨true, d⟩ Y.draws hol (Int.le_refl _) rfl (fun _ => ⟨⟨hpath, g1.symm, by rw [g2]; exact Nat.zero_le _, fun e => by cases e⟩, hN⟩) (fun _ e => by cases e)
        refine ⟨0, _, p_kept (fun w F b hX _ _ => pBegin_del w s p o hX hpp hbz hz hp hq ho (o4 hk)), seenKept_set hpp rfl rfl, fun hf => ⟨rfl, ⟨p.seen, true, p.seen, o.rev, delEnt o.path⟩, List.getElem?_set_self (List.getElem?_eq_some_iff.1 hpp).1, rfl, ?_, rfl, g1.symm⟩, v, hv, Or.inl ⟨rfl, by rw [hvo, hu], _, mm + 1, q, kk, rfl, r, sl.step (Nat.le_refl _), od⟩⟩
        obtain ⟨p2, f1, _, f3⟩ := hf
        obtain rfl := Option.some.inj (f1.symm.trans hpp)
        exact f3
      · obtain ⟨g1, g2⟩ := hd1 hk
        obtain ⟨j, pk, K, q0, q1, q2, q3, q4, _, _⟩ := h.keys.writing h1n
        have hw : writerOf X.keys p.seen = (j : Int) + 1 := by rw [hS.seen, h.keys.writer h1n, q0]
        have hl6 : X.keys.length ≤ 6 := by rw [h.keys.len]; exact h.keys.few.2
        cases hg : K.gone
        · obtain ⟨d0, d1, d2⟩ := h.draws
          have ht := q3.text hg
          have h2 : Rel2 (mm + 1) { X with draws := X.draws + 1 } { Y with draws := Y.draws + 1 } := ⟨h.keys, h.live, h.ep, h.write, h.turn, h.room, h.rooms, h.rev, h.floor, h.floor0, ⟨by show X.draws + 1 = Y.draws + 1; rw [d0], by show 0 ≤ Y.draws + 1; omega, by show Y.draws + 1 ≤ ((mm + 1 : Nat) : Int); omega⟩, h.len, h.srv, h.ent, h.few, h.revs, h.eok, h.up.all, h.gated, h.pods⟩
          have hsz := sealOf_size K.text (nonceTo (Y.draws + 1) 12) o.path o.plain
          have hpl := o3 hk
          have hok : EntOk (closedOf K.text ((j : Int) + 1) o.path o.plain (Y.draws + 1)) := ⟨o1, ⟨by show 0 ≤ Y.draws + 1; omega, by show Y.draws + 1 ≤ _; omega⟩, ⟨by show 8 ≤ (sealOf K.text (nonceTo (Y.draws + 1) 12) o.path o.plain).size; omega, by show (sealOf K.text (nonceTo (Y.draws + 1) 12) o.path o.plain).size ≤ _; omega⟩⟩
          have q := h2.put hs ⟨p.seen, true, p.seen, o.rev, closedOf pk.text ((j : Int) + 1) o.path o.plain (X.draws + 1)⟩ sn ⟨true, closedOf K.text ((j : Int) + 1) o.path o.plain (Y.draws + 1), sn, o.rev⟩ ⟨hS.seen, hS.sn, rfl, fun _ => ⟨hS.seen, rfl, by rw [d0, ht], o2, ⟨h1n, hS.sn.2⟩, o1, fun _ => ⟨hok, q0.symm⟩⟩⟩
          replace q : Rel2 (mm + 1) _ { Y with draws := Y.draws + 1, seen := Y.seen.set s sn, ops := Y.ops.set s ⟨true, closedOf K.text ((j : Int) + 1) o.path o.plain (Y.draws + 1), sn, o.rev⟩ } := q
          rw [set_same ha.seen] at q
          have kk := know_setOp k s ⟨true, closedOf K.text ((j : Int) + 1) o.path o.plain (Y.draws + 1), sn, o.rev⟩ ⟨true, d⟩ (Y.draws + 1) hol (by omega) rfl (fun _ => ⟨⟨hpath, g1.symm, by rw [g2]; exact hpl, fun _ => ⟨by show 1 ≤ Y.draws + 1; omega, j, K, rfl, q2, by omega, by rw [g2]; rfl⟩⟩, hN⟩) (fun _ _ => ⟨by show Y.draws < Y.draws + 1; omega, by show 1 ≤ Y.draws + 1; omega, Int.le_refl _⟩)
          refine ⟨0, _, p_kept (fun w F b hX hF h1 => pBegin_put w s p o pk j hX hpp hbz hz hp hq ho hk hw q1 hl6 (by rw [ht]; exact q3.size) ⟨by omega, by omega⟩ hF h1), seenKept_set hpp rfl rfl, fun hf => ⟨rfl, ⟨p.seen, true, p.seen, o.rev, closedOf pk.text ((j : Int) + 1) o.path o.plain (X.draws + 1)⟩, List.getElem?_set_self (List.getElem?_eq_some_iff.1 hpp).1, rfl, ?_, rfl, g1.symm⟩, v, hv, Or.inl ⟨rfl, by rw [hvo, hu], _, mm + 1, q, kk, rfl, r, sl.step (Nat.le_refl _), od⟩⟩
          obtain ⟨p2, f1, _, f3⟩ := hf
          obtain rfl := Option.some.inj (f1.symm.trans hpp)
          exact f3
        · refine ⟨14, X, p_low (fun w F b hX _ _ => pBegin_gone w s p o pk j hX hpp hbz hz hp hq ho hk hw q1 hl6 (q3.dead hg)), SeenKept.refl X, fun hf => ?_, v, hv, Or.inr ⟨Or.inr (Or.inl rfl), same⟩⟩
          exfalso
          obtain ⟨p2, f1, _, f3⟩ := hf
          obtain rfl := Option.some.inj (f1.symm.trans hpp)
          rw [hS.seen, h.ep.1] at f3
          rw [f3] at q0
          rw [h.live j K q0 q2] at hg
          cases hg
    · have hz : (p.seen == 0) = true := by rw [hS.seen]; exact hzn
      refine ⟨6, X, p_low (fun w F b hX _ _ => pBegin_blind w s p o hX hpp hbz hz), SeenKept.refl X, fun hf => ?_, v, hv, Or.inr ⟨Or.inl rfl, same⟩⟩
      exfalso
      obtain ⟨p2, f1, _, f3⟩ := hf
      obtain rfl := Option.some.inj (f1.symm.trans hpp)
      have : p2.seen = 0 := by simpa using hz
      have := h.ep
      omega
  · have hu : u.on = true := by rw [← hS.busy]; exact hbz
    refine ⟨5, X, p_low (fun w F b hX _ _ => pBegin_busy w s p o hX hpp hbz), SeenKept.refl X, fun hf => ?_, v, hv, Or.inr ⟨Or.inr (Or.inr ⟨rfl, by rw [hvo, hu]⟩), same⟩⟩
    obtain ⟨p2, f1, f2, _⟩ := hf
    obtain rfl := Option.some.inj (f1.symm.trans hpp)
    rw [hbz] at f2
    cases f2
theorem know_off {Y : RS} (k : Know N Y D) {s : Nat} {u : RUnd} (hu : Y.ops[s]? = some u) (ho : u.on = false) : Know N Y { D with ops := D.ops.set s Und2.zero } := by
  refine ⟨k.all, k.out, k.floor, k.floor1, k.names, k.keys, k.dest, by simp [k.opl], fun t v hv => ?_, k.draws, k.came, k.told, k.pods, k.left⟩
  obtain ⟨x, a, b, c⟩ := k.ops t v hv
  by_cases e : s = t
  · subst e
    obtain rfl := Option.some.inj (hu.symm.trans hv)
    exact ⟨Und2.zero, List.getElem?_set_self (List.getElem?_eq_some_iff.1 a).1, ho.symm, fun q => by rw [ho] at q; cases q⟩
  · exact ⟨x, by show (D.ops.set s _)[t]? = _; rw [List.getElem?_set_ne e]; exact a, b, c⟩
theorem commitErr_cases (Y : RS) (u : RUnd) : commitErr Y u = 0 ∨ commitErr Y u = 9 ∨ commitErr Y u = 10 ∨ commitErr Y u = 12 ∨ commitErr Y u = 11 := by
  unfold commitErr
  split
  · exact Or.inr (Or.inl rfl)
  · split
    · exact Or.inr (Or.inr (Or.inl rfl))
    · split
      · exact Or.inr (Or.inr (Or.inr (Or.inl rfl)))
      · split
        · exact Or.inr (Or.inr (Or.inr (Or.inr rfl)))
        · exact Or.inl rfl
theorem kn_commit (h : Kn N n X D S R) (hn : n ≤ 50000000000000) {s : Nat} (hs : s < S) :
    ∃ (m e : Int) (X' : PS), PUni 37 [.int .i64 (s : Int)] X (.tuple #[.int .i64 m, .int .i64 e]) X' ∧ SeenKept X X' ∧ ((∃ p, X.servers[s]? = some p ∧ p.busy = true ∧ p.epoch = X.epoch ∧ p.rev = -1 ∧ p.e.gone = false ∧ (X.entries.length : Int) < X.room) → e = 0) ∧
      ∃ v, D.ops[s]? = some v ∧ ((v.on = false ∧ m = 0 ∧ e = 8 ∧ Kn N (n + 1) X' { D with ops := D.ops.set s Und2.zero } S R) ∨ (v.on = true ∧ m = (D.deeds.length : Int) + 1 ∧ e = 0 ∧ Kn N (n + 1) X' { D with ops := D.ops.set s Und2.zero, deeds := D.deeds ++ [v.deed] } S R) ∨ (v.on = true ∧ m = 0 ∧ (e = 9 ∨ e = 10 ∨ e = 12 ∨ e = 11) ∧ Kn N (n + 1) X' { D with ops := D.ops.set s Und2.zero } S R)) := by
  obtain ⟨Y, mm, h, k, rfl, r, sl, od⟩ := h
  have hmn := sl.le
  obtain ⟨p, sn, u, hp, ha, hS⟩ := h.srvAt hs
  obtain ⟨v, hv, hvo, hva⟩ := k.ops s u ha.op
  cases hbz : p.busy
  · have hu : u.on = false := by rw [← hS.busy]; exact hbz
    refine ⟨0, 8, X, p_same (fun w F b hX => pCommit_idle w s p hX hp hbz), SeenKept.refl X, fun hf => ?_, v, hv, Or.inl ⟨by rw [hvo, hu], rfl, rfl, Y, mm, h, know_off k ha.op hu, rfl, r, sl.up (by omega), od⟩⟩
    obtain ⟨p2, f1, f2, _⟩ := hf
    obtain rfl := Option.some.inj (f1.symm.trans hp)
    rw [hbz] at f2
    cases f2
  · have hu : u.on = true := by rw [← hS.busy]; exact hbz
    have hA := h.all
    obtain ⟨j, pk, K, w0, w1, w2, w3, w4, w5, w6, w7, w8⟩ := h.writer
    have hE := commit_same2 h w4 w7 w8 hS hbz
    have hR := rel_commit h ha hS hs hbz w1 w3 w4 w6 w7 w8
    have hx1 := fun (w : World) (F : Nat → Prop) (b : Nat) (hX : XIn w F b X) => pCommit_any w s p pk j hX hp hbz w0 w2 (by rw [h.keys.len]; exact h.keys.few.2) (by have := h.few; have := h.rooms; omega) (by rw [h.rev]; omega)
    have eRev : X.commitRev pk.wrote p = Y.commitRev u := by unfold PS.commitRev RS.commitRev; rw [hE, h.rev]
    obtain ⟨e1, e2, e3, e4, e5, e6, e7⟩ := hS.op hbz
    refine ⟨Y.commitRev u, commitErr Y u, X.commit pk.wrote s p, p_grow (fun w F b hX => by
      have := hx1 w F b hX
      rw [eRev, hE] at this
      exact this), seenKept_set (q := p.rest) hp (by unfold PS.commit; split <;> rfl) rfl, fun hf => ?_, v, hv, Or.inr ?_⟩
    · obtain ⟨p2, f1, f2, f3, f4, f5, f6⟩ := hf
      obtain rfl := Option.some.inj (f1.symm.trans hp)
      have hwr := h.keys.wr j K w3
      have c1 : decide (u.epoch < promOf Y.keys) = false := by
        rw [← e1, f3, h.ep.1, w7]
        have := h.ep.2.1
        simp
        split <;> omega
      have c2 : conflictOf (lastOf Y.all u.e.path) u.want = false := by
        rw [← e2, f4]
        rfl
      have c3 : u.e.gone = false := by rw [← e3]; exact f5
      have c4 : fullOf Y = false := by
        unfold fullOf
        rw [← h.ent, ← h.room]
        simp
        omega
      unfold commitErr
      rw [c1, c2, c3, c4]
      rfl
    · have hseen : (Y.commit s u).seen.length = Y.seen.length := by unfold RS.commit; split <;> rfl
      have hroom : (Y.commit s u).room = R := by rw [← r]; unfold RS.commit; split <;> rfl
      have hpot : pot (Y.commit s u) ≤ pot Y := pot_commit Y s u (fun hc0 hg => by
        have hstale : promOf Y.keys ≤ u.epoch := by
          by_cases hz : u.epoch < promOf Y.keys
          · exfalso
            revert hc0
            unfold commitErr
            rw [decide_eq_true hz, if_pos rfl]
            intro z; cases z
          · omega
        exact ((e7 hg).2).trans (h.keys.still e5.1 e5.2 hstale))
      rcases commitErr_cases Y u with c | c
      · refine Or.inl ⟨by rw [hvo, hu], ?_, c, Y.commit s u, mm + 1, hR, know_commit k ha.op hv hu c, hseen, hroom, sl.step hpot, od⟩
        unfold RS.commitRev
        rw [c, k.deeds]
        rfl
      · have hne : (commitErr Y u == 0) = false := by
          rw [beq_eq_false_iff_ne]
          rcases c with c | c | c | c <;> rw [c] <;> decide
        refine Or.inr ⟨by rw [hvo, hu], ?_, c, Y.commit s u, mm + 1, hR, ?_, hseen, hroom, sl.step hpot, od⟩
        · unfold RS.commitRev
          rw [hne]
          rfl
        · have q := know_end k s
          unfold RS.commit
          rw [hne]
          exact q
end Go.Proofs.YtphapknfkbgapabDoor
namespace Go.Proofs.YtphapknfkbgapabDoor
open Go.RowKit

variable {N : ByteArray → Prop} {X : PS} {D : PD} {n S : Nat} {R : Int}

def blindV : Value := .tuple #[.string ⟨#[]⟩, .int .i64 0, .int .i64 6]
theorem kn_get (h : Kn N n X D S R) {s : Nat} (hs : s < S) (name : ByteArray) {r : Nat} {d : Dd} (hN : NewD D.deeds name r d) :
    ∃ bl : Bool, PUni 11 [.int .i64 (s : Int), .string name] X (if bl then blindV else tellV r d) X ∧ (bl = true → ∃ p, X.servers[s]? = some p ∧ p.seen = 0) := by
  obtain ⟨Y, mm, h, k, rfl, r0, sl, od⟩ := h
  obtain ⟨p, sn, u, hp, ha, hS⟩ := h.srvAt hs
  exact ⟨sn == 0, get_tells h k hp ha hS name hN, fun q => ⟨p, hp, by rw [hS.seen]; simpa using q⟩⟩
theorem kn_getAt (h : Kn N n X D S R) {s : Nat} (hs : s < S) (name : ByteArray) (rev : Nat) {r : Nat} {d : Dd} (hN : NewD (D.deeds.take rev) name r d) :
    ∃ bl : Bool, PUni 39 [.int .i64 (s : Int), .string name, .int .i64 (rev : Int)] X (if bl then blindV else if decide ((rev : Int) < D.floor) || decide ((D.deeds.length : Int) < (rev : Int)) then .tuple #[.string ⟨#[]⟩, .int .i64 0, .int .i64 15] else tellV r d) X := by
  obtain ⟨Y, mm, h, k, rfl, r0, sl, od⟩ := h
  obtain ⟨p, sn, u, hp, ha, hS⟩ := h.srvAt hs
  exact ⟨sn == 0, getAt_tells h k hp ha hS name rev hN⟩
theorem kn_compact (h : Kn N n X D S R) (r : Nat) :
    (D.floor < (r : Int) ∧ r ≤ D.deeds.length → PUni 40 [.int .i64 (r : Int)] X (.int .i64 0) (X.compact (r : Int)) ∧ Kn N (n + 1) (X.compact (r : Int)) { D with floor := (r : Int) } S R) ∧
    (¬ (D.floor < (r : Int) ∧ r ≤ D.deeds.length) → PUni 40 [.int .i64 (r : Int)] X (.int .i64 15) X) := by
  obtain ⟨Y, mm, h, k, rfl, r0, sl, od⟩ := h
  have hent : X.entries.length ≤ 1000 := by have := h.few; have := h.rooms; omega
  constructor
  · rintro ⟨c1, c2⟩
    rw [k.floor] at c1
    rw [k.deeds] at c2
    have hb : pBadCut X (r : Int) = false := by
      unfold pBadCut
      rw [h.floor, h.rev, Bool.or_eq_false_iff]
      exact ⟨by rw [decide_eq_false_iff_not]; omega, by rw [decide_eq_false_iff_not]; omega⟩
    exact ⟨p_grow (fun w F b hX => pCompact_yes w r hX hb hent), Y.compact r, mm + 1, rel_compact h r, know_compact k h r c1 c2, rfl, r0, sl.step (pot_of h (rel_compact h r) rfl (allTo_ents _ _ _)), od⟩
  · intro hc
    have hb : pBadCut X (r : Int) = true := by
      unfold pBadCut
      rw [h.floor, h.rev, Bool.or_eq_true]
      by_cases c1 : Y.floor < (r : Int)
      · right
        rw [decide_eq_true_eq]
        by_cases c2 : r ≤ D.deeds.length
        · exact absurd ⟨by rw [k.floor]; exact c1, c2⟩ hc
        · rw [k.deeds] at c2
          omega
      · left
        rw [decide_eq_true_eq]
        omega
    exact p_same (fun w F b hX => pCompact_no w r hX hb)
theorem Kn.keys (h : Kn N n X D S R) : X.keys.length = D.keys.length ∧ 1 ≤ X.keys.length ∧ X.keys.length ≤ 6 := by
  obtain ⟨Y, mm, h, k, _, _⟩ := h
  have := h.keys.few
  rw [k.keys, List.length_map, h.keys.len]
  exact ⟨rfl, this.1, this.2⟩
theorem kn_stage (h : Kn N n X D S R) (t : ByteArray) (ht : t.size = 48) :
    (X.keys.length = 6 → PUni 60 [.string t] X (.tuple #[.int .i64 0, .int .i64 16]) X) ∧
    (X.keys.length < 6 → X.turn ≠ 0 → PUni 60 [.string t] X (.tuple #[.int .i64 0, .int .i64 17]) X) ∧
    (X.keys.length < 6 → X.turn = 0 → PUni 60 [.string t] X (.tuple #[.int .i64 ((D.keys.length : Int) + 1), .int .i64 0]) (X.stage t) ∧ Kn N (n + 1) (X.stage t) { D with keys := D.keys ++ [t] } S R) := by
  have hkl := h.keys
  obtain ⟨Y, mm, h, k, rfl, r0, sl, od⟩ := h
  have hP := pstage_holds h t
  refine ⟨hP.many ht, hP.turn ht, fun h1 h2 => ⟨?_, Y.stage t, mm + 1, rel_stage h t ht (by rw [← h.keys.len]; exact h1) (by rw [← h.turn]; exact h2), know_stage k t h.left1, rfl, r0, sl.step (pot_of h (rel_stage h t ht (by rw [← h.keys.len]; exact h1) (by rw [← h.turn]; exact h2)) rfl rfl), od⟩⟩
  have := hP.yes ht h1 h2
  rw [hkl.1] at this
  exact this
theorem kn_promote (h : Kn N n X D S R) :
    (X.turn ≠ 1 → PUni 42 [] X (.int .i64 17) X) ∧
    (X.turn = 1 → (∃ (i : Nat) (s : PSrv), X.servers[i]? = some s ∧ s.seen ≠ X.epoch) → PUni 42 [] X (.int .i64 18) X) ∧
    (X.turn = 1 → (∀ (i : Nat) (s : PSrv), X.servers[i]? = some s → s.seen = X.epoch) → ∃ (m : Nat) (P : PKey), X.keys.length = m + 1 ∧ X.keys[m]? = some P ∧ PUni 42 [] X (.int .i64 0) (X.promote m P) ∧ Kn N (n + 1) (X.promote m P) D S R) := by
  have hkl := h.keys
  obtain ⟨Y, mm, h, k, rfl, r0, sl, od⟩ := h
  have hP := ppromote_holds h
  refine ⟨hP.turn, hP.wait, fun h1 h2 => ?_⟩
  obtain ⟨m, hm⟩ : ∃ m, X.keys.length = m + 1 := ⟨X.keys.length - 1, by omega⟩
  have hmy : Y.keys.length = m + 1 := by rw [← h.keys.len]; exact hm
  obtain ⟨P, hPk⟩ : ∃ P, X.keys[m]? = some P := ⟨_, List.getElem?_eq_getElem (by omega)⟩
  obtain ⟨K, hK⟩ : ∃ K, Y.keys[m]? = some K := ⟨_, List.getElem?_eq_getElem (by omega)⟩
  have ha : allSeen Y = true := by
    unfold allSeen
    rw [List.all_eq_true]
    intro x hx
    obtain ⟨i, hi⟩ := List.getElem?_of_mem hx
    have hil := (List.getElem?_eq_some_iff.1 hi).1
    obtain ⟨p, sn, u, hp, hat, hS⟩ := h.srvAt hil
    obtain rfl := Option.some.inj (hi.symm.trans hat.seen)
    have := h2 i p hp
    rw [hS.seen, h.ep.1] at this
    simpa using this
  have hnew := rel_promote h (by rw [← h.turn]; exact h1) hmy hPk hK
  obtain ⟨jw, _, Kw, _, w1, _, w3, _, w5, _⟩ := h.writer
  have hjw : jw < m := by
    have hl := (List.getElem?_eq_some_iff.1 w3).1
    by_cases e : jw = m
    · subst e
      obtain rfl := Option.some.inj (w3.symm.trans hK)
      have := h.keys.staged (by rw [← h.turn]; exact h1) Kw (by rw [show Y.keys.length - 1 = jw by omega]; exact hK)
      omega
    · omega
  exact ⟨m, P, hm, hPk, hP.yes h1 h2 m P hm hPk, Y.promote m K, mm + 1, hnew, know_promote k h m K hK ha (by rw [← h.turn, h1]; decide), rfl, r0, sl.step (pot_promote hnew rfl w1 hjw (by omega)), od⟩
theorem kn_gate (h : Kn N n X D S R) :
    (pGoing X = false → PUni 44 [] X (.int .i64 17) X) ∧ (pGoing X = true → pUsed X = true → PUni 44 [] X (.int .i64 19) X) ∧
    (pGoing X = true → pUsed X = false → PUni 44 [] X (.int .i64 0) (X.setTurn 3) ∧ Kn N (n + 1) (X.setTurn 3) D S R) := by
  obtain ⟨Y, mm, h, k, rfl, r0, sl, od⟩ := h
  have hP := pgate_holds h
  have hg : pGoing X = goingOf Y := by unfold pGoing goingOf; rw [h.turn]
  have hu : pUsed X = usedOf Y := by unfold pUsed usedOf; rw [h.ent, h.write]
  exact ⟨hP.turn, hP.used, fun h1 h2 => ⟨hP.yes h1 h2, { Y with turn := 3 }, mm + 1, rel_gate h (hg.symm.trans h1) (hu.symm.trans h2), know_turn k 3 (fun _ => ⟨(k.left (by have q := hg.symm.trans h1; unfold goingOf at q; intro e; rw [e] at q; cases q)).1, Or.inr (Or.inr rfl)⟩), rfl, r0, sl.step (Nat.le_refl _), od⟩⟩
theorem destOf_at {ks : List RKey} {j : Nat} {K : RKey} (hK : ks[j]? = some K) (hj : j < 6) : (destOf ks)[j + 1]? = some K.gone := by
  unfold destOf
  rw [List.getElem?_cons_succ, List.getElem?_map, List.getElem?_range hj]
  show some (goneAt ks j) = _
  unfold goneAt
  rw [hK]
  rfl
theorem kn_destroy (h : Kn N n X D S R) (k : Nat) :
    (k = 0 ∨ X.keys.length < k → PUni 45 [.int .i64 (k : Int)] X (.int .i64 12) X) ∧
    (∀ (j : Nat) (P : PKey), k = j + 1 → X.keys[j]? = some P →
      (D.dest[k]? = some (keyGone P)) ∧
      (keyGone P = true → PUni 45 [.int .i64 (k : Int)] X (.int .i64 14) X) ∧
      (keyGone P = false → ((k : Int) = X.write ∨ X.turn ≠ 3) → PUni 45 [.int .i64 (k : Int)] X (.int .i64 20) X) ∧
      (keyGone P = false → (k : Int) ≠ X.write → X.turn = 3 → ∃ t, t = (if pLeft (X.keys.set j { P with text := ⟨#[]⟩ }) == 1 then 0 else X.turn) ∧ PUni 45 [.int .i64 (k : Int)] X (.int .i64 0) (X.destroy j P t) ∧ Kn N (n + 1) (X.destroy j P t) { D with dest := D.dest.set k true } S R)) := by
  have hkl := h.keys
  obtain ⟨Y, mm, h, kn, rfl, r0, sl, od⟩ := h
  have hP := pdestroy_holds h (k : Int)
  refine ⟨fun hk => hP.none (by rcases hk with q | q; left; omega; right; omega), fun j P hk hPk => ?_⟩
  subst hk
  have hjl : j < X.keys.length := (List.getElem?_eq_some_iff.1 hPk).1
  obtain ⟨K, hK⟩ : ∃ K, Y.keys[j]? = some K := ⟨_, List.getElem?_eq_getElem (by rw [← h.keys.len]; exact hjl)⟩
  have hks := h.keys.same j P K hPk hK
  have e : (((j + 1 : Nat) : Int)) = (j : Int) + 1 := by omega
  refine ⟨by rw [kn.dest, destOf_at hK (by omega), hks.alive], hP.gone j P e hPk, hP.gate j P e hPk, fun hg hw ht => ?_⟩
  have hb : badGate Y ((j : Int) + 1) = false := by
    unfold badGate
    rw [← h.write, ← h.turn, ht, ← e]
    rw [Bool.or_eq_false_iff]
    exact ⟨by rw [beq_eq_false_iff_ne]; exact hw, rfl⟩
  have hnew := rel_destroy h hPk hK hb
  have e2 : (if pLeft (X.keys.set j { P with text := ⟨#[]⟩ }) == 1 then (0 : Int) else X.turn) = (Y.destroy j K).turn := by
    show _ = (if leftOf (Y.keys.set j { K with gone := true }) == 1 then (0 : Int) else Y.turn)
    rw [h.turn, left_same (X.keys.set j { P with text := ⟨#[]⟩ }) (Y.keys.set j { K with gone := true }) (by simp [h.keys.len]) (fun i p k hp hk => ?_)]
    rcases set_at hp with ⟨hi, hp⟩ | ⟨hi, hpe⟩
    · rcases set_at hk with ⟨_, hk⟩ | ⟨hk, _⟩
      · exact (h.keys.same i p k hp hk).alive
      · exact absurd hk hi
    · rcases set_at hk with ⟨hk, _⟩ | ⟨_, hke⟩
      · exact absurd hi hk
      · rw [hpe, hke]
        exact beq_self_eq_true (⟨#[]⟩ : ByteArray).toList
  refine ⟨_, rfl, hP.yes j P e hPk hg hw ht, Y.destroy j K, mm + 1, ?_, know_destroy kn j K hK (by omega) hnew.left1, rfl, r0, sl.step (pot_of h hnew rfl rfl), od⟩
  rw [e2]
  exact hnew
/-! Migrate. -/
/-- What was moved, one after the other: each is the newest of its path. -/
def MoveLaw : List Dd → List Ent → List Dd → Prop
  | _, [], [] => True
  | ds, e :: es, d :: r => e.gone = false ∧ e.rev = (ds.length : Int) + 1 ∧ (∃ m, NewD ds e.path m d ∧ m ≠ 0) ∧ d.gone = false ∧ MoveLaw (ds ++ [d]) es r
  | _, _, _ => False
theorem kn_moves (t : Nat) : ∀ (n : Nat) (X : PS) (Y : RS) (D : PD), Rel2 n X Y → Know IsName Y D → n + t ≤ 50000000000000 → ∀ (j : Nat) (K : RKey), writesOf Y.keys Y.epoch = (j : Int) + 1 → Y.keys[j]? = some K →
    ∃ (Y' : RS) (ds : List Dd) (es : List Ent), Rel2 (n + es.length) (pMoves K.text ((j : Int) + 1) t X).1 Y' ∧ Know IsName Y' { D with deeds := D.deeds ++ ds } ∧ Y'.seen = Y.seen ∧ Y'.room = Y.room ∧ (pMoves K.text ((j : Int) + 1) t X).1.entries = X.entries ++ es ∧ es.length = (pMoves K.text ((j : Int) + 1) t X).2.1 ∧ ds.length = es.length ∧ MoveLaw D.deeds es ds ∧ ((pMoves K.text ((j : Int) + 1) t X).2.2 = 0 ∨ (pMoves K.text ((j : Int) + 1) t X).2.2 = 11) ∧ (pMoves K.text ((j : Int) + 1) t X).2.1 ≤ t ∧ pot Y' + es.length = pot Y := by
  induction t with
  | zero =>
    intro n X Y D h k _ j K _ _
    refine ⟨Y, [], [], h, ?_, rfl, rfl, by simp [pMoves], rfl, rfl, trivial, Or.inl rfl, Nat.le_refl _, rfl⟩
    rw [List.append_nil]
    exact k
  | succ t ih =>
    intro n X Y D h k hn j K hj hK
    obtain ⟨e, _⟩ := first_due h
    have stay : ∀ (er : Int), (er = 0 ∨ er = 11) → ∃ (Y' : RS) (ds : List Dd) (es : List Ent), Rel2 (n + es.length) ((X, 0, er) : PS × Nat × Int).1 Y' ∧ Know IsName Y' { D with deeds := D.deeds ++ ds } ∧ Y'.seen = Y.seen ∧ Y'.room = Y.room ∧ ((X, 0, er) : PS × Nat × Int).1.entries = X.entries ++ es ∧ es.length = ((X, 0, er) : PS × Nat × Int).2.1 ∧ ds.length = es.length ∧ MoveLaw D.deeds es ds ∧ (((X, 0, er) : PS × Nat × Int).2.2 = 0 ∨ ((X, 0, er) : PS × Nat × Int).2.2 = 11) ∧ ((X, 0, er) : PS × Nat × Int).2.1 ≤ t + 1 ∧ pot Y' + es.length = pot Y := fun er he => by
      refine ⟨Y, [], [], h, ?_, rfl, rfl, by simp, rfl, rfl, trivial, he, Nat.zero_le _, rfl⟩
      rw [List.append_nil]
      exact k
    cases hf : (dueOf Y).found
    · rw [pmoves_stop (by omega) (e.trans hf)]
      exact stay 0 (Or.inl rfl)
    · cases hu : fullOf Y
      · have hr := rel_move h (by omega) hj hK hf hu
        have hpm := pmove_same h K ((j : Int) + 1) hf
        obtain ⟨r, d, d1, d2, d3, d4, d5, d6, d7⟩ := due_deed h k hf
        have hk2 := know_move h k hj hK d5 d4 d3 d6 d7
        have hm := mu_move (K := K) h k hf hj
        have hpt : pot (Y.move K ((j : Int) + 1)) + 1 = pot Y := by
          show mu (Y.move K ((j : Int) + 1)) + 6 * (6 - (writesOf Y.keys Y.epoch).toNat) + 1 = mu Y + 6 * (6 - (writesOf Y.keys Y.epoch).toNat)
          omega
        obtain ⟨Y', ds, es, a1, a2, a3, a4, a5, a6, a7, a8, a9, a10, a11⟩ := ih (n + 1) _ _ _ hr hk2 (by omega) j K hj hK
        rw [pmoves_step (e.trans hf) ((pFull_same h).trans hu), hpm]
        refine ⟨Y', d :: ds, moveEnt Y K ((j : Int) + 1) :: es, a1.mono (by rw [List.length_cons]; omega), ?_, a3, a4, ?_, ?_, by simp [a7], ?_, a9, ?_, by rw [List.length_cons]; omega⟩
        · have : D.deeds ++ d :: ds = D.deeds ++ [d] ++ ds := by simp
          rw [this]
          exact a2
        · rw [a5]
          show X.entries ++ [_] ++ es = X.entries ++ _ :: es
          simp
        · show es.length + 1 = _
          rw [a6]
        · refine ⟨rfl, ?_, ⟨r, ?_, d2⟩, d3, a8⟩
          · show (Y.all.length : Int) + 1 = _
            rw [k.deeds]
          · exact d1
        · show _ + 1 ≤ _
          omega
      · rw [pmoves_full (by omega) (e.trans hf) ((pFull_same h).trans hu)]
        exact stay 11 (Or.inr rfl)
/-- What Migrate leaves. -/
def Migd (X X' : PS) (t : Nat) : Prop := ∃ (j : Nat) (P : PKey), X.write = (j : Int) + 1 ∧ X.keys[j]? = some P ∧ X' = (pMoves P.text ((j : Int) + 1) t X).1
theorem kn_migrate (h : Kn IsName n X D S R) (hn : n ≤ 40000000000000) (t : Nat) (ht : t ≤ 20) :
    (pGoing X = false → PUni 63 [.int .i64 (t : Int)] X (.tuple #[.int .i64 0, .int .i64 17]) X) ∧
    (pGoing X = true → ∃ (m : Nat) (e : Int) (X' : PS) (ds : List Dd) (es : List Ent), PUni 63 [.int .i64 (t : Int)] X (.tuple #[.int .i64 (m : Int), .int .i64 e]) X' ∧ (e = 0 ∨ e = 11) ∧ m ≤ t ∧ X'.entries = X.entries ++ es ∧ es.length = m ∧ ds.length = m ∧ MoveLaw D.deeds es ds ∧ Migd X X' t ∧ Kn IsName (n + 1) X' { D with deeds := D.deeds ++ ds } S R) := by
  obtain ⟨Y, mm, h, k, rfl, r0, sl, od⟩ := h
  have hmn := sl.le
  have hb : pBadMove (t : Int) = false := by unfold pBadMove; rw [Bool.or_eq_false_iff]; constructor <;> simp <;> omega
  refine ⟨fun hg => p_same (fun w F b hX => pMigrate_turn w (t : Int) hX hb hg), fun hg => ?_⟩
  obtain ⟨j, p, K, b1, b2, b3, b4, b5, _, b7, _⟩ := h.writer
  obtain ⟨Y', ds, es, a1, a2, a3, a4, a5, a6, a7, a8, a9, a10, a11⟩ := kn_moves t mm X Y D h k (by omega) j K b2 b4
  exact ⟨_, _, _, ds, es, PUni.migrate h (by omega) t ht hg b1 b2 b3 b4 (b5.text b7) b5.size, a9, a10, a5, a6, a7.trans a6, a8, ⟨j, p, b1, b3, by rw [b5.text b7]⟩, Y', mm + es.length, a1, a2, by rw [a3], by rw [a4]; exact r0, by unfold Slack at *; omega, od⟩
end Go.Proofs.YtphapknfkbgapabDoor
namespace Go.Proofs.YtphapknfkbgapabDoor
open Go.RowKit

variable {N : ByteArray → Prop} {X : PS} {D : PD} {n S : Nat} {R : Int}

/-! What is kept, against what the player knows. -/
theorem kept_rising {all : List RKept} (h : Revs all) : (keptOf all).Pairwise (fun a c => a.rev < c.rev) := by
  unfold keptOf
  rw [List.pairwise_map]
  refine List.Pairwise.filter _ ?_
  rw [List.pairwise_iff_getElem]
  intro i j hi hj hij
  have a := h i _ (List.getElem?_eq_getElem hi)
  have c := h j _ (List.getElem?_eq_getElem hj)
  omega
structure EntryKnown (D : PD) (e : Ent) (m : Nat) (d : Dd) : Prop where
  rev : e.rev = (m : Int) + 1
  at_ : D.deeds[m]? = some d
  path : e.path = d.path
  gone : e.gone = d.gone
  shut : e.gone = false → EntOk e ∧ 1 ≤ e.draw ∧ ∃ (j : Nat) (t : ByteArray), e.key = (j : Int) + 1 ∧ D.keys[j]? = some t ∧ t.size = 48 ∧ D.dest[j + 1]? = some false ∧ openB t (nonceTo e.draw 12) e.path e.sealed = true ∧ maskOf t (nonceTo e.draw 12) (coverOf e.sealed) = d.text
theorem kn_entry (h : Kn N n X D S R) {i : Nat} {e : Ent} (he : X.entries[i]? = some e) : (∃ m d, EntryKnown D e m d) ∧ ∀ (j : Nat) (c : Ent), j < i → X.entries[j]? = some c → c.rev < e.rev := by
  obtain ⟨Y, mm, h, k, rfl, r0, sl, od⟩ := h
  have hp := kept_rising h.revs
  rw [← h.ent] at hp
  refine ⟨?_, fun j c hj hc => ?_⟩
  · have hm := List.mem_of_getElem? he
    rw [h.ent] at hm
    obtain ⟨q, hq, rfl, ho⟩ := kept_mem hm
    obtain ⟨m, hmq⟩ := List.getElem?_of_mem hq
    obtain ⟨d, hd, ha⟩ := k.all.of hmq
    refine ⟨m, d, h.revs m q hmq, hd, ha.path, ha.gone, fun hg => ?_⟩
    obtain ⟨a1, j, K, b1, b2, b3, b4⟩ := ha.shut hg
    obtain ⟨ok1, j2, K2, c1, c2, c3⟩ := h.eok q hq hg
    have hjj : j2 = j := by rw [c1] at b1; omega
    subst hjj
    obtain rfl := Option.some.inj (b2.symm.trans c2)
    have hKg := c3 ho
    have hj6 : j2 < 6 := by have := (List.getElem?_eq_some_iff.1 c2).1; have := h.keys.few.2; omega
    obtain ⟨P, hP⟩ : ∃ P, X.keys[j2]? = some P := ⟨_, List.getElem?_eq_getElem (by rw [h.keys.len]; exact (List.getElem?_eq_some_iff.1 c2).1)⟩
    refine ⟨ok1, a1, j2, K.text, c1, by rw [k.keys, List.getElem?_map, c2]; rfl, (h.keys.same j2 P K hP c2).size, by rw [k.dest, destOf_at c2 hj6, hKg], ?_, ?_⟩
    · unfold openB
      rw [b4]
      exact decide_eq_true (opens_seal K.text (nonceTo q.e.draw 12) q.e.path d.text)
    · rw [b4]; exact open_seal _ _ _ _
  · obtain ⟨hi, e1⟩ := List.getElem?_eq_some_iff.1 he
    obtain ⟨hj2, e2⟩ := List.getElem?_eq_some_iff.1 hc
    have := List.pairwise_iff_getElem.1 hp j i hj2 hi hj
    rw [e1, e2] at this
    exact this
/-- What was told earlier, against what is kept now. -/
theorem kn_told (h : Kn N n X D S R) {e z : Ent} (he : e ∈ X.entries) (hg : e.gone = false) (hz : z ∈ D.seen) : (z.rev = e.rev ↔ z.draw = e.draw) ∧ (z.rev = e.rev → z = e) := by
  obtain ⟨Y, mm, h, k, rfl, r0, sl, od⟩ := h
  rw [h.ent] at he
  obtain ⟨q, hq, rfl, _⟩ := kept_mem he
  obtain ⟨hzg, p, hp, rfl⟩ := k.told z hz
  have same : p.e.rev = q.e.rev → p.e = q.e := fun e => by rw [same_rev h.revs hp hq e]
  refine ⟨⟨fun e => by rw [same e], fun e => ?_⟩, same⟩
  obtain ⟨i, hi⟩ := List.getElem?_of_mem hp
  obtain ⟨j, hj⟩ := List.getElem?_of_mem hq
  by_cases hij : i = j
  · subst hij
    rw [Option.some.inj (hi.symm.trans hj)]
  · exact absurd e (k.draws.b i j p q hij hi hj hzg hg)
theorem kn_see (h : Kn N n X D S R) {e : Ent} (he : e ∈ X.entries) (hg : e.gone = false) (ho : ∀ z ∈ D.seen, z.rev ≠ e.rev) : Kn N n X { D with seen := D.seen ++ [e] } S R := by
  obtain ⟨Y, mm, h, k, rfl, r0, sl, od⟩ := h
  have he2 := he
  rw [h.ent] at he2
  obtain ⟨q, hq, rfl, _⟩ := kept_mem he2
  refine ⟨Y, mm, h, ⟨k.all, k.out, k.floor, k.floor1, k.names, k.keys, k.dest, k.opl, k.ops, k.draws, k.came, fun z hz => ?_, k.pods, k.left⟩, rfl, r0, sl, ?_⟩
  · rcases List.mem_append.1 hz with hz | hz
    · exact k.told z hz
    · obtain rfl := List.mem_singleton.1 hz
      exact ⟨hg, q, hq, rfl⟩
  · show ((D.seen ++ [q.e]).map Ent.rev).Nodup
    rw [List.map_append, List.nodup_append]
    refine ⟨od, by simp, fun a ha c hc => ?_⟩
    obtain ⟨z, hz, rfl⟩ := List.mem_map.1 ha
    have hc : c = q.e.rev := by simpa using hc
    rw [hc]
    exact ho z hz
/-- What was told: each revision once. -/
theorem Kn.seen (h : Kn N n X D S R) : D.seen.length ≤ D.deeds.length := by
  obtain ⟨Y, mm, h, k, _, _, _, od⟩ := h
  rw [k.deeds]
  exact once_le h.revs (fun e he => (k.told e he).2) od
/-! A new coffer. -/
def PD.new (key : ByteArray) : PD := ⟨[], 0, List.replicate 4 Und2.zero, List.replicate 7 false, [], [key], ⟨List.replicate 8 (-1), List.replicate 8 (List.replicate 6 false)⟩⟩
theorem new_pods : PodsK (podsOf [-1, -1, -1, -1, -1, -1, -1, -1] []) ⟨List.replicate 8 (-1), List.replicate 8 (List.replicate 6 false)⟩ := by
  refine ⟨⟨rfl, rfl, fun l hl => ?_⟩, fun i hi => ?_, fun i k hi hk => ?_, fun i _ q hq => (by cases hq), fun i _ => List.nodup_nil⟩
  · obtain rfl := (List.mem_replicate.1 hl).2
    rfl
  · rcases eight hi with rfl | rfl | rfl | rfl | rfl | rfl | rfl | rfl <;> rfl
  · constructor
    · intro h
      have hk6 : k = 0 ∨ k = 1 ∨ k = 2 ∨ k = 3 ∨ k = 4 ∨ k = 5 := by omega
      rcases eight hi with rfl | rfl | rfl | rfl | rfl | rfl | rfl | rfl <;> rcases hk6 with rfl | rfl | rfl | rfl | rfl | rfl <;> cases h
    · intro h
      cases h
theorem kn_new (m : Nat) (room : Int) (key : ByteArray) (hc : cfgOk (m : Int) room key = true) : Kn N 30 (PS.new m room key) (PD.new key) m room := by
  have h := new_two m room key hc
  have e : (RS.new (m : Int) room key).seen = List.replicate m 0 := by show List.replicate (m : Int).toNat 0 = _; rw [Int.toNat_natCast]
  have e2 : (RS.new (m : Int) room key).ops = List.replicate m RUnd.zero := by show List.replicate (m : Int).toNat RUnd.zero = _; rw [Int.toNat_natCast]
  have hm := h.len.2.2.1
  rw [e, List.length_replicate] at hm
  have noAll : ∀ (i : Nat) (k : RKept), (RS.new (m : Int) room key).all[i]? = some k → False := fun i k hk => by
    have hk : ([] : List RKept)[i]? = some k := hk
    simp at hk
  have offs : ∀ (s : Nat) (u : RUnd), (RS.new (m : Int) room key).ops[s]? = some u → u = RUnd.zero ∧ s < m := fun s u hu => by
    rw [e2, List.getElem?_replicate] at hu
    split at hu
    · exact ⟨(Option.some.inj hu).symm, by assumption⟩
    · cases hu
  have hpot : pot (RS.new m room key) ≤ 30 := by
    have hw : writesOf (RS.new m room key).keys (RS.new m room key).epoch = 1 := by rw [← h.write]; rfl
    have hmu : mu (RS.new m room key) = 0 := by
      unfold mu
      rw [List.countP_eq_zero]
      intro i _ hi
      cases hi
    unfold pot
    rw [hw, hmu]
    decide
  refine ⟨RS.new m room key, 0, h, ⟨⟨rfl, fun i k d hk => (noAll i k hk).elim⟩, ⟨fun i k hk => (noAll i k hk).elim, fun i k hk => (noAll i k hk).elim⟩, rfl, Int.le_refl _, fun d hd => (by have hd : d ∈ ([] : List Dd) := hd; simp at hd), rfl, rfl, rfl, fun s u hu => ?_, ⟨fun i k hk => (noAll i k hk).elim, fun i j k q _ hk => (noAll i k hk).elim, fun s u hu ho => ?_, fun s t u v _ hu _ ho => ?_⟩, fun s sn hs hne => ?_, fun z hz => (by have hz : z ∈ ([] : List Ent) := hz; simp at hz), new_pods, fun q => absurd rfl q⟩, by rw [e]; simp, rfl, by unfold Slack; omega, List.nodup_nil⟩
  · obtain ⟨rfl, hs⟩ := offs s u hu
    exact ⟨Und2.zero, by show (List.replicate 4 Und2.zero)[s]? = _; rw [List.getElem?_replicate, if_pos (by omega)], rfl, fun q => by cases q⟩
  · obtain ⟨rfl, _⟩ := offs s u hu
    cases ho
  · obtain ⟨rfl, _⟩ := offs s u hu
    cases ho
  · rw [e, List.getElem?_replicate] at hs
    split at hs
    · exact absurd (Option.some.inj hs).symm hne
    · cases hs
end Go.Proofs.YtphapknfkbgapabDoor
namespace Go.Proofs.YtphapknfkbgapabDoor
open Go.RowKit

variable {F : Nat → Prop} {b : Nat} {X : PS}
/-! Meddling: the program's kept, Plant. -/
/-- What the program finds of a revision. -/
def keptE (l : List Ent) (rev : Int) : Ent := (l.find? (fun e => e.rev == rev)).getD Ent.zero
def PS.plant (X : PS) (name : ByteArray) (e : Ent) : PS := { X.add { e with path := name } with turn := if X.turn == 3 then 2 else X.turn }
end Go.Proofs.YtphapknfkbgapabDoor
namespace Go.Proofs.YtphapknfkbgapabDoor
open Go.RowKit

/-! Pods: the program's Place, Refer. -/
variable {F : Nat → Prop} {b : Nat} {X : PS}
def isPodB (n : Int) : Bool := decide (0 ≤ n) && decide (n < 8)
def isNodeB (n : Int) : Bool := decide (0 ≤ n) && decide (n < 4)
theorem isPod_any (w : World) (n : Int) : Calls Tryd.prog 68 #[.int .i64 n] w fun e w' => e = .returned (.bool (isPodB n)) ∧ w' = w := by
  cases q : decide (0 ≤ n)
  all_goals
    go_enter Tryd.func68, Tryd.ntmps68
    go_wp2
    go_ret
    exact ⟨by simp [isPodB, q], rfl⟩
theorem isNode_any (w : World) (n : Int) : Calls Tryd.prog 24 #[.int .i64 n] w fun e w' => e = .returned (.bool (isNodeB n)) ∧ w' = w := by
  cases q : decide (0 ≤ n)
  all_goals
    go_enter Tryd.func24, Tryd.ntmps24
    go_wp2
    go_ret
    exact ⟨by simp [isNodeB, q], rfl⟩
theorem pPlace_arg (w : World) (pod node : Int) (h : badPlace pod node = true) :
    Calls Tryd.prog 46 #[.pointer (some ⟨b, 0, none⟩), .int .i64 pod, .int .i64 node] w fun e w' => e = .returned (.int .i64 2) ∧ w' = w := by
  cases hp : isPodB pod
  · have HP := hid hp
    clear h
    go_enter Tryd.func46, Tryd.ntmps46
    go_wp2_with (go_at_call 68; refine (isPod_any _ _).mono ?_; rw [HP.out]; rintro e y1 ⟨rfl, hy⟩; obtain rfl := hy.symm)
    go_ret
    exact ⟨rfl, rfl⟩
  · have HP := hid hp
    have hn1 : (node != -1) = true := by
      unfold badPlace at h; unfold isPodB at hp; simp at h hp ⊢; omega
    have hn2 : isNodeB node = false := by
      unfold badPlace at h; unfold isPodB at hp; unfold isNodeB
      rw [Bool.and_eq_false_iff]
      simp at h hp ⊢; omega
    have HN := hid hn2
    clear h hn2 hp
    go_enter Tryd.func46, Tryd.ntmps46
    go_wp2_with (first | (go_at_call 68; refine (isPod_any _ _).mono ?_; rw [HP.out]; rintro e y1 ⟨rfl, hy⟩; obtain rfl := hy.symm) | (go_at_call 24; refine (isNode_any _ _).mono ?_; rw [HN.out]; rintro e y1 ⟨rfl, hy⟩; obtain rfl := hy.symm))
    go_ret
    exact ⟨rfl, rfl⟩
def PS.place (X : PS) (pod : Nat) (node : Int) : PS := { X with pods := setPod X.pods pod { X.pods pod with node := node } }
theorem xset_kept0 {w : World} (h : XIn w F b X) (i : Nat) (v : Value) : Kept F w (w.setCell ⟨b, i, none⟩ v) := (setCell_kept w ⟨b, i, none⟩ v).mono (fun q _ e => by rw [show q = b from e]; exact h.inF)
theorem pPlace_yes (w : World) (pod : Nat) (node : Int) (h : XIn w F b X) (hp : pod < 8) (h1 : -1 ≤ node) (h2 : node < 4) :
    Calls Tryd.prog 46 #[.pointer (some ⟨b, 0, none⟩), .int .i64 (pod : Int), .int .i64 node] w fun e w' => e = .returned (.int .i64 0) ∧ XIn w' F b (X.place pod node) ∧ Kept F w w' := by
  have HP : Hid (isPodB (pod : Int) = true) := by show _ = _; unfold isPodB; simp; omega
  have HR := hid h
  have c := xin_node h hp
  have f := h.frozen (10 + pod * 2)
  have lb := h.lt
  have il : (pod : Int) < 8 := by omega
  have HP8 := hid hp
  cases hn : (node != -1)
  · clear h h1 h2 hp
    go_enter Tryd.func46, Tryd.ntmps46
    go_wp2_with (go_at_call 68; refine (isPod_any _ _).mono ?_; rw [HP.out]; rintro e y1 ⟨rfl, hy⟩; obtain rfl := hy.symm)
    go_ret
    exact ⟨rfl, xin_setNode HR.out HP8.out node, xset_kept0 HR.out _ _⟩
  · have HN : Hid (isNodeB node = true) := by show _ = _; unfold isNodeB; simp at hn ⊢; omega
    clear h h1 h2 hp
    go_enter Tryd.func46, Tryd.ntmps46
    go_wp2_with (first | (go_at_call 68; refine (isPod_any _ _).mono ?_; rw [HP.out]; rintro e y1 ⟨rfl, hy⟩; obtain rfl := hy.symm) | (go_at_call 24; refine (isNode_any _ _).mono ?_; rw [HN.out]; rintro e y1 ⟨rfl, hy⟩; obtain rfl := hy.symm))
    go_ret
    exact ⟨rfl, xin_setNode HR.out HP8.out node, xset_kept0 HR.out _ _⟩
end Go.Proofs.YtphapknfkbgapabDoor
namespace Go.Proofs.YtphapknfkbgapabDoor
open Go.RowKit

variable {F : Nat → Prop} {b : Nat} {X : PS}
/-- A slice of texts. -/
def Texts (w : World) (a : Option Addr) (l : List ByteArray) : Prop := ∀ (i : Nat) (p : ByteArray), l[i]? = some p → ∃ g, a = some ⟨g, 0, none⟩ ∧ g < w.heap.size ∧ w.cell? ⟨g, i, none⟩ = some (.string p)
theorem Texts.low {w w' : World} {a : Option Addr} {l : List ByteArray} (h : Texts w a l) (k : Low w.heap.size w w') : Texts w' a l := fun i p hp => by
  obtain ⟨g, rfl, hg, hc⟩ := h i p hp
  exact ⟨g, rfl, Nat.lt_of_lt_of_le hg k.size, (k.cell hg).trans hc⟩
theorem xin_texts {w : World} {i : Nat} (h : XIn w F b X) (hi : i < 8) : ∃ a cap, w.cell? ⟨b, 11 + i * 2, none⟩ = some (.slice a (X.pods i).needs.length cap) ∧ Texts w a (X.pods i).needs := by
  obtain ⟨a, cap, hc, hel⟩ := xin_needs h hi
  rw [List.length_map] at hc
  refine ⟨a, cap, hc, fun j p hp => ?_⟩
  obtain ⟨g, rfl, hg, hcs, _⟩ := hel j (str p) (by rw [List.getElem?_map, hp]; rfl)
  have := hcs 0 (by omega)
  rw [Nat.mul_one, Nat.add_zero] at this
  exact ⟨g, rfl, hg, this⟩
def withoutOf (l : List ByteArray) (name : ByteArray) : List ByteArray := l.filter (fun p => !(p.toList == name.toList))
theorem without_snoc (l : List ByteArray) (q p : ByteArray) : withoutOf (l ++ [q]) p = if (q.toList == p.toList) then withoutOf l p else withoutOf l p ++ [q] := by
  unfold withoutOf
  rw [List.filter_append]
  cases h : (q.toList == p.toList) <;> simp [h]
theorem without_le (l : List ByteArray) (p : ByteArray) : (withoutOf l p).length ≤ l.length := List.length_filter_le _ _
theorem info9 : (Tryd.prog.info? 9).map (fun i => (i.zero, i.size, i.bytes)) = some (some (.string ⟨#[]⟩), 1, 16) := by kernel_rfl
theorem str_one (p : ByteArray) : ∀ v ∈ str p, v.oneCell' = true := by simp [str, Value.oneCell']
set_option maxRecDepth 100000 in
set_option maxHeartbeats 1000000 in
theorem without_any (w : World) (a : Option Addr) (l : List ByteArray) (cap : Nat) (p : ByteArray) (hl : l.length ≤ 1000) (ht : Texts w a l) :
    Calls Tryd.prog 70 #[.slice a l.length cap, .string p] w fun e w' => ∃ v, e = .returned v ∧ Low w.heap.size w w' ∧ w'.ownsRow 0 9 1 v (withoutOf l p).length ((withoutOf l p).flatMap str) ∧ ∀ k, v.ownBlock = some k → w.heap.size ≤ k := by
  have HT := hid ht
  have HL := hid hl
  clear ht hl
  go_enter Tryd.func70, Tryd.ntmps70
  go_wp2_with fail
  go_loopg [5, 6] l.length (fun left v iv wr => ∃ i : Nat, left = l.length - i ∧ i ≤ l.length ∧ iv = .int .i64 (i : Int) ∧ Hid (Low w.heap.size w wr ∧ wr.ownsRow 0 9 1 v (withoutOf (l.take i) p).length ((withoutOf (l.take i) p).flatMap str) ∧ ∀ k, v.ownBlock = some k → w.heap.size ≤ k))
  case atStart =>
    refine ⟨0, rfl, Nat.zero_le _, rfl, (Low.refl _ w).alloc (Nat.le_refl _) _, ⟨rfl, Or.inr ⟨w.heap.size, 0, #[], rfl, Nat.zero_le _, heap_alloc_new w _, Nat.le_refl _, by decide, rfl, rfl⟩⟩, fun k hk => ?_⟩
    obtain rfl : w.heap.size = k := Option.some.inj hk
    exact Nat.le_refl _
  case round v =>
    obtain ⟨i, hgk, hi, rfl, HI⟩ := hrel
    have HGK := hid hgk
    clear hgk
    by_cases h3 : i < l.length
    · have q3 : decide ((i : Int) < (l.length : Int)) = true := by simp; omega
      have il : (i : Int) < (l.length : Int) := by omega
      obtain ⟨q, hq⟩ : ∃ q, l[i]? = some q := ⟨_, List.getElem?_eq_getElem h3⟩
      obtain ⟨g, rfl, hg, hc⟩ := (HT.out.low HI.out.1) i q hq
      have HTK := hid (take_snoc hq)
      have HS := hid (without_snoc (l.take i) q p)
      have HZ : Hid ((withoutOf (l.take i) p).length + 1 ≤ 1000000000) := by
        show _ ≤ _
        have := without_le (l.take i) p
        have := HL.out
        simp at *
        omega
      clear hq
      cases qn : (q.toList == p.toList)
      · have qn2 : (q.toList != p.toList) = true := by rw [bne, qn]; rfl
        go_wp2_with (at_builtin; refine wpList_append_mine _ rfl (.tmp 20) (.tmp 25) 47 rfl 9 _ 1 16 Tryd.underlying47 info9 rfl (by omega) _ _ _ rfl (HI.out.2.1.alloc _) ⟨wr.heap.size, 0, none⟩ 1 1 (str q) rfl rfl (news_new wr (str q) 9) (str_one q) ⟨HZ.out, by omega⟩ ?_; intro v' w1 o1 k1 p1; have O1 := hid o1; have K1 := hid k1; have P1 := hid p1; clear o1 k1 p1)
        go_roundg (l.length - (i + 1))
        case rel =>
          obtain ⟨l1, b1⟩ := append_low HI.out.1 HI.out.2.2 K1.out P1.out
          refine ⟨i + 1, rfl, by omega, by have := HL.out; simp; unfold wrap64; omega, l1, ?_, b1⟩
          rw [HTK.out, HS.out, qn, if_neg (by simp), List.length_append, flat_snoc]
          exact O1.out
        case measure => have := HGK.out; omega
      · have qn2 : (q.toList != p.toList) = false := by rw [bne, qn]; rfl
        go_wp2_with fail
        go_roundg (l.length - (i + 1))
        case rel =>
          refine ⟨i + 1, rfl, by omega, by have := HL.out; simp; unfold wrap64; omega, HI.out.1, ?_, HI.out.2.2⟩
          rw [HTK.out, HS.out, qn]
          exact HI.out.2.1
        case measure => have := HGK.out; omega
    · have q3 : decide ((i : Int) < (l.length : Int)) = false := by simp; omega
      have HTK : Hid (l.take i = l) := List.take_of_length_le (by omega)
      obtain ⟨a10, cap10, hv10, _, _⟩ := ownsRow_view HI.out.2.1
      subst hv10
      go_wp2_with fail
      go_ret
      have hI := HI.out
      rw [HTK.out] at hI
      exact ⟨_, by rw [HTK.out]; rfl, hI.1, hI.2.1, hI.2.2⟩
end Go.Proofs.YtphapknfkbgapabDoor
namespace Go.Proofs.YtphapknfkbgapabDoor
open Go.RowKit

variable {F : Nat → Prop} {b : Nat} {X : PS}
/-! Refer; who needs a path. -/
theorem isPath1_any (w : World) (p : ByteArray) (hp : p.size ≤ maxLen) : Calls Tryd.prog 69 #[.string p] w fun e w' => e = .returned (.bool (isPath p)) ∧ w' = w := pisPath_any w p hp
theorem pRefer_arg (w : World) (pod : Int) (name : ByteArray) (on : Bool) (hp : name.size ≤ maxLen) (h : badRefer pod name = true) :
    Calls Tryd.prog 47 #[.pointer (some ⟨b, 0, none⟩), .int .i64 pod, .string name, .bool on] w fun e w' => e = .returned (.int .i64 2) ∧ w' = w := by
  have HM := hid hp
  cases hq : isPodB pod
  · have HP := hid hq
    clear h hp
    go_enter Tryd.func47, Tryd.ntmps47
    go_wp2_with (go_at_call 68; refine (isPod_any _ _).mono ?_; rw [HP.out]; rintro e y1 ⟨rfl, hy⟩; obtain rfl := hy.symm)
    go_ret
    exact ⟨rfl, rfl⟩
  · have HP := hid hq
    have hn : isPath name = false := by
      unfold badRefer at h; unfold isPodB at hq
      cases hi : isPath name
      · rfl
      · rw [hi] at h; simp at h hq; omega
    have HN := hid hn
    clear h hp hn hq
    go_enter Tryd.func47, Tryd.ntmps47
    go_wp2_with (first | (go_at_call 68; refine (isPod_any _ _).mono ?_; rw [HP.out]; rintro e y1 ⟨rfl, hy⟩; obtain rfl := hy.symm) | (go_at_call 69; refine (isPath1_any _ _ HM.out).mono ?_; rw [HN.out]; rintro e y1 ⟨rfl, hy⟩; obtain rfl := hy.symm))
    go_ret
    exact ⟨rfl, rfl⟩
def PS.refer (X : PS) (pod : Nat) (name : ByteArray) (on : Bool) : PS := { X with pods := setPod X.pods pod { X.pods pod with needs := withoutOf (X.pods pod).needs name ++ (if on then [name] else []) } }
set_option maxRecDepth 100000 in
set_option maxHeartbeats 1000000 in
theorem pRefer_any (w : World) (pod : Nat) (name : ByteArray) (on : Bool) (h : XIn w F b X) (hn : (X.pods pod).needs.length ≤ 8) (hp : name.size ≤ maxLen) (hq : isPath name = true) (hpod : pod < 8) :
    Calls Tryd.prog 47 #[.pointer (some ⟨b, 0, none⟩), .int .i64 (pod : Int), .string name, .bool on] w fun e w' => ((on && decide (8 ≤ (withoutOf (X.pods pod).needs name).length)) = true ∧ e = .returned (.int .i64 16) ∧ Low w.heap.size w w') ∨
      ((on && decide (8 ≤ (withoutOf (X.pods pod).needs name).length)) = false ∧ e = .returned (.int .i64 0) ∧ XIn w' (grow F w w') b (X.refer pod name on) ∧ Kept F w w') := by
  have HP : Hid (isPodB (pod : Int) = true) := by show _ = _; unfold isPodB; simp; omega
  have HR := hid h
  have HM := hid hp
  have HQ := hid hq
  have H8 := hid hpod
  have HN := hid hn
  have HOF : Hid (11 + pod * 2 = 10 + pod * 2 + 1) := by show _ = _; omega
  obtain ⟨a, cap, hc, ht⟩ := xin_texts h hpod
  rw [HOF.out] at hc
  have HT := hid ht
  have lb := h.lt
  have il : (pod : Int) < 8 := by omega
  clear h hp hq hpod hn ht
  go_enter Tryd.func47, Tryd.ntmps47
  go_upto_region 4 with (first | (go_at_call 68; refine (isPod_any _ _).mono ?_; rw [HP.out]; rintro e y1 ⟨rfl, hy⟩; obtain rfl := hy.symm) | (go_at_call 69; refine (isPath1_any _ _ HM.out).mono ?_; rw [HQ.out]; rintro e y1 ⟨rfl, hy⟩; obtain rfl := hy.symm) | (go_at_call 70; refine (without_any _ a (X.pods pod).needs cap name (by have := HN.out; omega) HT.out).mono ?_; rintro e y1 ⟨v, rfl, l1, o1, b1⟩; obtain ⟨a1, cap1, rfl, _, _⟩ := ownsRow_view o1; have L1 := hid l1; have O1 := hid o1; have B1 := hid b1; clear l1 o1 b1))
  have XY := hid (HR.out.low L1.out)
  obtain ⟨a2, cap2, hc2, _⟩ := xin_texts XY.out H8.out
  rw [HOF.out] at hc2
  have f2 := XY.out.frozen (10 + pod * 2 + 1)
  have lb2 := XY.out.lt
  cases qo : on
  · go_wp2_with fail
    go_ret
    obtain ⟨r1, k1⟩ := xin_setNeeds HR.out H8.out L1.out O1.out B1.out
    rw [HOF.out] at r1 k1
    refine Or.inr ⟨by rw [qo]; rfl, rfl, ?_, k1⟩
    unfold PS.refer
    rw [qo, if_neg (by simp), List.append_nil]
    exact XIn.more r1 (fun k hk => hk.imp id (fun q => ⟨q.1, by simpa using q.2⟩)) (fun k hk => hk.elim (fun q => by have := HR.out.below k q; have := L1.out.size; simp; omega) (fun q => q.2))
  · obtain ⟨ot, hot⟩ : ∃ ot, ot = (withoutOf (X.pods pod).needs name).length := ⟨_, rfl⟩
    have HOT := hid hot
    have HO8 : Hid (ot ≤ 8) := by show _ ≤ _; rw [hot]; exact Nat.le_trans (without_le _ _) HN.out
    rw [← hot]
    rw [← hot] at O1
    rw [← hot] at B1
    clear hot
    cases q8 : decide (8 ≤ ot)
    · have q9 : decide ((8 : Int) ≤ (ot : Int)) = false := by simp at q8 ⊢; omega
      go_wp2_with (at_builtin; refine wpList_append_mine _ rfl (.tmp 31) (.tmp 33) 47 rfl 9 _ 1 16 Tryd.underlying47 info9 rfl (by omega) _ _ _ rfl (O1.out.alloc _) ⟨y1.heap.size, 0, none⟩ 1 1 (str name) rfl rfl (news_new y1 (str name) 9) (str_one name) ⟨by have := HO8.out; omega, by omega⟩ ?_; intro v' w1 o2 k2 p2; obtain ⟨a3, cap3, rfl, _, _⟩ := ownsRow_view o2; have LL := hid (append_low L1.out B1.out k2 p2); have X2 := hid (HR.out.low LL.out.1); obtain ⟨a4, cap4, hc4, _⟩ := xin_texts X2.out H8.out; rw [HOF.out] at hc4; have f4 := X2.out.frozen (10 + pod * 2 + 1); have lb4 := X2.out.lt; have O2 := hid o2; clear o2 k2 p2)
      go_ret
      have hO := O2.out
      have e1 : ot + 1 = (withoutOf (X.pods pod).needs name ++ [name]).length := by rw [HOT.out]; simp
      have e2 : (withoutOf (X.pods pod).needs name).flatMap str ++ str name = (withoutOf (X.pods pod).needs name ++ [name]).flatMap str := by rw [flat_snoc]
      rw [e1, e2] at hO
      obtain ⟨r1, k1⟩ := xin_setNeeds HR.out H8.out LL.out.1 hO (by rw [← e1]; exact LL.out.2)
      rw [HOF.out] at r1 k1
      refine Or.inr ⟨by rw [qo, ← HOT.out, q8]; rfl, rfl, ?_, ?_⟩
      · unfold PS.refer
        rw [qo, if_pos rfl, e1]
        exact XIn.more r1 (fun k hk => hk.imp id (fun q => ⟨q.1, by simpa using q.2⟩)) (fun k hk => hk.elim (fun q => by have := HR.out.below k q; have := LL.out.1.size; simp; omega) (fun q => q.2))
      · rw [e1]; exact k1
    · have q9 : decide ((8 : Int) ≤ (ot : Int)) = true := by simp at q8 ⊢; omega
      go_wp2_with fail
      go_ret
      exact Or.inl ⟨by rw [qo, ← HOT.out, q8]; rfl, rfl, L1.out⟩
set_option maxRecDepth 100000 in
set_option maxHeartbeats 1000000 in
theorem needsPath_any (w : World) (node : Int) (a : Option Addr) (l : List ByteArray) (cap : Nat) (p : ByteArray) (hl : l.length ≤ 1000) (ht : Texts w a l) :
    Calls Tryd.prog 52 #[.agg #[.int .i64 node, .slice a l.length cap], .string p] w fun e w' => e = .returned (.bool (l.any (fun q => q.toList == p.toList))) ∧ Low w.heap.size w w' := by
  have HT := hid ht
  have HL := hid hl
  clear ht hl
  go_enter Tryd.func52, Tryd.ntmps52
  go_wp2_with fail
  go_name_world W hW
  have BW : Hid (Blk W w.heap.size 72 [.int .i64 node, .slice a l.length cap]) := by
    show Blk W _ _ _
    rw [← hW]; exact Blk.new w 72 [.int .i64 node, .slice a l.length cap]
  have LW : Hid (Low w.heap.size w W) := by
    show Low _ _ _
    rw [← hW]; exact (Low.refl _ w).alloc (Nat.le_refl _) _
  have TW : Hid (Texts W a l) := by show Texts W a l; exact HT.out.low LW.out
  clear hW
  have c1 : W.cell? ⟨w.heap.size, 1, none⟩ = some (.slice a l.length cap) := BW.out.cell 1
  go_loopg [5] l.length (fun left iv wr => ∃ i : Nat, left = l.length - i ∧ i ≤ l.length ∧ iv = .int .i64 (i : Int) ∧ W = wr ∧ Hid ((l.take i).any (fun q => q.toList == p.toList) = false))
  case atStart => exact ⟨0, rfl, Nat.zero_le _, rfl, rfl, rfl⟩
  case round =>
    obtain ⟨i, hgk, hi, rfl, rfl, HI⟩ := hrel
    have HGK := hid hgk
    clear hgk
    by_cases h3 : i < l.length
    · have q3 : decide ((i : Int) < (l.length : Int)) = true := by simp; omega
      have il : (i : Int) < (l.length : Int) := by omega
      obtain ⟨q, hq⟩ : ∃ q, l[i]? = some q := ⟨_, List.getElem?_eq_getElem h3⟩
      obtain ⟨g, rfl, hg, hc⟩ := TW.out i q hq
      have HTK := hid (any_snoc l i q (fun q => q.toList == p.toList) hq)
      have HM := hid (List.mem_of_getElem? hq)
      clear hq
      cases qn : (q.toList == p.toList)
      · go_wp2_with fail
        go_roundg (l.length - (i + 1))
        case rel => exact ⟨i + 1, rfl, by omega, by have := HL.out; simp; unfold wrap64; omega, rfl, by show _ = _; rw [HTK.out, HI.out, qn]; rfl⟩
        case measure => have := HGK.out; omega
      · go_wp2_with fail
        go_ret
        refine ⟨?_, LW.out⟩
        have : l.any (fun q => q.toList == p.toList) = true := List.any_eq_true.2 ⟨q, HM.out, qn⟩
        rw [this]; rfl
    · have q3 : decide ((i : Int) < (l.length : Int)) = false := by simp; omega
      have HTK : Hid (l.take i = l) := List.take_of_length_le (by omega)
      go_wp2_with fail
      go_ret
      refine ⟨?_, LW.out⟩
      have := HI.out
      rw [HTK.out] at this
      rw [this]; rfl
/-- A pod on a node needs a path. -/
def podNeeds (p : PPod) (node : Int) (name : ByteArray) : Bool := (p.node == node) && p.needs.any (fun q => q.toList == name.toList)
def neededOf (p : Nat → PPod) (node : Int) (name : ByteArray) : Bool := (List.range 8).any (fun i => podNeeds (p i) node name)
def neededTo (p : Nat → PPod) (node : Int) (name : ByteArray) (i : Nat) : Bool := (List.range i).any (fun i => podNeeds (p i) node name)
theorem neededTo_snoc (p : Nat → PPod) (node : Int) (name : ByteArray) (i : Nat) : neededTo p node name (i + 1) = (neededTo p node name i || podNeeds (p i) node name) := by
  unfold neededTo
  rw [List.range_succ, List.any_append]
  simp
set_option maxRecDepth 100000 in
set_option maxHeartbeats 1000000 in
theorem isNeeded_any (w : World) (node : Int) (p : ByteArray) (h : XIn w F b X) (hn : ∀ i, i < 8 → (X.pods i).needs.length ≤ 8) :
    Calls Tryd.prog 25 #[.pointer (some ⟨b, 0, none⟩), .int .i64 node, .string p] w fun e w' => e = .returned (.bool (neededOf X.pods node p)) ∧ Low w.heap.size w w' := by
  have HR := hid h
  have HN := hid hn
  clear h hn
  go_enter Tryd.func25, Tryd.ntmps25
  go_wp2_with fail
  go_loopg [7] 8 (fun left iv wr => ∃ i : Nat, left = 8 - i ∧ i ≤ 8 ∧ iv = .int .i64 (i : Int) ∧ Hid (Low w.heap.size w wr) ∧ Hid (neededTo X.pods node p i = false))
  case atStart => exact ⟨0, rfl, Nat.zero_le _, rfl, Low.refl _ _, rfl⟩
  case round =>
    obtain ⟨i, hgk, hi, rfl, HLW, HI⟩ := hrel
    have HGK := hid hgk
    clear hgk
    by_cases h3 : i < 8
    · have q3 : decide ((i : Int) < 8) = true := by simp; omega
      have il : (i : Int) < 8 := by omega
      have XW : Hid (XIn wr F b X) := HR.out.low HLW.out
      have c0 := xin_node XW.out h3
      obtain ⟨a, cap, c1, ht⟩ := xin_texts XW.out h3
      have c1' : wr.cell? ⟨b, 10 + i * 2 + 1, none⟩ = some (.slice a (X.pods i).needs.length cap) := by rw [show 10 + i * 2 + 1 = 11 + i * 2 by omega]; exact c1
      have HT := hid ht
      have lb := XW.out.lt
      have HS := hid (neededTo_snoc X.pods node p i)
      have H3 := hid h3
      obtain ⟨an, han⟩ : ∃ an, an = (X.pods i).needs.any (fun q => q.toList == p.toList) := ⟨_, rfl⟩
      have HAN := hid han
      clear ht han c1
      cases qn : ((X.pods i).node == node)
      · go_wp2_with fail
        go_roundg (8 - (i + 1))
        case rel => exact ⟨i + 1, rfl, by omega, by simp, HLW.out, by show _ = _; rw [HS.out, HI.out]; unfold podNeeds; rw [qn]; rfl⟩
        case measure => have := HGK.out; omega
      · cases qa : an
        · go_wp2_with (go_at_call 52; refine (needsPath_any _ (X.pods i).node a (X.pods i).needs cap p (by have := HN.out i H3.out; omega) HT.out).mono ?_; rw [← HAN.out]; rintro e y1 ⟨rfl, l1⟩; have L1 : Hid (Low w.heap.size w y1) := HLW.out.trans (l1.mono HLW.out.size); clear l1)
          go_roundg (8 - (i + 1))
          case rel => exact ⟨i + 1, rfl, by omega, by simp, L1.out, by show _ = _; rw [HS.out, HI.out]; unfold podNeeds; rw [qn, ← HAN.out, qa]; rfl⟩
          case measure => have := HGK.out; omega
        · go_wp2_with (go_at_call 52; refine (needsPath_any _ (X.pods i).node a (X.pods i).needs cap p (by have := HN.out i H3.out; omega) HT.out).mono ?_; rw [← HAN.out]; rintro e y1 ⟨rfl, l1⟩; have L1 : Hid (Low w.heap.size w y1) := HLW.out.trans (l1.mono HLW.out.size); clear l1)
          go_ret
          refine ⟨?_, L1.out⟩
          have : neededOf X.pods node p = true := List.any_eq_true.2 ⟨i, List.mem_range.2 H3.out, by unfold podNeeds; rw [qn, ← HAN.out, qa]; rfl⟩
          rw [this]; rfl
    · have q3 : decide ((i : Int) < 8) = false := by simp; omega
      obtain rfl : i = 8 := by omega
      go_wp2_with fail
      go_ret
      refine ⟨?_, HLW.out⟩
      have := HI.out
      unfold neededTo at this
      unfold neededOf
      rw [this]; rfl
end Go.Proofs.YtphapknfkbgapabDoor
