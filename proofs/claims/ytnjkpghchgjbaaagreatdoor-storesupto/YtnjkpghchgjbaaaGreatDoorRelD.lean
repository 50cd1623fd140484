import Derived.Test.YtnjkpghchgjbaaaGreatDoorPJToRelC
import Derived.Test.YtnjkpghchgjbaaaGreatDoorPBToLawE
import Derived.Test.YtnjkpghchgjbaaaGreatDoorPLToRefL
namespace Go.Proofs.YtnjkpghchgjbaaaGreatDoor
open Go.RowKit

/-! One call on either side: the same answer, and the two coffers stay alike. -/

/-- What a call of the program's does, wherever its coffer lies. -/
def PUni (f : Nat) (args : List Value) (X : PS) (v : Value) (X' : PS) : Prop :=
  ∀ (w : World) (F : Nat → Prop) (b : Nat), XIn w F b X → Fours w → 1 ≤ w.heap.size → Calls Tryz.prog f (.pointer (some ⟨b, 0, none⟩) :: args).toArray w fun e w' =>
    e = .returned v ∧ ∃ F', XIn w' F' b X' ∧ Kept F w w' ∧ ∀ k, F' k → F k ∨ w.heap.size ≤ k
/-- What a call of the document's does. -/
def RUni (f : Nat) (args : List Value) (Y : RS) (v : Value) (Y' : RS) : Prop :=
  ∀ (w : World) (F : Nat → Prop) (b : Nat), RIn w F b Y → Calls Tryz.prog f (.pointer (some ⟨b, 0, none⟩) :: args).toArray w fun e w' =>
    e = .returned v ∧ ∃ F', RIn w' F' b Y' ∧ Kept F w w' ∧ ∀ k, F' k → F k ∨ w.heap.size ≤ k
structure Bd (n : Nat) (Y : RS) : Prop where
  all : Y.all.length ≤ n
  d0 : 0 ≤ Y.draws
  d1 : Y.draws ≤ (n : Int)
def Pair (fx fr : Nat) (args : List Value) (X : PS) (Y : RS) (key : ByteArray) (n : Nat) (v : Value) : Prop :=
  ∃ X' Y', PUni fx args X v X' ∧ RUni fr args Y v Y' ∧ Rel X' Y' key ∧ Bd (n + 1) Y'
theorem Bd.up {n : Nat} {Y : RS} (h : Bd n Y) : Bd (n + 1) Y := ⟨Nat.le_succ_of_le h.all, h.d0, by have := h.d1; omega⟩

theorem Low.keptF {w w' : World} (h : Low w.heap.size w w') (F : Nat → Prop) : Kept F w w' := h.kept.mono (fun _ _ f => f.elim)
theorem p_low {f : Nat} {args : List Value} {X : PS} {v : Value} (h : ∀ (w : World) (F : Nat → Prop) (b : Nat), XIn w F b X → Fours w → 1 ≤ w.heap.size → Calls Tryz.prog f (.pointer (some ⟨b, 0, none⟩) :: args).toArray w fun e w' => e = .returned v ∧ Low w.heap.size w w') : PUni f args X v X :=
  fun w F b hx hF h1 => (h w F b hx hF h1).mono fun _ _ ⟨e, l⟩ => ⟨e, F, hx.low l, l.keptF F, fun _ hk => Or.inl hk⟩
theorem p_same {f : Nat} {args : List Value} {X : PS} {v : Value} (h : ∀ (w : World) (F : Nat → Prop) (b : Nat), XIn w F b X → Calls Tryz.prog f (.pointer (some ⟨b, 0, none⟩) :: args).toArray w fun e w' => e = .returned v ∧ w' = w) : PUni f args X v X :=
  fun w F b hx _ _ => (h w F b hx).mono fun _ _ ⟨e, l⟩ => ⟨e, F, by rw [l]; exact hx, by rw [l]; exact Kept.refl _ _, fun _ hk => Or.inl hk⟩
theorem p_kept {f : Nat} {args : List Value} {X X' : PS} {v : Value} (h : ∀ (w : World) (F : Nat → Prop) (b : Nat), XIn w F b X → Fours w → 1 ≤ w.heap.size → Calls Tryz.prog f (.pointer (some ⟨b, 0, none⟩) :: args).toArray w fun e w' => e = .returned v ∧ XIn w' F b X' ∧ Kept F w w') : PUni f args X v X' :=
  fun w F b hx hF h1 => (h w F b hx hF h1).mono fun _ _ ⟨e, x, k⟩ => ⟨e, F, x, k, fun _ hk => Or.inl hk⟩
theorem p_grow {f : Nat} {args : List Value} {X X' : PS} {v : Value} (h : ∀ (w : World) (F : Nat → Prop) (b : Nat), XIn w F b X → Calls Tryz.prog f (.pointer (some ⟨b, 0, none⟩) :: args).toArray w fun e w' => e = .returned v ∧ XIn w' (grow F w w') b X' ∧ Kept F w w') : PUni f args X v X' :=
  fun w F b hx _ _ => (h w F b hx).mono fun _ w' ⟨e, x, k⟩ => ⟨e, grow F w w', x, k, fun _ hk => hk.imp id (fun q => q.1)⟩
theorem r_low {f : Nat} {args : List Value} {Y : RS} {v : Value} (h : ∀ (w : World) (F : Nat → Prop) (b : Nat), RIn w F b Y → Calls Tryz.prog f (.pointer (some ⟨b, 0, none⟩) :: args).toArray w fun e w' => e = .returned v ∧ Low w.heap.size w w') : RUni f args Y v Y :=
  fun w F b hx => (h w F b hx).mono fun _ _ ⟨e, l⟩ => ⟨e, F, hx.low l, l.keptF F, fun _ hk => Or.inl hk⟩
theorem r_same {f : Nat} {args : List Value} {Y : RS} {v : Value} (h : ∀ (w : World) (F : Nat → Prop) (b : Nat), RIn w F b Y → Calls Tryz.prog f (.pointer (some ⟨b, 0, none⟩) :: args).toArray w fun e w' => e = .returned v ∧ w' = w) : RUni f args Y v Y :=
  fun w F b hx => (h w F b hx).mono fun _ _ ⟨e, l⟩ => ⟨e, F, by rw [l]; exact hx, by rw [l]; exact Kept.refl _ _, fun _ hk => Or.inl hk⟩
theorem r_kept {f : Nat} {args : List Value} {Y Y' : RS} {v : Value} (h : ∀ (w : World) (F : Nat → Prop) (b : Nat), RIn w F b Y → Calls Tryz.prog f (.pointer (some ⟨b, 0, none⟩) :: args).toArray w fun e w' => e = .returned v ∧ RIn w' F b Y' ∧ Kept F w w') : RUni f args Y v Y' :=
  fun w F b hx => (h w F b hx).mono fun _ _ ⟨e, x, k⟩ => ⟨e, F, x, k, fun _ hk => Or.inl hk⟩
theorem r_grow {f : Nat} {args : List Value} {Y Y' : RS} {v : Value} (h : ∀ (w : World) (F : Nat → Prop) (b : Nat), RIn w F b Y → Calls Tryz.prog f (.pointer (some ⟨b, 0, none⟩) :: args).toArray w fun e w' => e = .returned v ∧ RIn w' (grow F w w') b Y' ∧ Kept F w w') : RUni f args Y v Y' :=
  fun w F b hx => (h w F b hx).mono fun _ w' ⟨e, x, k⟩ => ⟨e, grow F w w', x, k, fun _ hk => hk.imp id (fun q => q.1)⟩

theorem set_same {α : Type} {l : List α} {i : Nat} {x : α} (h : l[i]? = some x) : l.set i x = l := by
  obtain ⟨hi, rfl⟩ := List.getElem?_eq_some_iff.1 h
  exact List.set_getElem_self hi
theorem Rel.at {X : PS} {Y : RS} {key : ByteArray} (h : Rel X Y key) {s : Int} (hs : isSrv Y.seen.length s = true) : ∃ (i : Nat) (p : PSrv) (sn : Int) (u : RUnd), s = (i : Int) ∧ X.servers[i]? = some p ∧ At Y i sn u ∧ Same p sn u ∧ i < Y.seen.length ∧ (sn = 0 ∨ sn = 1) := by
  unfold isSrv at hs
  simp at hs
  have hi : s.toNat < Y.seen.length := by omega
  obtain ⟨p, hp⟩ : ∃ p, X.servers[s.toNat]? = some p := ⟨_, List.getElem?_eq_getElem (by rw [h.len.1]; exact hi)⟩
  obtain ⟨sn, u, h1, h2, h3⟩ := h.srv _ _ hp
  exact ⟨s.toNat, p, sn, u, by omega, hp, ⟨h1, h2⟩, h3, hi, h.sn _ _ h1⟩
theorem Rel.put {X : PS} {Y : RS} {key : ByteArray} (h : Rel X Y key) {i : Nat} (hi : i < Y.seen.length) (p : PSrv) (sn : Int) (u : RUnd) (hS : Same p sn u) (h01 : sn = 0 ∨ sn = 1) :
    Rel { X with servers := X.servers.set i p } { Y with seen := Y.seen.set i sn, ops := Y.ops.set i u } key := by
  refine ⟨h.ksize, h.kx, h.ky, h.write, h.ep, h.turn, h.room, h.rooms, h.rev, h.floor, h.floor0, h.draws, by simp [h.len], fun j q hq => ?_, fun j x hx => ?_, h.ent, h.few, h.revs, h.eok⟩
  · have hl := h.len
    replace hq : (X.servers.set i p)[j]? = some q := hq
    show ∃ sn1 u1, (Y.seen.set i sn)[j]? = some sn1 ∧ (Y.ops.set i u)[j]? = some u1 ∧ Same q sn1 u1
    by_cases e : i = j
    · subst e
      rw [List.getElem?_set_self (by omega)] at hq
      obtain rfl := Option.some.inj hq
      exact ⟨sn, u, List.getElem?_set_self hi, List.getElem?_set_self (by omega), hS⟩
    · rw [List.getElem?_set_ne e] at hq
      obtain ⟨a, c, h1, h2, h3⟩ := h.srv j q hq
      exact ⟨a, c, by rw [List.getElem?_set_ne e]; exact h1, by rw [List.getElem?_set_ne e]; exact h2, h3⟩
  · replace hx : (Y.seen.set i sn)[j]? = some x := hx
    by_cases e : i = j
    · subst e
      rw [List.getElem?_set_self hi] at hx
      obtain rfl := Option.some.inj hx
      exact h01
    · rw [List.getElem?_set_ne e] at hx
      exact h.sn j x hx

theorem refresh_pair {X : PS} {Y : RS} {key : ByteArray} {n : Nat} (h : Rel X Y key) (hb : Bd n Y) (s : Int) : ∃ v : Int, Pair 22 23 [.int .i64 s] X Y key n (.int .i64 v) := by
  cases hs : isSrv Y.seen.length s
  · have hx : isSrv X.servers.length s = false := by rw [h.len.1]; exact hs
    exact ⟨4, X, Y, p_same (fun w F b hX => pRefresh_no w s hX hx), r_same (fun w F b hR => Refresh_no w s hR hs), h, hb.up⟩
  · obtain ⟨i, p, sn, u, rfl, hp, ha, hS, hi, h01⟩ := h.at hs
    refine ⟨0, X.refresh i p, Y.refresh (i : Int), p_kept (fun w F b hX _ _ => pRefresh_yes w i p hX hp), r_kept (fun w F b hR => Refresh_yes w i hR hs), ?_, ⟨Nat.le_succ_of_le hb.all, hb.d0, by have := hb.d1; show Y.draws ≤ _; omega⟩⟩
    have q := h.put hi { p with seen := X.epoch } Y.epoch u ⟨by show X.epoch = Y.epoch; rw [h.ep.1, h.ep.2], hS.busy, hS.epoch⟩ (Or.inr h.ep.2)
    rw [set_same ha.op] at q
    unfold PS.refresh RS.refresh
    rw [Int.toNat_natCast]
    exact q
theorem crash_pair {X : PS} {Y : RS} {key : ByteArray} {n : Nat} (h : Rel X Y key) (hb : Bd n Y) (s : Int) : ∃ v : Int, Pair 24 25 [.int .i64 s] X Y key n (.int .i64 v) := by
  cases hs : isSrv Y.seen.length s
  · have hx : isSrv X.servers.length s = false := by rw [h.len.1]; exact hs
    exact ⟨4, X, Y, p_same (fun w F b hX => pCrash_no w s hX hx), r_same (fun w F b hR => Crash_no w s hR hs), h, hb.up⟩
  · obtain ⟨i, p, sn, u, rfl, hp, ha, hS, hi, h01⟩ := h.at hs
    refine ⟨0, X.crash i, Y.crash (i : Int), p_kept (fun w F b hX _ _ => pCrash_yes w i p hX hp), r_kept (fun w F b hR => Crash_yes w i hR hs h.len.2), ?_, ⟨Nat.le_succ_of_le hb.all, hb.d0, by have := hb.d1; show Y.draws ≤ _; omega⟩⟩
    have q := h.put hi PSrv.zero 0 RUnd.zero ⟨rfl, rfl, fun e => by cases e⟩ (Or.inl rfl)
    unfold PS.crash RS.crash
    rw [Int.toNat_natCast]
    exact q
theorem commit_pair {X : PS} {Y : RS} {key : ByteArray} {n : Nat} (h : Rel X Y key) (hb : Bd n Y) (hn : n ≤ 10000000) (s : Int) : ∃ v e : Int, Pair 28 29 [.int .i64 s] X Y key n (.tuple #[.int .i64 v, .int .i64 e]) := by
  cases hs : isSrv Y.seen.length s
  · have hx : isSrv X.servers.length s = false := by rw [h.len.1]; exact hs
    exact ⟨0, 4, X, Y, p_same (fun w F b hX => pCommit_srv w s hX hx), r_same (fun w F b hR => Commit_srv w s hR hs), h, hb.up⟩
  · obtain ⟨i, p, sn, u, rfl, hp, ha, hS, hi, h01⟩ := h.at hs
    cases hbz : p.busy
    · exact ⟨0, 8, X, Y, p_same (fun w F b hX => pCommit_idle w i p hX hp hbz), r_low (fun w F b hR => Commit_idle w i sn u hR ha (by rw [← hS.busy]; exact hbz)), h, hb.up⟩
    · have hA := hb.all
      have hkx : X.keys[0]? = some ⟨key, 1, 1⟩ := by rw [h.kx]; rfl
      have hE := commit_same h hS hbz
      obtain ⟨e1, e2, e3, e4, e5, e6, e7⟩ := hS.epoch hbz
      have q := h.put hi p.rest sn RUnd.zero ⟨hS.seen, rfl, fun e => by cases e⟩ h01
      rw [set_same ha.seen] at q
      have hx1 := fun (w : World) (F : Nat → Prop) (b : Nat) (hX : XIn w F b X) => pCommit_any w i p ⟨key, 1, 1⟩ 0 hX hp hbz (by rw [h.write]; rfl) hkx (by simp [h.kx]) (by have := h.few; have := h.rooms; omega) (by rw [h.rev]; omega)
      have hr1 := fun (w : World) (F : Nat → Prop) (b : Nat) (hR : RIn w F b Y) => Commit_any w i sn u hR ha (by rw [← hS.busy]; exact hbz) (by omega) (by simp [h.ky]) (by simp [h.ky])
      have eRev : X.commitRev 1 p = Y.commitRev u := by unfold PS.commitRev RS.commitRev; rw [hE, h.rev]
      refine ⟨Y.commitRev u, commitErr Y u, X.commit 1 i p, Y.commit i u, p_grow (fun w F b hX => ?_), r_grow hr1, ?_, ?_⟩
      · have := hx1 w F b hX
        rw [eRev, hE] at this
        exact this
      · unfold PS.commit RS.commit
        rw [hE]
        by_cases hc : (commitErr Y u == 0) = true
        · rw [if_pos hc, if_pos hc]
          have hfull : fullOf Y = false := by
            have hc0 : commitErr Y u = 0 := by simpa using hc
            cases hf : fullOf Y
            · rfl
            · exfalso
              revert hc0
              unfold commitErr
              rw [hf]
              split
              · intro z; cases z
              · split
                · intro z; cases z
                · split
                  · intro z; cases z
                  · intro z; cases z
          have hlen : ((keptOf Y.all).length : Int) < Y.room := by unfold fullOf at hfull; simp at hfull; exact hfull
          have hrev : X.rev + 1 = (Y.all.length : Int) + 1 := by rw [h.rev]
          refine ⟨h.ksize, h.kx, h.ky, h.write, h.ep, h.turn, h.room, h.rooms, ?_, h.floor, h.floor0, h.draws, q.len, q.srv, q.sn, ?_, ?_, ?_, ?_⟩
          · show X.rev + 1 = ((Y.all ++ [_]).length : Int)
            rw [h.rev, List.length_append]; rfl
          · show X.entries ++ [{ p.e with rev := X.rev + 1 }] = keptOf (Y.all ++ [⟨{ u.e with rev := (Y.all.length : Int) + 1 }, false⟩])
            rw [keptOf_snoc, h.ent, e3, hrev]
            rfl
          · show ((X.entries ++ [{ p.e with rev := X.rev + 1 }]).length : Int) ≤ Y.room
            rw [h.ent, List.length_append]
            show (((keptOf Y.all).length + 1 : Nat) : Int) ≤ Y.room
            omega
          · show Revs (Y.all ++ [⟨{ u.e with rev := (Y.all.length : Int) + 1 }, false⟩])
            intro j k hk
            by_cases hj : j < Y.all.length
            · rw [List.getElem?_append_left hj] at hk
              exact h.revs j k hk
            · rw [List.getElem?_append_right (by omega)] at hk
              have hj0 : j = Y.all.length := by
                have := (List.getElem?_eq_some_iff.1 hk).1
                simp at this
                omega
              subst hj0
              rw [Nat.sub_self] at hk
              obtain rfl := (Option.some.inj hk).symm
              rfl
          · show ∀ k ∈ Y.all ++ [⟨{ u.e with rev := (Y.all.length : Int) + 1 }, false⟩], k.e.gone = false → EntOk k.e ∧ k.e.key = 1
            intro k hk hg
            rcases List.mem_append.1 hk with hk | hk
            · exact h.eok k hk hg
            · obtain rfl := List.mem_singleton.1 hk
              obtain ⟨o1, o2⟩ := e7 hg
              exact ⟨⟨o1.path, o1.draw, o1.sealed⟩, o2⟩
        · rw [if_neg hc, if_neg hc]
          exact q
      · unfold RS.commit
        by_cases hc : (commitErr Y u == 0) = true
        · rw [if_pos hc]
          refine ⟨?_, hb.d0, by have := hb.d1; show Y.draws ≤ _; omega⟩
          show (Y.all ++ [_]).length ≤ n + 1
          rw [List.length_append]
          show Y.all.length + 1 ≤ n + 1
          omega
        · rw [if_neg hc]
          exact ⟨by show Y.all.length ≤ _; omega, hb.d0, by have := hb.d1; show Y.draws ≤ _; omega⟩
end Go.Proofs.YtnjkpghchgjbaaaGreatDoor
