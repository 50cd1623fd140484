import Derived.Test.YtphapknfkbgapaaGreatDoorLawEToRefK
import Derived.Test.YtphapknfkbgapaaGreatDoorPIToPK
import Derived.Test.YtphapknfkbgapaaGreatDoorPRepToPO
namespace Go.Proofs.YtphapknfkbgapaaGreatDoor
open Go.RowKit

/-- An operation under way, on either side. -/
structure Same (s : PSrv) (sn : Int) (u : RUnd) : Prop where
  seen : s.seen = sn
  busy : s.busy = u.on
  epoch : s.busy = true → s.epoch = u.epoch ∧ s.rev = u.want ∧ s.e = u.e ∧ -1 ≤ u.want ∧ 1 ≤ u.epoch ∧ (1 ≤ u.e.path.size ∧ u.e.path.size ≤ 16) ∧ (u.e.gone = false → EntOk u.e ∧ u.e.key = 1)
/-- The program's coffer and the document's, under one key. -/
structure Rel (X : PS) (Y : RS) (key : ByteArray) : Prop where
  ksize : key.size = 48
  kx : X.keys = [⟨key, 1, 1⟩]
  ky : Y.keys = [⟨key, 1, 1, false⟩]
  write : X.write = 1
  ep : X.epoch = 1 ∧ Y.epoch = 1
  turn : X.turn = 0 ∧ Y.turn = 0
  room : X.room = Y.room
  rooms : 1 ≤ Y.room ∧ Y.room ≤ 60
  rev : X.rev = (Y.all.length : Int)
  floor : X.floor = Y.floor
  floor0 : 0 ≤ Y.floor
  draws : X.draws = Y.draws
  len : X.servers.length = Y.seen.length ∧ Y.ops.length = Y.seen.length
  srv : ∀ (i : Nat) (s : PSrv), X.servers[i]? = some s → ∃ sn u, Y.seen[i]? = some sn ∧ Y.ops[i]? = some u ∧ Same s sn u
  sn : ∀ (i : Nat) (sn : Int), Y.seen[i]? = some sn → sn = 0 ∨ sn = 1
  ent : X.entries = keptOf Y.all
  few : (X.entries.length : Int) ≤ Y.room
  revs : Revs Y.all
  eok : ∀ k ∈ Y.all, k.e.gone = false → EntOk k.e ∧ k.e.key = 1

theorem rev_there (L : Option Ent) (h : ∀ e, L = some e → 1 ≤ e.rev) : ((if (L.getD Ent.zero).gone then (0 : Int) else (L.getD Ent.zero).rev) == 0) = !thereOf L ∧ (thereOf L = true → (if (L.getD Ent.zero).gone then (0 : Int) else (L.getD Ent.zero).rev) = (L.getD Ent.zero).rev) := by
  cases L with
  | none => exact ⟨rfl, fun h => by cases h⟩
  | some e =>
    have h1 := h e rfl
    cases hg : e.gone
    · refine ⟨?_, fun _ => by simp [hg]⟩
      simp [thereOf, hg]
      omega
    · exact ⟨by simp [thereOf, hg], fun h => by simp [thereOf, hg] at h⟩
theorem conflict_same (L : Option Ent) (r want : Int) (hw : -1 ≤ want) (h0 : (r == 0) = !thereOf L) (h1 : thereOf L = true → r = (L.getD Ent.zero).rev) (hr : thereOf L = true → 1 ≤ r) : ((want != -1) && (want != r)) = conflictOf L want := by
  unfold conflictOf
  cases ht : thereOf L
  · have r0 : r = 0 := by simpa [ht] using h0
    subst r0
    rw [Bool.eq_iff_iff]
    simp
    omega
  · have e1 := h1 ht
    have e2 := hr ht
    rw [← e1]
    rw [Bool.eq_iff_iff]
    simp
    omega
theorem commit_same {X : PS} {Y : RS} {key : ByteArray} (h : Rel X Y key) {s : PSrv} {sn : Int} {u : RUnd} (hs : Same s sn u) (hb : s.busy = true) : pCommitErr X 1 s = commitErr Y u := by
  obtain ⟨e1, e2, e3, e4, e5, _, _⟩ := hs.epoch hb
  unfold pCommitErr pErr commitErr
  have hp : promOf Y.keys = 0 := by rw [h.ky]; rfl
  have hn : newestOf X.entries s.e.path X.rev = (lastOf Y.all u.e.path).getD Ent.zero := by rw [h.ent, h.rev, newest_all _ _ h.revs, e3]
  obtain ⟨L, hL⟩ : ∃ L, L = lastOf Y.all u.e.path := ⟨_, rfl⟩
  rw [← hL] at hn
  have h1 : ∀ e, L = some e → 1 ≤ e.rev := by
    intro e he
    rw [hL] at he
    obtain ⟨k, hk, rfl, _⟩ := lastOf_mem he
    obtain ⟨i, hi⟩ := List.getElem?_of_mem hk
    have := h.revs i k hi
    omega
  obtain ⟨q1, q2⟩ := rev_there L h1
  have hpr : pRevOf X s.e.path = (if (L.getD Ent.zero).gone then (0 : Int) else (L.getD Ent.zero).rev) := by unfold pRevOf; rw [hn]
  obtain ⟨r, hr⟩ : ∃ r, r = pRevOf X s.e.path := ⟨_, rfl⟩
  rw [← hpr, ← hr] at q1 q2
  have q3 : thereOf L = true → 1 ≤ r := fun ht => by
    rw [q2 ht]
    cases L with
    | none => cases ht
    | some e => exact h1 e rfl
  have hf : pFull X = fullOf Y := by unfold pFull fullOf; rw [h.room, h.ent]
  rw [hp, ← hr, hf, e1, e2, e3, ← hL, conflict_same L r u.want e4 q1 q2 q3, q1]
  rw [decide_eq_false (by omega), decide_eq_false (by omega)]
end Go.Proofs.YtphapknfkbgapaaGreatDoor
namespace Go.Proofs.YtphapknfkbgapaaGreatDoor
open Go.RowKit

theorem allTo_snoc (l : List RKept) (k : RKept) (f : Nat → Bool) (r : Nat) : allTo (l ++ [k]) f r = allTo l f r ++ [if l.length < r then { k with out := k.out || f l.length } else k] := by
  unfold allTo
  rw [List.mapIdx_append]
  simp
theorem kept_filter (P : Ent → Bool) (f : Nat → Bool) (r : Nat) (l : List RKept) : (∀ (j : Nat) (k : RKept), l[j]? = some k → k.out = false → P k.e = !(decide (j < r) && f j)) → (keptOf l).filter P = keptOf (allTo l f r) := by
  refine snoc_ind (P := fun l => (∀ (j : Nat) (k : RKept), l[j]? = some k → k.out = false → P k.e = !(decide (j < r) && f j)) → (keptOf l).filter P = keptOf (allTo l f r)) ?_ ?_ l
  · intro _; rfl
  · intro l k ih h
    have ih := ih (fun j x hx => h j x (by rw [List.getElem?_append_left (List.getElem?_eq_some_iff.1 hx).1]; exact hx))
    have hk := h l.length k (by rw [List.getElem?_append_right (Nat.le_refl _)]; simp)
    rw [keptOf_snoc, allTo_snoc, keptOf_snoc, ← ih]
    cases ho : k.out
    · have hk := hk ho
      by_cases hr : l.length < r
      · rw [if_pos hr]
        cases hf : f l.length
        · simp [hr, hf] at hk
          simp [hk]
        · simp [hr, hf] at hk
          simp [hk]
      · rw [if_neg hr]
        simp [hr] at hk
        simp [ho, hk]
    · by_cases hr : l.length < r
      · rw [if_pos hr]; simp
      · rw [if_neg hr]; simp [ho]
theorem compact_same {X : PS} {Y : RS} {key : ByteArray} (h : Rel X Y key) (r : Nat) : (X.compact (r : Int)).entries = keptOf (Y.compact r).all := by
  show X.entries.filter (fun e => outl X e (r : Int)) = keptOf (allTo Y.all (outAt Y.all r) r)
  have e0 : ∀ e : Ent, outl X e (r : Int) = (decide ((r : Int) < e.rev) || ((e.rev == ((lastOf (Y.all.take r) e.path).getD Ent.zero).rev) && !e.gone)) := by
    intro e
    unfold outl
    rw [h.ent, newest_last _ _ _ h.revs, Int.toNat_natCast]
  rw [h.ent]
  refine kept_filter (fun e => outl X e (r : Int)) (outAt Y.all r) r Y.all (fun j k hk ho => ?_)
  show outl X k.e (r : Int) = _
  rw [e0]
  have hrev := h.revs j k hk
  have hout : outAt Y.all r j = ((((lastOf (Y.all.take r) k.e.path).getD Ent.zero).rev != (j : Int) + 1) || ((lastOf (Y.all.take r) k.e.path).getD Ent.zero).gone) := by
    unfold outAt; rw [hk]
  rw [hout, hrev]
  by_cases hj : j < r
  · have d1 : decide ((r : Int) < (j : Int) + 1) = false := by simp; omega
    rw [d1, decide_eq_true hj, Bool.false_or, Bool.true_and]
    cases hL : lastOf (Y.all.take r) k.e.path with
    | none =>
      have : ((0 : Int) != (j : Int) + 1) = true := by rw [bne_iff_ne]; omega
      have h2 : (((j : Int) + 1) == (0 : Int)) = false := by rw [beq_eq_false_iff_ne]; omega
      simp [Ent.zero, this, h2]
    | some e =>
      simp only [Option.getD_some]
      by_cases he : e.rev = (j : Int) + 1
      · obtain ⟨k2, hm, rfl, _, _⟩ := lastOf_mem hL
        obtain ⟨i, hi⟩ := List.getElem?_of_mem hm
        have hi2 : Y.all[i]? = some k2 := by
          rw [List.getElem?_take] at hi
          split at hi
          · exact hi
          · cases hi
        have hr2 := h.revs i k2 hi2
        obtain rfl : i = j := by omega
        obtain rfl : k2 = k := Option.some.inj (hi2.symm.trans hk)
        simp [he]
      · have a1 : (((j : Int) + 1) == e.rev) = false := by rw [beq_eq_false_iff_ne]; omega
        have a2 : (e.rev != (j : Int) + 1) = true := by rw [bne_iff_ne]; exact he
        simp [a1, a2]
  · have d1 : decide ((r : Int) < (j : Int) + 1) = true := by simp; omega
    rw [d1, decide_eq_false hj]
    simp
end Go.Proofs.YtphapknfkbgapaaGreatDoor
namespace Go.Proofs.YtphapknfkbgapaaGreatDoor
open Go.RowKit

variable {F : Nat → Prop} {b : Nat} {X : PS}

theorem pGet_srv (w : World) (s : Int) (p : ByteArray) (h : XIn w F b X) (hs : isSrv X.servers.length s = false) :
    Calls Tryz.prog 31 #[.pointer (some ⟨b, 0, none⟩), .int .i64 s, .string p] w fun e w' => e = .returned (.tuple #[.string ⟨#[]⟩, .int .i64 0, .int .i64 4]) ∧ w' = w := by
  have HR := hid h
  have HS := hid hs
  clear h hs
  go_enter Tryz.func31, Tryz.ntmps31
  go_wp2_with (go_at_call 73; refine (mayRead_srv _ _ HR.out HS.out).mono ?_; rintro e y1 ⟨rfl, hy⟩; obtain rfl := hy.symm)
  go_ret3
  exact ⟨rfl, rfl⟩
theorem pGet_blind (w : World) (i : Nat) (s : PSrv) (p : ByteArray) (h : XIn w F b X) (ha : X.servers[i]? = some s) (hs : (s.seen == 0) = true) :
    Calls Tryz.prog 31 #[.pointer (some ⟨b, 0, none⟩), .int .i64 (i : Int), .string p] w fun e w' => e = .returned (.tuple #[.string ⟨#[]⟩, .int .i64 0, .int .i64 6]) ∧ w' = w := by
  have HR := hid h
  have HA := hid ha
  have HE : Hid (readErr s = 6) := by show _ = _; unfold readErr; rw [hs]; rfl
  clear h hs ha
  go_enter Tryz.func31, Tryz.ntmps31
  go_wp2_with (go_at_call 73; refine (mayRead_any _ _ _ HR.out HA.out).mono ?_; rw [HE.out]; rintro e y1 ⟨rfl, hy⟩; obtain rfl := hy.symm)
  go_ret3
  exact ⟨rfl, rfl⟩
set_option maxRecDepth 100000 in
theorem pGet_ok (w : World) (i : Nat) (s : PSrv) (p : ByteArray) (h : XIn w F b X) (ha : X.servers[i]? = some s) (hs : (s.seen == 0) = false) (A : ByteArray) (B C : Int)
    (hr : Calls Tryz.prog 74 #[.pointer (some ⟨b, 0, none⟩), .int .i64 (i : Int), .string p, .int .i64 X.rev] w fun e w' => e = .returned (.tuple #[.string A, .int .i64 B, .int .i64 C]) ∧ Low w.heap.size w w') :
    Calls Tryz.prog 31 #[.pointer (some ⟨b, 0, none⟩), .int .i64 (i : Int), .string p] w fun e w' => e = .returned (.tuple #[.string A, .int .i64 B, .int .i64 C]) ∧ Low w.heap.size w w' := by
  have HR := hid h
  have HA := hid ha
  have HRD := hid hr
  have HE : Hid (readErr s = 0) := by show _ = _; unfold readErr; rw [hs]; rfl
  have c0 := xin_rev h
  clear h hs ha hr
  go_enter Tryz.func31, Tryz.ntmps31
  go_wp2_with (first | (go_at_call 73; refine (mayRead_any _ _ _ HR.out HA.out).mono ?_; rw [HE.out]; rintro e y1 ⟨rfl, hy⟩; obtain rfl := hy.symm) | (go_at_call 74; refine HRD.out.mono ?_; rintro e y2 ⟨rfl, l2⟩; have L2 := hid l2; clear l2))
  go_ret3
  exact ⟨rfl, L2.out⟩
theorem pGetAt_srv (w : World) (s : Int) (p : ByteArray) (rev : Int) (h : XIn w F b X) (hs : isSrv X.servers.length s = false) :
    Calls Tryz.prog 33 #[.pointer (some ⟨b, 0, none⟩), .int .i64 s, .string p, .int .i64 rev] w fun e w' => e = .returned (.tuple #[.string ⟨#[]⟩, .int .i64 0, .int .i64 4]) ∧ w' = w := by
  have HR := hid h
  have HS := hid hs
  clear h hs
  go_enter Tryz.func33, Tryz.ntmps33
  go_wp2_with (go_at_call 73; refine (mayRead_srv _ _ HR.out HS.out).mono ?_; rintro e y1 ⟨rfl, hy⟩; obtain rfl := hy.symm)
  go_ret3
  exact ⟨rfl, rfl⟩
theorem pGetAt_blind (w : World) (i : Nat) (s : PSrv) (p : ByteArray) (rev : Int) (h : XIn w F b X) (ha : X.servers[i]? = some s) (hs : (s.seen == 0) = true) :
    Calls Tryz.prog 33 #[.pointer (some ⟨b, 0, none⟩), .int .i64 (i : Int), .string p, .int .i64 rev] w fun e w' => e = .returned (.tuple #[.string ⟨#[]⟩, .int .i64 0, .int .i64 6]) ∧ w' = w := by
  have HR := hid h
  have HA := hid ha
  have HE : Hid (readErr s = 6) := by show _ = _; unfold readErr; rw [hs]; rfl
  clear h hs ha
  go_enter Tryz.func33, Tryz.ntmps33
  go_wp2_with (go_at_call 73; refine (mayRead_any _ _ _ HR.out HA.out).mono ?_; rw [HE.out]; rintro e y1 ⟨rfl, hy⟩; obtain rfl := hy.symm)
  go_ret3
  exact ⟨rfl, rfl⟩
def pBadRev (X : PS) (rev : Int) : Bool := decide (rev < X.floor) || decide (X.rev < rev)
set_option maxRecDepth 100000 in
theorem pGetAt_rev (w : World) (i : Nat) (s : PSrv) (p : ByteArray) (rev : Int) (h : XIn w F b X) (ha : X.servers[i]? = some s) (hs : (s.seen == 0) = false) (hb : pBadRev X rev = true) :
    Calls Tryz.prog 33 #[.pointer (some ⟨b, 0, none⟩), .int .i64 (i : Int), .string p, .int .i64 rev] w fun e w' => e = .returned (.tuple #[.string ⟨#[]⟩, .int .i64 0, .int .i64 15]) ∧ w' = w := by
  have HR := hid h
  have HA := hid ha
  have HE : Hid (readErr s = 0) := by show _ = _; unfold readErr; rw [hs]; rfl
  have c0 := xin_rev h
  have c1 := xin_floor h
  clear h hs ha
  cases h1 : decide (rev < X.floor)
  · have h2 : decide (X.rev < rev) = true := by simpa [pBadRev, h1] using hb
    clear hb
    go_enter Tryz.func33, Tryz.ntmps33
    go_wp2_with (go_at_call 73; refine (mayRead_any _ _ _ HR.out HA.out).mono ?_; rw [HE.out]; rintro e y1 ⟨rfl, hy⟩; obtain rfl := hy.symm)
    go_ret3
    exact ⟨rfl, rfl⟩
  · clear hb
    go_enter Tryz.func33, Tryz.ntmps33
    go_wp2_with (go_at_call 73; refine (mayRead_any _ _ _ HR.out HA.out).mono ?_; rw [HE.out]; rintro e y1 ⟨rfl, hy⟩; obtain rfl := hy.symm)
    go_ret3
    exact ⟨rfl, rfl⟩
set_option maxRecDepth 100000 in
theorem pGetAt_ok (w : World) (i : Nat) (s : PSrv) (p : ByteArray) (rev : Int) (h : XIn w F b X) (ha : X.servers[i]? = some s) (hs : (s.seen == 0) = false) (hb : pBadRev X rev = false) (A : ByteArray) (B C : Int)
    (hr : Calls Tryz.prog 74 #[.pointer (some ⟨b, 0, none⟩), .int .i64 (i : Int), .string p, .int .i64 rev] w fun e w' => e = .returned (.tuple #[.string A, .int .i64 B, .int .i64 C]) ∧ Low w.heap.size w w') :
    Calls Tryz.prog 33 #[.pointer (some ⟨b, 0, none⟩), .int .i64 (i : Int), .string p, .int .i64 rev] w fun e w' => e = .returned (.tuple #[.string A, .int .i64 B, .int .i64 C]) ∧ Low w.heap.size w w' := by
  have HR := hid h
  have HA := hid ha
  have HRD := hid hr
  have HE : Hid (readErr s = 0) := by show _ = _; unfold readErr; rw [hs]; rfl
  have c0 := xin_rev h
  have c1 := xin_floor h
  simp only [pBadRev, Bool.or_eq_false_iff] at hb
  have h1 := hb.1
  have h2 := hb.2
  clear h hs ha hr hb
  go_enter Tryz.func33, Tryz.ntmps33
  go_wp2_with (first | (go_at_call 73; refine (mayRead_any _ _ _ HR.out HA.out).mono ?_; rw [HE.out]; rintro e y1 ⟨rfl, hy⟩; obtain rfl := hy.symm) | (go_at_call 74; refine HRD.out.mono ?_; rintro e y2 ⟨rfl, l2⟩; have L2 := hid l2; clear l2))
  go_ret3
  exact ⟨rfl, L2.out⟩
end Go.Proofs.YtphapknfkbgapaaGreatDoor
namespace Go.Proofs.YtphapknfkbgapaaGreatDoor
open Go.RowKit

variable {F : Nat → Prop} {b : Nat} {Y : RS}

set_option maxRecDepth 100000 in
set_option maxHeartbeats 1000000 in
theorem get_srv (w : World) (s : Int) (name : ByteArray) (rev : Int) (asked : Bool) (h : RIn w F b Y) (hs : isSrv Y.seen.length s = false) :
    Calls Tryz.prog 75 #[.pointer (some ⟨b, 0, none⟩), .int .i64 s, .string name, .int .i64 rev, .bool asked] w fun e w' => e = .returned (.tuple #[.string ⟨#[]⟩, .int .i64 0, .int .i64 4]) ∧ Low w.heap.size w w' := by
  have HR := hid h
  have HS := hid hs
  clear h hs
  go_enter Tryz.func75, Tryz.ntmps75
  go_wp2_with (go_at_call 61; refine (server_any _ _ HR.out).mono ?_; rw [HS.out]; rintro e y1 ⟨rfl, hy⟩; obtain rfl := hy.symm)
  go_ret3
  exact ⟨rfl, Low.refl _ _⟩
set_option maxRecDepth 100000 in
set_option maxHeartbeats 1000000 in
theorem get_blind (w : World) (i : Nat) (sn : Int) (u : RUnd) (name : ByteArray) (rev : Int) (asked : Bool) (h : RIn w F b Y) (ha : At Y i sn u) (hsn : (sn == 0) = true) :
    Calls Tryz.prog 75 #[.pointer (some ⟨b, 0, none⟩), .int .i64 i, .string name, .int .i64 rev, .bool asked] w fun e w' => e = .returned (.tuple #[.string ⟨#[]⟩, .int .i64 0, .int .i64 6]) ∧ Low w.heap.size w w' := by
  have HR := hid h
  have HS := hid ha.srv
  obtain ⟨gS, capS, hcS, hgS, s0⟩ := h.seenAt ha
  have i2 : (i : Int) < (Y.seen.length : Int) := by have := ha.len.1; omega
  clear h ha
  go_enter Tryz.func75, Tryz.ntmps75
  go_wp2_with (go_at_call 61; refine (server_any _ _ HR.out).mono ?_; rw [HS.out]; rintro e y1 ⟨rfl, hy⟩; obtain rfl := hy.symm)
  go_ret3
  exact ⟨rfl, Low.refl _ _⟩
/-- A revision that may not be asked for. -/
def badRev (Y : RS) (rev : Int) (asked : Bool) : Bool := asked && (decide (rev < Y.floor) || decide ((Y.all.length : Int) < rev))
set_option maxRecDepth 100000 in
set_option maxHeartbeats 1000000 in
theorem get_rev (w : World) (i : Nat) (sn : Int) (u : RUnd) (name : ByteArray) (rev : Int) (asked : Bool) (h : RIn w F b Y) (ha : At Y i sn u) (hsn : (sn == 0) = false) (_hn : Y.all.length ≤ 100000000) (hr : badRev Y rev asked = true) :
    Calls Tryz.prog 75 #[.pointer (some ⟨b, 0, none⟩), .int .i64 i, .string name, .int .i64 rev, .bool asked] w fun e w' => e = .returned (.tuple #[.string ⟨#[]⟩, .int .i64 0, .int .i64 15]) ∧ Low w.heap.size w w' := by
  have HR := hid h
  have HS := hid ha.srv
  obtain ⟨gS, capS, hcS, hgS, s0⟩ := h.seenAt ha
  have i2 : (i : Int) < (Y.seen.length : Int) := by have := ha.len.1; omega
  obtain ⟨a3, cap3, hc3, _⟩ := h.all
  rw [List.length_map] at hc3
  have c8 := h.floor
  clear h ha
  cases hA : asked
  · simp [badRev, hA] at hr
  · subst hA
    cases h1 : decide (rev < Y.floor)
    · have h2 : decide ((Y.all.length : Int) < rev) = true := by simpa [badRev, h1] using hr
      clear hr
      go_enter Tryz.func75, Tryz.ntmps75
      go_wp2_with (go_at_call 61; refine (server_any _ _ HR.out).mono ?_; rw [HS.out]; rintro e y1 ⟨rfl, hy⟩; obtain rfl := hy.symm)
      go_ret3
      exact ⟨rfl, Low.refl _ _⟩
    · clear hr
      go_enter Tryz.func75, Tryz.ntmps75
      go_wp2_with (go_at_call 61; refine (server_any _ _ HR.out).mono ?_; rw [HS.out]; rintro e y1 ⟨rfl, hy⟩; obtain rfl := hy.symm)
      go_ret3
      exact ⟨rfl, Low.refl _ _⟩
-- GEN
/-- The revision that is told beside what was opened. -/
def revOr (O : ByteArray × Int) (r : Int) : Int := if O.2 == 0 then r else 0
set_option maxRecDepth 100000 in
set_option maxHeartbeats 1000000 in
theorem get_none_false (w : World) (i : Nat) (sn : Int) (u : RUnd) (name : ByteArray) (rev : Int) (h : RIn w F b Y) (ha : At Y i sn u) (hsn : (sn == 0) = false) (hn : Y.all.length ≤ 100000000) (ht : thereOf (lastOf (Y.all.take rev.toNat) name) = false) :
    Calls Tryz.prog 75 #[.pointer (some ⟨b, 0, none⟩), .int .i64 i, .string name, .int .i64 rev, .bool false] w fun e w' => e = .returned (.tuple #[.string ⟨#[]⟩, .int .i64 0, .int .i64 12]) ∧ Low w.heap.size w w' := by
  have HR := hid h
  have HS := hid ha.srv
  have HA := hid ha
  have hb := h.lt
  obtain ⟨gS, capS, hcS, hgS, s0⟩ := h.seenAt ha
  have i2 : (i : Int) < (Y.seen.length : Int) := by have := ha.len.1; omega
  obtain ⟨a3, cap3, hc3, _⟩ := h.all
  rw [List.length_map] at hc3
  have c8 := h.floor
  obtain ⟨X, hX⟩ : ∃ X, (lastOf (Y.all.take rev.toNat) name).getD Ent.zero = X := ⟨_, rfl⟩
  have HX := hid hX
  unfold thereOf at ht
  rw [hX] at ht
  clear h ha hX
  cases hT : (lastOf (Y.all.take rev.toNat) name).isSome
  · have HT := hid hT
    clear hT ht
    go_enter Tryz.func75, Tryz.ntmps75
    go_wp2_with (first | (go_at_call 61; refine (server_any _ _ HR.out).mono ?_; rw [HS.out]; rintro e y1 ⟨rfl, hy⟩; obtain rfl := hy.symm) | (go_at_call 70; refine (last_any _ _ _ HR.out hn).mono ?_; rw [HX.out, HT.out]; rintro e y1 ⟨rfl, l1⟩; have L1 := hid l1; clear l1) | ((with_reducible refine st50 (.tmp 14) (.tmp 54) y1.heap.size Ent.zero X ?_ ?_ ?_ ?_); rfl; rfl; exact (Blk.new y1 50 Ent.zero.cells); intro W b2 k2 s2; have m5 : W.cell? ⟨y1.heap.size, 5, none⟩ = some (.bool X.gone) := b2.cell 5; have LW : Hid (Low w.heap.size w W) := low_set (L1.out.alloc L1.out.size _) k2 L1.out.size (by have := L1.out.size; simp; omega); have B2 := hid b2; clear b2 k2 s2))
    go_ret3
    exact ⟨rfl, LW.out⟩
  · have HT := hid hT
    have hg : X.gone = true := by rw [hT] at ht; simpa using ht
    clear hT ht
    go_enter Tryz.func75, Tryz.ntmps75
    go_wp2_with (first | (go_at_call 61; refine (server_any _ _ HR.out).mono ?_; rw [HS.out]; rintro e y1 ⟨rfl, hy⟩; obtain rfl := hy.symm) | (go_at_call 70; refine (last_any _ _ _ HR.out hn).mono ?_; rw [HX.out, HT.out]; rintro e y1 ⟨rfl, l1⟩; have L1 := hid l1; clear l1) | ((with_reducible refine st50 (.tmp 14) (.tmp 54) y1.heap.size Ent.zero X ?_ ?_ ?_ ?_); rfl; rfl; exact (Blk.new y1 50 Ent.zero.cells); intro W b2 k2 s2; have m5 : W.cell? ⟨y1.heap.size, 5, none⟩ = some (.bool X.gone) := b2.cell 5; have LW : Hid (Low w.heap.size w W) := low_set (L1.out.alloc L1.out.size _) k2 L1.out.size (by have := L1.out.size; simp; omega); have B2 := hid b2; clear b2 k2 s2))
    go_ret3
    exact ⟨rfl, LW.out⟩
set_option maxRecDepth 100000 in
set_option maxHeartbeats 1000000 in
theorem get_some_false (w : World) (i : Nat) (sn : Int) (u : RUnd) (name : ByteArray) (rev : Int) (X : Ent) (K : RKey) (ki : Nat) (h : RIn w F b Y) (ha : At Y i sn u) (hsn : (sn == 0) = false) (hn : Y.all.length ≤ 100000000) (hl : lastOf (Y.all.take rev.toNat) name = some X) (hg : X.gone = false)
    (hk : Y.keys[ki]? = some K) (hi : X.key = (ki : Int) + 1) (hi6 : ki ≤ 6) (hK : K.text.size = 48) (hE : EntOk X) :
    Calls Tryz.prog 75 #[.pointer (some ⟨b, 0, none⟩), .int .i64 i, .string name, .int .i64 rev, .bool false] w fun e w' =>
      e = .returned (.tuple #[.string (openedOf K X sn).1, .int .i64 (revOr (openedOf K X sn) X.rev), .int .i64 (openedOf K X sn).2]) ∧ Low w.heap.size w w' := by
  obtain ⟨xp, xr, xk, xd, xs, xg⟩ := X
  obtain rfl : xg = false := hg
  have HR := hid h
  have HS := hid ha.srv
  have HA := hid ha
  have hb := h.lt
  obtain ⟨gS, capS, hcS, hgS, s0⟩ := h.seenAt ha
  have i2 : (i : Int) < (Y.seen.length : Int) := by have := ha.len.1; omega
  obtain ⟨a3, cap3, hc3, _⟩ := h.all
  rw [List.length_map] at hc3
  have c8 := h.floor
  have HX : Hid ((lastOf (Y.all.take rev.toNat) name).getD Ent.zero = (Ent.mk xp xr xk xd xs false)) := by show _ = _; rw [hl]; rfl
  have HT : Hid ((lastOf (Y.all.take rev.toNat) name).isSome = true) := by show _ = _; rw [hl]; rfl
  have HK1 := hid hk
  have HK2 := hid hi
  have HK3 := hid hK
  have HE := hid hE
  obtain ⟨O, hO⟩ : ∃ O, O = openedOf K (Ent.mk xp xr xk xd xs false) sn := ⟨_, rfl⟩
  have HO := hid hO
  clear h ha hl hk hi hK hE hO
  go_enter Tryz.func75, Tryz.ntmps75
  go_upto_region 11 with (first | (go_at_call 61; refine (server_any _ _ HR.out).mono ?_; rw [HS.out]; rintro e y1 ⟨rfl, hy⟩; obtain rfl := hy.symm) | (go_at_call 70; refine (last_any _ _ _ HR.out hn).mono ?_; rw [HX.out, HT.out]; rintro e y1 ⟨rfl, l1⟩; have L1 := hid l1; clear l1) | ((with_reducible refine st50 (.tmp 14) (.tmp 54) y1.heap.size Ent.zero (Ent.mk xp xr xk xd xs false) ?_ ?_ ?_ ?_); rfl; rfl; exact (Blk.new y1 50 Ent.zero.cells); intro W b2 k2 s2; have m5 : W.cell? ⟨y1.heap.size, 5, none⟩ = some (.bool false) := b2.cell 5; have LW : Hid (Low w.heap.size w W) := low_set (L1.out.alloc L1.out.size _) k2 L1.out.size (by have := L1.out.size; simp; omega); have B2 := hid b2; clear b2 k2 s2))
  have RW : Hid (RIn W F b Y) := HR.out.low LW.out
  obtain ⟨g2, cap2, hc2, hg2, t0⟩ := RW.out.seenAt HA.out
  have x0 : W.cell? ⟨y1.heap.size, 0, none⟩ = some (.string xp) := B2.out.cell 0
  have x1 : W.cell? ⟨y1.heap.size, 1, none⟩ = some (.int .i64 xr) := B2.out.cell 1
  have x2 : W.cell? ⟨y1.heap.size, 2, none⟩ = some (.int .i64 xk) := B2.out.cell 2
  have x3 : W.cell? ⟨y1.heap.size, 3, none⟩ = some (.int .i64 xd) := B2.out.cell 3
  have x4 : W.cell? ⟨y1.heap.size, 4, none⟩ = some (.string xs) := B2.out.cell 4
  have lb : b < W.heap.size := RW.out.lt
  have lm : y1.heap.size < W.heap.size := B2.out.lt
  clear hcS hgS s0 hc3 c8 hb
  go_cut [16, 17] (fun tv ev wc => tv = .string O.1 ∧ ev = .int .i64 O.2 ∧ Hid (Low w.heap.size w wc ∧ wc.cell? ⟨y1.heap.size, 1, none⟩ = some (.int .i64 xr)))
  case first =>
    go_region_with (go_at_call 105; refine (opened_any _ (Ent.mk xp xr xk xd xs false) sn K ki (by exact RW.out.drew) HK1.out HK2.out hi6 HK3.out HE.out).mono ?_; rw [← HO.out]; rintro e y2 ⟨rfl, l2⟩; have z1 : y2.cell? ⟨y1.heap.size, 1, none⟩ = some (.int .i64 xr) := (l2.cell lm).trans x1; have Z1 := hid z1; have L2 := hid l2; clear l2 z1)
    all_goals
      go_wp2_with fail
      go_meet
    all_goals exact ⟨rfl, rfl, LW.out.drew.trans (L2.out.mono (by have := LW.out.size; simpa using this)), Z1.out⟩
  case rest =>
  obtain ⟨rfl, rfl, HCU⟩ := hcut
  have LL := hid HCU.out.1
  have z1 := HCU.out.2
  cases hz : (O.2 == 0)
  · have q1 : (O.2 != 0) = true := by simp only [bne, hz]; rfl
    go_wp2_with fail
    go_ret3
    have hne : ¬ O.2 = 0 := by simpa using hz
    have h1 : O.1 = ⟨#[]⟩ := by
      have hh := hne
      rw [HO.out] at hh ⊢
      unfold openedOf at hh ⊢
      (repeat' split) <;> simp_all
    rw [← HO.out]
    exact ⟨by simp [revOr, hne, h1], LL.out⟩
  · have q1 : (O.2 != 0) = false := by simp only [bne, hz]; rfl
    have z : O.2 = 0 := by simpa using hz
    go_upto_region 14 with fail
    go_region
    all_goals go_wp2_with fail
    all_goals go_ret3
    all_goals
      rw [← HO.out]
      exact ⟨by simp [revOr, z], LL.out.drew⟩
set_option maxRecDepth 100000 in
set_option maxHeartbeats 1000000 in
theorem get_none_true (w : World) (i : Nat) (sn : Int) (u : RUnd) (name : ByteArray) (rev : Int) (h : RIn w F b Y) (ha : At Y i sn u) (hsn : (sn == 0) = false) (hn : Y.all.length ≤ 100000000) (h1 : decide (rev < Y.floor) = false) (h2 : decide ((Y.all.length : Int) < rev) = false) (ht : thereOf (lastOf (Y.all.take rev.toNat) name) = false) :
    Calls Tryz.prog 75 #[.pointer (some ⟨b, 0, none⟩), .int .i64 i, .string name, .int .i64 rev, .bool true] w fun e w' => e = .returned (.tuple #[.string ⟨#[]⟩, .int .i64 0, .int .i64 12]) ∧ Low w.heap.size w w' := by
  have HR := hid h
  have HS := hid ha.srv
  have HA := hid ha
  have hb := h.lt
  obtain ⟨gS, capS, hcS, hgS, s0⟩ := h.seenAt ha
  have i2 : (i : Int) < (Y.seen.length : Int) := by have := ha.len.1; omega
  obtain ⟨a3, cap3, hc3, _⟩ := h.all
  rw [List.length_map] at hc3
  have c8 := h.floor
  obtain ⟨X, hX⟩ : ∃ X, (lastOf (Y.all.take rev.toNat) name).getD Ent.zero = X := ⟨_, rfl⟩
  have HX := hid hX
  unfold thereOf at ht
  rw [hX] at ht
  clear h ha hX
  cases hT : (lastOf (Y.all.take rev.toNat) name).isSome
  · have HT := hid hT
    clear hT ht
    go_enter Tryz.func75, Tryz.ntmps75
    go_wp2_with (first | (go_at_call 61; refine (server_any _ _ HR.out).mono ?_; rw [HS.out]; rintro e y1 ⟨rfl, hy⟩; obtain rfl := hy.symm) | (go_at_call 70; refine (last_any _ _ _ HR.out hn).mono ?_; rw [HX.out, HT.out]; rintro e y1 ⟨rfl, l1⟩; have L1 := hid l1; clear l1) | ((with_reducible refine st50 (.tmp 14) (.tmp 54) y1.heap.size Ent.zero X ?_ ?_ ?_ ?_); rfl; rfl; exact (Blk.new y1 50 Ent.zero.cells); intro W b2 k2 s2; have m5 : W.cell? ⟨y1.heap.size, 5, none⟩ = some (.bool X.gone) := b2.cell 5; have LW : Hid (Low w.heap.size w W) := low_set (L1.out.alloc L1.out.size _) k2 L1.out.size (by have := L1.out.size; simp; omega); have B2 := hid b2; clear b2 k2 s2))
    go_ret3
    exact ⟨rfl, LW.out⟩
  · have HT := hid hT
    have hg : X.gone = true := by rw [hT] at ht; simpa using ht
    clear hT ht
    go_enter Tryz.func75, Tryz.ntmps75
    go_wp2_with (first | (go_at_call 61; refine (server_any _ _ HR.out).mono ?_; rw [HS.out]; rintro e y1 ⟨rfl, hy⟩; obtain rfl := hy.symm) | (go_at_call 70; refine (last_any _ _ _ HR.out hn).mono ?_; rw [HX.out, HT.out]; rintro e y1 ⟨rfl, l1⟩; have L1 := hid l1; clear l1) | ((with_reducible refine st50 (.tmp 14) (.tmp 54) y1.heap.size Ent.zero X ?_ ?_ ?_ ?_); rfl; rfl; exact (Blk.new y1 50 Ent.zero.cells); intro W b2 k2 s2; have m5 : W.cell? ⟨y1.heap.size, 5, none⟩ = some (.bool X.gone) := b2.cell 5; have LW : Hid (Low w.heap.size w W) := low_set (L1.out.alloc L1.out.size _) k2 L1.out.size (by have := L1.out.size; simp; omega); have B2 := hid b2; clear b2 k2 s2))
    go_ret3
    exact ⟨rfl, LW.out⟩
set_option maxRecDepth 100000 in
set_option maxHeartbeats 1000000 in
theorem get_some_true (w : World) (i : Nat) (sn : Int) (u : RUnd) (name : ByteArray) (rev : Int) (X : Ent) (K : RKey) (ki : Nat) (h : RIn w F b Y) (ha : At Y i sn u) (hsn : (sn == 0) = false) (hn : Y.all.length ≤ 100000000) (h1 : decide (rev < Y.floor) = false) (h2 : decide ((Y.all.length : Int) < rev) = false) (hl : lastOf (Y.all.take rev.toNat) name = some X) (hg : X.gone = false)
    (hk : Y.keys[ki]? = some K) (hi : X.key = (ki : Int) + 1) (hi6 : ki ≤ 6) (hK : K.text.size = 48) (hE : EntOk X) :
    Calls Tryz.prog 75 #[.pointer (some ⟨b, 0, none⟩), .int .i64 i, .string name, .int .i64 rev, .bool true] w fun e w' =>
      e = .returned (.tuple #[.string (openedOf K X sn).1, .int .i64 (revOr (openedOf K X sn) X.rev), .int .i64 (openedOf K X sn).2]) ∧ Low w.heap.size w w' := by
  obtain ⟨xp, xr, xk, xd, xs, xg⟩ := X
  obtain rfl : xg = false := hg
  have HR := hid h
  have HS := hid ha.srv
  have HA := hid ha
  have hb := h.lt
  obtain ⟨gS, capS, hcS, hgS, s0⟩ := h.seenAt ha
  have i2 : (i : Int) < (Y.seen.length : Int) := by have := ha.len.1; omega
  obtain ⟨a3, cap3, hc3, _⟩ := h.all
  rw [List.length_map] at hc3
  have c8 := h.floor
  have HX : Hid ((lastOf (Y.all.take rev.toNat) name).getD Ent.zero = (Ent.mk xp xr xk xd xs false)) := by show _ = _; rw [hl]; rfl
  have HT : Hid ((lastOf (Y.all.take rev.toNat) name).isSome = true) := by show _ = _; rw [hl]; rfl
  have HK1 := hid hk
  have HK2 := hid hi
  have HK3 := hid hK
  have HE := hid hE
  obtain ⟨O, hO⟩ : ∃ O, O = openedOf K (Ent.mk xp xr xk xd xs false) sn := ⟨_, rfl⟩
  have HO := hid hO
  clear h ha hl hk hi hK hE hO
  go_enter Tryz.func75, Tryz.ntmps75
  go_upto_region 11 with (first | (go_at_call 61; refine (server_any _ _ HR.out).mono ?_; rw [HS.out]; rintro e y1 ⟨rfl, hy⟩; obtain rfl := hy.symm) | (go_at_call 70; refine (last_any _ _ _ HR.out hn).mono ?_; rw [HX.out, HT.out]; rintro e y1 ⟨rfl, l1⟩; have L1 := hid l1; clear l1) | ((with_reducible refine st50 (.tmp 14) (.tmp 54) y1.heap.size Ent.zero (Ent.mk xp xr xk xd xs false) ?_ ?_ ?_ ?_); rfl; rfl; exact (Blk.new y1 50 Ent.zero.cells); intro W b2 k2 s2; have m5 : W.cell? ⟨y1.heap.size, 5, none⟩ = some (.bool false) := b2.cell 5; have LW : Hid (Low w.heap.size w W) := low_set (L1.out.alloc L1.out.size _) k2 L1.out.size (by have := L1.out.size; simp; omega); have B2 := hid b2; clear b2 k2 s2))
  have RW : Hid (RIn W F b Y) := HR.out.low LW.out
  obtain ⟨g2, cap2, hc2, hg2, t0⟩ := RW.out.seenAt HA.out
  have x0 : W.cell? ⟨y1.heap.size, 0, none⟩ = some (.string xp) := B2.out.cell 0
  have x1 : W.cell? ⟨y1.heap.size, 1, none⟩ = some (.int .i64 xr) := B2.out.cell 1
  have x2 : W.cell? ⟨y1.heap.size, 2, none⟩ = some (.int .i64 xk) := B2.out.cell 2
  have x3 : W.cell? ⟨y1.heap.size, 3, none⟩ = some (.int .i64 xd) := B2.out.cell 3
  have x4 : W.cell? ⟨y1.heap.size, 4, none⟩ = some (.string xs) := B2.out.cell 4
  have lb : b < W.heap.size := RW.out.lt
  have lm : y1.heap.size < W.heap.size := B2.out.lt
  clear hcS hgS s0 hc3 c8 hb
  go_cut [16, 17] (fun tv ev wc => tv = .string O.1 ∧ ev = .int .i64 O.2 ∧ Hid (Low w.heap.size w wc ∧ wc.cell? ⟨y1.heap.size, 1, none⟩ = some (.int .i64 xr)))
  case first =>
    go_region_with (go_at_call 105; refine (opened_any _ (Ent.mk xp xr xk xd xs false) sn K ki (by exact RW.out.drew) HK1.out HK2.out hi6 HK3.out HE.out).mono ?_; rw [← HO.out]; rintro e y2 ⟨rfl, l2⟩; have z1 : y2.cell? ⟨y1.heap.size, 1, none⟩ = some (.int .i64 xr) := (l2.cell lm).trans x1; have Z1 := hid z1; have L2 := hid l2; clear l2 z1)
    all_goals
      go_wp2_with fail
      go_meet
    all_goals exact ⟨rfl, rfl, LW.out.drew.trans (L2.out.mono (by have := LW.out.size; simpa using this)), Z1.out⟩
  case rest =>
  obtain ⟨rfl, rfl, HCU⟩ := hcut
  have LL := hid HCU.out.1
  have z1 := HCU.out.2
  cases hz : (O.2 == 0)
  · have q1 : (O.2 != 0) = true := by simp only [bne, hz]; rfl
    go_wp2_with fail
    go_ret3
    have hne : ¬ O.2 = 0 := by simpa using hz
    have h1 : O.1 = ⟨#[]⟩ := by
      have hh := hne
      rw [HO.out] at hh ⊢
      unfold openedOf at hh ⊢
      (repeat' split) <;> simp_all
    rw [← HO.out]
    exact ⟨by simp [revOr, hne, h1], LL.out⟩
  · have q1 : (O.2 != 0) = false := by simp only [bne, hz]; rfl
    have z : O.2 = 0 := by simpa using hz
    go_upto_region 14 with fail
    go_region
    all_goals go_wp2_with fail
    all_goals go_ret3
    all_goals
      rw [← HO.out]
      exact ⟨by simp [revOr, z], LL.out.drew⟩
end Go.Proofs.YtphapknfkbgapaaGreatDoor
namespace Go.Proofs.YtphapknfkbgapaaGreatDoor
open Go.RowKit

/-! One call on either side: the same answer, and the two coffers stay alike. -/

/-- What a call of the program's does, wherever its coffer lies. -/
def PUni (f : Nat) (args : List Value) (X : PS) (v : Value) (X' : PS) : Prop :=
  ∀ (w : World) (F : Nat → Prop) (b : Nat), XIn w F b X → Fours w → 1 ≤ w.heap.size → Calls Tryz.prog f (.pointer (some ⟨b, 0, none⟩) :: args).toArray w fun e w' =>
    e = .returned v ∧ ∃ F', XIn w' F' b X' ∧ Kept F w w' ∧ ∀ k, F' k → F k ∨ w.heap.size ≤ k
/-- What a call of the document's does. -/
def RUni (f : Nat) (args : List Value) (Y : RS) (v : Value) (Y' : RS) : Prop :=
  ∀ (w : World) (F : Nat → Prop) (b : Nat), RIn w F b Y → Calls Tryz.prog f (.pointer (some ⟨b, 0, none⟩) :: args).toArray w fun e w' =>
    e = .returned v ∧ ∃ F', RIn w' F' b Y' ∧ Kept F w w' ∧ ∀ k, F' k → F k ∨ w.heap.size ≤ k
structure Bd (n : Nat) (Y : RS) : Prop where
  all : Y.all.length ≤ n
  d0 : 0 ≤ Y.draws
  d1 : Y.draws ≤ (n : Int)
def Pair (fx fr : Nat) (args : List Value) (X : PS) (Y : RS) (key : ByteArray) (n : Nat) (v : Value) : Prop :=
  ∃ X' Y', PUni fx args X v X' ∧ RUni fr args Y v Y' ∧ Rel X' Y' key ∧ Bd (n + 1) Y'
theorem Bd.up {n : Nat} {Y : RS} (h : Bd n Y) : Bd (n + 1) Y := ⟨Nat.le_succ_of_le h.all, h.d0, by have := h.d1; omega⟩

theorem Low.keptF {w w' : World} (h : Low w.heap.size w w') (F : Nat → Prop) : Kept F w w' := h.kept.mono (fun _ _ f => f.elim)
theorem p_low {f : Nat} {args : List Value} {X : PS} {v : Value} (h : ∀ (w : World) (F : Nat → Prop) (b : Nat), XIn w F b X → Fours w → 1 ≤ w.heap.size → Calls Tryz.prog f (.pointer (some ⟨b, 0, none⟩) :: args).toArray w fun e w' => e = .returned v ∧ Low w.heap.size w w') : PUni f args X v X :=
  fun w F b hx hF h1 => (h w F b hx hF h1).mono fun _ _ ⟨e, l⟩ => ⟨e, F, hx.low l, l.keptF F, fun _ hk => Or.inl hk⟩
theorem p_same {f : Nat} {args : List Value} {X : PS} {v : Value} (h : ∀ (w : World) (F : Nat → Prop) (b : Nat), XIn w F b X → Calls Tryz.prog f (.pointer (some ⟨b, 0, none⟩) :: args).toArray w fun e w' => e = .returned v ∧ w' = w) : PUni f args X v X :=
  fun w F b hx _ _ => (h w F b hx).mono fun _ _ ⟨e, l⟩ => ⟨e, F, by rw [l]; exact hx, by rw [l]; exact Kept.refl _ _, fun _ hk => Or.inl hk⟩
theorem p_kept {f : Nat} {args : List Value} {X X' : PS} {v : Value} (h : ∀ (w : World) (F : Nat → Prop) (b : Nat), XIn w F b X → Fours w → 1 ≤ w.heap.size → Calls Tryz.prog f (.pointer (some ⟨b, 0, none⟩) :: args).toArray w fun e w' => e = .returned v ∧ XIn w' F b X' ∧ Kept F w w') : PUni f args X v X' :=
  fun w F b hx hF h1 => (h w F b hx hF h1).mono fun _ _ ⟨e, x, k⟩ => ⟨e, F, x, k, fun _ hk => Or.inl hk⟩
theorem p_grow {f : Nat} {args : List Value} {X X' : PS} {v : Value} (h : ∀ (w : World) (F : Nat → Prop) (b : Nat), XIn w F b X → Calls Tryz.prog f (.pointer (some ⟨b, 0, none⟩) :: args).toArray w fun e w' => e = .returned v ∧ XIn w' (grow F w w') b X' ∧ Kept F w w') : PUni f args X v X' :=
  fun w F b hx _ _ => (h w F b hx).mono fun _ w' ⟨e, x, k⟩ => ⟨e, grow F w w', x, k, fun _ hk => hk.imp id (fun q => q.1)⟩
theorem r_low {f : Nat} {args : List Value} {Y : RS} {v : Value} (h : ∀ (w : World) (F : Nat → Prop) (b : Nat), RIn w F b Y → Calls Tryz.prog f (.pointer (some ⟨b, 0, none⟩) :: args).toArray w fun e w' => e = .returned v ∧ Low w.heap.size w w') : RUni f args Y v Y :=
  fun w F b hx => (h w F b hx).mono fun _ _ ⟨e, l⟩ => ⟨e, F, hx.low l, l.keptF F, fun _ hk => Or.inl hk⟩
theorem r_same {f : Nat} {args : List Value} {Y : RS} {v : Value} (h : ∀ (w : World) (F : Nat → Prop) (b : Nat), RIn w F b Y → Calls Tryz.prog f (.pointer (some ⟨b, 0, none⟩) :: args).toArray w fun e w' => e = .returned v ∧ w' = w) : RUni f args Y v Y :=
  fun w F b hx => (h w F b hx).mono fun _ _ ⟨e, l⟩ => ⟨e, F, by rw [l]; exact hx, by rw [l]; exact Kept.refl _ _, fun _ hk => Or.inl hk⟩
theorem r_kept {f : Nat} {args : List Value} {Y Y' : RS} {v : Value} (h : ∀ (w : World) (F : Nat → Prop) (b : Nat), RIn w F b Y → Calls Tryz.prog f (.pointer (some ⟨b, 0, none⟩) :: args).toArray w fun e w' => e = .returned v ∧ RIn w' F b Y' ∧ Kept F w w') : RUni f args Y v Y' :=
  fun w F b hx => (h w F b hx).mono fun _ _ ⟨e, x, k⟩ => ⟨e, F, x, k, fun _ hk => Or.inl hk⟩
theorem r_grow {f : Nat} {args : List Value} {Y Y' : RS} {v : Value} (h : ∀ (w : World) (F : Nat → Prop) (b : Nat), RIn w F b Y → Calls Tryz.prog f (.pointer (some ⟨b, 0, none⟩) :: args).toArray w fun e w' => e = .returned v ∧ RIn w' (grow F w w') b Y' ∧ Kept F w w') : RUni f args Y v Y' :=
  fun w F b hx => (h w F b hx).mono fun _ w' ⟨e, x, k⟩ => ⟨e, grow F w w', x, k, fun _ hk => hk.imp id (fun q => q.1)⟩

theorem set_same {α : Type} {l : List α} {i : Nat} {x : α} (h : l[i]? = some x) : l.set i x = l := by
  obtain ⟨hi, rfl⟩ := List.getElem?_eq_some_iff.1 h
  exact List.set_getElem_self hi
theorem Rel.at {X : PS} {Y : RS} {key : ByteArray} (h : Rel X Y key) {s : Int} (hs : isSrv Y.seen.length s = true) : ∃ (i : Nat) (p : PSrv) (sn : Int) (u : RUnd), s = (i : Int) ∧ X.servers[i]? = some p ∧ At Y i sn u ∧ Same p sn u ∧ i < Y.seen.length ∧ (sn = 0 ∨ sn = 1) := by
  unfold isSrv at hs
  simp at hs
  have hi : s.toNat < Y.seen.length := by omega
  obtain ⟨p, hp⟩ : ∃ p, X.servers[s.toNat]? = some p := ⟨_, List.getElem?_eq_getElem (by rw [h.len.1]; exact hi)⟩
  obtain ⟨sn, u, h1, h2, h3⟩ := h.srv _ _ hp
  exact ⟨s.toNat, p, sn, u, by omega, hp, ⟨h1, h2⟩, h3, hi, h.sn _ _ h1⟩
theorem Rel.put {X : PS} {Y : RS} {key : ByteArray} (h : Rel X Y key) {i : Nat} (hi : i < Y.seen.length) (p : PSrv) (sn : Int) (u : RUnd) (hS : Same p sn u) (h01 : sn = 0 ∨ sn = 1) :
    Rel { X with servers := X.servers.set i p } { Y with seen := Y.seen.set i sn, ops := Y.ops.set i u } key := by
  refine ⟨h.ksize, h.kx, h.ky, h.write, h.ep, h.turn, h.room, h.rooms, h.rev, h.floor, h.floor0, h.draws, by simp [h.len], fun j q hq => ?_, fun j x hx => ?_, h.ent, h.few, h.revs, h.eok⟩
  · have hl := h.len
    replace hq : (X.servers.set i p)[j]? = some q := hq
    show ∃ sn1 u1, (Y.seen.set i sn)[j]? = some sn1 ∧ (Y.ops.set i u)[j]? = some u1 ∧ Same q sn1 u1
    by_cases e : i = j
    · subst e
      rw [List.getElem?_set_self (by omega)] at hq
      obtain rfl := Option.some.inj hq
      exact ⟨sn, u, List.getElem?_set_self hi, List.getElem?_set_self (by omega), hS⟩
    · rw [List.getElem?_set_ne e] at hq
      obtain ⟨a, c, h1, h2, h3⟩ := h.srv j q hq
      exact ⟨a, c, by rw [List.getElem?_set_ne e]; exact h1, by rw [List.getElem?_set_ne e]; exact h2, h3⟩
  · replace hx : (Y.seen.set i sn)[j]? = some x := hx
    by_cases e : i = j
    · subst e
      rw [List.getElem?_set_self hi] at hx
      obtain rfl := Option.some.inj hx
      exact h01
    · rw [List.getElem?_set_ne e] at hx
      exact h.sn j x hx

theorem refresh_pair {X : PS} {Y : RS} {key : ByteArray} {n : Nat} (h : Rel X Y key) (hb : Bd n Y) (s : Int) : ∃ v : Int, Pair 23 24 [.int .i64 s] X Y key n (.int .i64 v) := by
  cases hs : isSrv Y.seen.length s
  · have hx : isSrv X.servers.length s = false := by rw [h.len.1]; exact hs
    exact ⟨4, X, Y, p_same (fun w F b hX => pRefresh_no w s hX hx), r_same (fun w F b hR => Refresh_no w s hR hs), h, hb.up⟩
  · obtain ⟨i, p, sn, u, rfl, hp, ha, hS, hi, h01⟩ := h.at hs
    refine ⟨0, X.refresh i p, Y.refresh (i : Int), p_kept (fun w F b hX _ _ => pRefresh_yes w i p hX hp), r_kept (fun w F b hR => Refresh_yes w i hR hs), ?_, ⟨Nat.le_succ_of_le hb.all, hb.d0, by have := hb.d1; show Y.draws ≤ _; omega⟩⟩
    have q := h.put hi { p with seen := X.epoch } Y.epoch u ⟨by show X.epoch = Y.epoch; rw [h.ep.1, h.ep.2], hS.busy, hS.epoch⟩ (Or.inr h.ep.2)
    rw [set_same ha.op] at q
    unfold PS.refresh RS.refresh
    rw [Int.toNat_natCast]
    exact q
theorem crash_pair {X : PS} {Y : RS} {key : ByteArray} {n : Nat} (h : Rel X Y key) (hb : Bd n Y) (s : Int) : ∃ v : Int, Pair 25 26 [.int .i64 s] X Y key n (.int .i64 v) := by
  cases hs : isSrv Y.seen.length s
  · have hx : isSrv X.servers.length s = false := by rw [h.len.1]; exact hs
    exact ⟨4, X, Y, p_same (fun w F b hX => pCrash_no w s hX hx), r_same (fun w F b hR => Crash_no w s hR hs), h, hb.up⟩
  · obtain ⟨i, p, sn, u, rfl, hp, ha, hS, hi, h01⟩ := h.at hs
    refine ⟨0, X.crash i, Y.crash (i : Int), p_kept (fun w F b hX _ _ => pCrash_yes w i p hX hp), r_kept (fun w F b hR => Crash_yes w i hR hs h.len.2), ?_, ⟨Nat.le_succ_of_le hb.all, hb.d0, by have := hb.d1; show Y.draws ≤ _; omega⟩⟩
    have q := h.put hi PSrv.zero 0 RUnd.zero ⟨rfl, rfl, fun e => by cases e⟩ (Or.inl rfl)
    unfold PS.crash RS.crash
    rw [Int.toNat_natCast]
    exact q
theorem commit_pair {X : PS} {Y : RS} {key : ByteArray} {n : Nat} (h : Rel X Y key) (hb : Bd n Y) (hn : n ≤ 10000000) (s : Int) : ∃ v e : Int, Pair 29 30 [.int .i64 s] X Y key n (.tuple #[.int .i64 v, .int .i64 e]) := by
  cases hs : isSrv Y.seen.length s
  · have hx : isSrv X.servers.length s = false := by rw [h.len.1]; exact hs
    exact ⟨0, 4, X, Y, p_same (fun w F b hX => pCommit_srv w s hX hx), r_same (fun w F b hR => Commit_srv w s hR hs), h, hb.up⟩
  · obtain ⟨i, p, sn, u, rfl, hp, ha, hS, hi, h01⟩ := h.at hs
    cases hbz : p.busy
    · exact ⟨0, 8, X, Y, p_same (fun w F b hX => pCommit_idle w i p hX hp hbz), r_low (fun w F b hR => Commit_idle w i sn u hR ha (by rw [← hS.busy]; exact hbz)), h, hb.up⟩
    · have hA := hb.all
      have hkx : X.keys[0]? = some ⟨key, 1, 1⟩ := by rw [h.kx]; rfl
      have hE := commit_same h hS hbz
      obtain ⟨e1, e2, e3, e4, e5, e6, e7⟩ := hS.epoch hbz
      have q := h.put hi p.rest sn RUnd.zero ⟨hS.seen, rfl, fun e => by cases e⟩ h01
      rw [set_same ha.seen] at q
      have hx1 := fun (w : World) (F : Nat → Prop) (b : Nat) (hX : XIn w F b X) => pCommit_any w i p ⟨key, 1, 1⟩ 0 hX hp hbz (by rw [h.write]; rfl) hkx (by simp [h.kx]) (by have := h.few; have := h.rooms; omega) (by rw [h.rev]; omega)
      have hr1 := fun (w : World) (F : Nat → Prop) (b : Nat) (hR : RIn w F b Y) => Commit_any w i sn u hR ha (by rw [← hS.busy]; exact hbz) (by omega) (by simp [h.ky]) (by simp [h.ky])
      have eRev : X.commitRev 1 p = Y.commitRev u := by unfold PS.commitRev RS.commitRev; rw [hE, h.rev]
      refine ⟨Y.commitRev u, commitErr Y u, X.commit 1 i p, Y.commit i u, p_grow (fun w F b hX => ?_), r_grow hr1, ?_, ?_⟩
      · have := hx1 w F b hX
        rw [eRev, hE] at this
        exact this
      · unfold PS.commit RS.commit
        rw [hE]
        by_cases hc : (commitErr Y u == 0) = true
        · rw [if_pos hc, if_pos hc]
          have hfull : fullOf Y = false := by
            have hc0 : commitErr Y u = 0 := by simpa using hc
            cases hf : fullOf Y
            · rfl
            · exfalso
              revert hc0
              unfold commitErr
              rw [hf]
              split
              · intro z; cases z
              · split
                · intro z; cases z
                · split
                  · intro z; cases z
                  · intro z; cases z
          have hlen : ((keptOf Y.all).length : Int) < Y.room := by unfold fullOf at hfull; simp at hfull; exact hfull
          have hrev : X.rev + 1 = (Y.all.length : Int) + 1 := by rw [h.rev]
          refine ⟨h.ksize, h.kx, h.ky, h.write, h.ep, h.turn, h.room, h.rooms, ?_, h.floor, h.floor0, h.draws, q.len, q.srv, q.sn, ?_, ?_, ?_, ?_⟩
          · show X.rev + 1 = ((Y.all ++ [_]).length : Int)
            rw [h.rev, List.length_append]; rfl
          · show X.entries ++ [{ p.e with rev := X.rev + 1 }] = keptOf (Y.all ++ [⟨{ u.e with rev := (Y.all.length : Int) + 1 }, false⟩])
            rw [keptOf_snoc, h.ent, e3, hrev]
            rfl
          · show ((X.entries ++ [{ p.e with rev := X.rev + 1 }]).length : Int) ≤ Y.room
            rw [h.ent, List.length_append]
            show (((keptOf Y.all).length + 1 : Nat) : Int) ≤ Y.room
            omega
          · show Revs (Y.all ++ [⟨{ u.e with rev := (Y.all.length : Int) + 1 }, false⟩])
            intro j k hk
            by_cases hj : j < Y.all.length
            · rw [List.getElem?_append_left hj] at hk
              exact h.revs j k hk
            · rw [List.getElem?_append_right (by omega)] at hk
              have hj0 : j = Y.all.length := by
                have := (List.getElem?_eq_some_iff.1 hk).1
                simp at this
                omega
              subst hj0
              rw [Nat.sub_self] at hk
              obtain rfl := (Option.some.inj hk).symm
              rfl
          · show ∀ k ∈ Y.all ++ [⟨{ u.e with rev := (Y.all.length : Int) + 1 }, false⟩], k.e.gone = false → EntOk k.e ∧ k.e.key = 1
            intro k hk hg
            rcases List.mem_append.1 hk with hk | hk
            · exact h.eok k hk hg
            · obtain rfl := List.mem_singleton.1 hk
              obtain ⟨o1, o2⟩ := e7 hg
              exact ⟨⟨o1.path, o1.draw, o1.sealed⟩, o2⟩
        · rw [if_neg hc, if_neg hc]
          exact q
      · unfold RS.commit
        by_cases hc : (commitErr Y u == 0) = true
        · rw [if_pos hc]
          refine ⟨?_, hb.d0, by have := hb.d1; show Y.draws ≤ _; omega⟩
          show (Y.all ++ [_]).length ≤ n + 1
          rw [List.length_append]
          show Y.all.length + 1 ≤ n + 1
          omega
        · rw [if_neg hc]
          exact ⟨by show Y.all.length ≤ _; omega, hb.d0, by have := hb.d1; show Y.draws ≤ _; omega⟩
end Go.Proofs.YtphapknfkbgapaaGreatDoor
