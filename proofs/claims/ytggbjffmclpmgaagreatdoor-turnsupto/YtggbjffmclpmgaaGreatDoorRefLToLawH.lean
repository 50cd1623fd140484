import Derived.Test.YtggbjffmclpmgaaGreatDoorPMToPF
import Derived.Test.YtggbjffmclpmgaaGreatDoorPGToPL
import Derived.Test.YtggbjffmclpmgaaGreatDoorPAToPH
namespace Go.Proofs.YtggbjffmclpmgaaGreatDoor
open Go.RowKit

variable {F : Nat → Prop} {b : Nat} {Y : RS}

set_option maxRecDepth 100000 in
set_option maxHeartbeats 1000000 in
theorem get_srv (w : World) (s : Int) (name : ByteArray) (rev : Int) (asked : Bool) (h : RIn w F b Y) (hs : isSrv Y.seen.length s = false) :
    Calls Tryz.prog 74 #[.pointer (some ⟨b, 0, none⟩), .int .i64 s, .string name, .int .i64 rev, .bool asked] w fun e w' => e = .returned (.tuple #[.string ⟨#[]⟩, .int .i64 0, .int .i64 4]) ∧ Low w.heap.size w w' := by
  have HR := hid h
  have HS := hid hs
  clear h hs
  go_enter Tryz.func74, Tryz.ntmps74
  go_wp2_with (go_at_call 60; refine (server_any _ _ HR.out).mono ?_; rw [HS.out]; rintro e y1 ⟨rfl, hy⟩; obtain rfl := hy.symm)
  go_ret3
  exact ⟨rfl, Low.refl _ _⟩
set_option maxRecDepth 100000 in
set_option maxHeartbeats 1000000 in
theorem get_blind (w : World) (i : Nat) (sn : Int) (u : RUnd) (name : ByteArray) (rev : Int) (asked : Bool) (h : RIn w F b Y) (ha : At Y i sn u) (hsn : (sn == 0) = true) :
    Calls Tryz.prog 74 #[.pointer (some ⟨b, 0, none⟩), .int .i64 i, .string name, .int .i64 rev, .bool asked] w fun e w' => e = .returned (.tuple #[.string ⟨#[]⟩, .int .i64 0, .int .i64 6]) ∧ Low w.heap.size w w' := by
  have HR := hid h
  have HS := hid ha.srv
  obtain ⟨gS, capS, hcS, hgS, s0⟩ := h.seenAt ha
  have i2 : (i : Int) < (Y.seen.length : Int) := by have := ha.len.1; omega
  clear h ha
  go_enter Tryz.func74, Tryz.ntmps74
  go_wp2_with (go_at_call 60; refine (server_any _ _ HR.out).mono ?_; rw [HS.out]; rintro e y1 ⟨rfl, hy⟩; obtain rfl := hy.symm)
  go_ret3
  exact ⟨rfl, Low.refl _ _⟩
/-- A revision that may not be asked for. -/
def badRev (Y : RS) (rev : Int) (asked : Bool) : Bool := asked && (decide (rev < Y.floor) || decide ((Y.all.length : Int) < rev))
set_option maxRecDepth 100000 in
set_option maxHeartbeats 1000000 in
theorem get_rev (w : World) (i : Nat) (sn : Int) (u : RUnd) (name : ByteArray) (rev : Int) (asked : Bool) (h : RIn w F b Y) (ha : At Y i sn u) (hsn : (sn == 0) = false) (_hn : Y.all.length ≤ 100000000) (hr : badRev Y rev asked = true) :
    Calls Tryz.prog 74 #[.pointer (some ⟨b, 0, none⟩), .int .i64 i, .string name, .int .i64 rev, .bool asked] w fun e w' => e = .returned (.tuple #[.string ⟨#[]⟩, .int .i64 0, .int .i64 15]) ∧ Low w.heap.size w w' := by
  have HR := hid h
  have HS := hid ha.srv
  obtain ⟨gS, capS, hcS, hgS, s0⟩ := h.seenAt ha
  have i2 : (i : Int) < (Y.seen.length : Int) := by have := ha.len.1; omega
  obtain ⟨a3, cap3, hc3, _⟩ := h.all
  rw [List.length_map] at hc3
  have c8 := h.floor
  clear h ha
  cases hA : asked
  · simp [badRev, hA] at hr
  · subst hA
    cases h1 : decide (rev < Y.floor)
    · have h2 : decide ((Y.all.length : Int) < rev) = true := by simpa [badRev, h1] using hr
      clear hr
      go_enter Tryz.func74, Tryz.ntmps74
      go_wp2_with (go_at_call 60; refine (server_any _ _ HR.out).mono ?_; rw [HS.out]; rintro e y1 ⟨rfl, hy⟩; obtain rfl := hy.symm)
      go_ret3
      exact ⟨rfl, Low.refl _ _⟩
    · clear hr
      go_enter Tryz.func74, Tryz.ntmps74
      go_wp2_with (go_at_call 60; refine (server_any _ _ HR.out).mono ?_; rw [HS.out]; rintro e y1 ⟨rfl, hy⟩; obtain rfl := hy.symm)
      go_ret3
      exact ⟨rfl, Low.refl _ _⟩
-- GEN
/-- The revision that is told beside what was opened. -/
def revOr (O : ByteArray × Int) (r : Int) : Int := if O.2 == 0 then r else 0
set_option maxRecDepth 100000 in
set_option maxHeartbeats 1000000 in
theorem get_none_false (w : World) (i : Nat) (sn : Int) (u : RUnd) (name : ByteArray) (rev : Int) (h : RIn w F b Y) (ha : At Y i sn u) (hsn : (sn == 0) = false) (hn : Y.all.length ≤ 100000000) (ht : thereOf (lastOf (Y.all.take rev.toNat) name) = false) :
    Calls Tryz.prog 74 #[.pointer (some ⟨b, 0, none⟩), .int .i64 i, .string name, .int .i64 rev, .bool false] w fun e w' => e = .returned (.tuple #[.string ⟨#[]⟩, .int .i64 0, .int .i64 12]) ∧ Low w.heap.size w w' := by
  have HR := hid h
  have HS := hid ha.srv
  have HA := hid ha
  have hb := h.lt
  obtain ⟨gS, capS, hcS, hgS, s0⟩ := h.seenAt ha
  have i2 : (i : Int) < (Y.seen.length : Int) := by have := ha.len.1; omega
  obtain ⟨a3, cap3, hc3, _⟩ := h.all
  rw [List.length_map] at hc3
  have c8 := h.floor
  obtain ⟨X, hX⟩ : ∃ X, (lastOf (Y.all.take rev.toNat) name).getD Ent.zero = X := ⟨_, rfl⟩
  have HX := hid hX
  unfold thereOf at ht
  rw [hX] at ht
  clear h ha hX
  cases hT : (lastOf (Y.all.take rev.toNat) name).isSome
  · have HT := hid hT
    clear hT ht
    go_enter Tryz.func74, Tryz.ntmps74
    go_wp2_with (first | (go_at_call 60; refine (server_any _ _ HR.out).mono ?_; rw [HS.out]; rintro e y1 ⟨rfl, hy⟩; obtain rfl := hy.symm) | (go_at_call 69; refine (last_any _ _ _ HR.out hn).mono ?_; rw [HX.out, HT.out]; rintro e y1 ⟨rfl, l1⟩; have L1 := hid l1; clear l1) | ((with_reducible refine st50 (.tmp 14) (.tmp 54) y1.heap.size Ent.zero X ?_ ?_ ?_ ?_); rfl; rfl; exact (Blk.new y1 50 Ent.zero.cells); intro W b2 k2 s2; have m5 : W.cell? ⟨y1.heap.size, 5, none⟩ = some (.bool X.gone) := b2.cell 5; have LW : Hid (Low w.heap.size w W) := low_set (L1.out.alloc L1.out.size _) k2 L1.out.size (by have := L1.out.size; simp; omega); have B2 := hid b2; clear b2 k2 s2))
    go_ret3
    exact ⟨rfl, LW.out⟩
  · have HT := hid hT
    have hg : X.gone = true := by rw [hT] at ht; simpa using ht
    clear hT ht
    go_enter Tryz.func74, Tryz.ntmps74
    go_wp2_with (first | (go_at_call 60; refine (server_any _ _ HR.out).mono ?_; rw [HS.out]; rintro e y1 ⟨rfl, hy⟩; obtain rfl := hy.symm) | (go_at_call 69; refine (last_any _ _ _ HR.out hn).mono ?_; rw [HX.out, HT.out]; rintro e y1 ⟨rfl, l1⟩; have L1 := hid l1; clear l1) | ((with_reducible refine st50 (.tmp 14) (.tmp 54) y1.heap.size Ent.zero X ?_ ?_ ?_ ?_); rfl; rfl; exact (Blk.new y1 50 Ent.zero.cells); intro W b2 k2 s2; have m5 : W.cell? ⟨y1.heap.size, 5, none⟩ = some (.bool X.gone) := b2.cell 5; have LW : Hid (Low w.heap.size w W) := low_set (L1.out.alloc L1.out.size _) k2 L1.out.size (by have := L1.out.size; simp; omega); have B2 := hid b2; clear b2 k2 s2))
    go_ret3
    exact ⟨rfl, LW.out⟩
set_option maxRecDepth 100000 in
set_option maxHeartbeats 1000000 in
theorem get_some_false (w : World) (i : Nat) (sn : Int) (u : RUnd) (name : ByteArray) (rev : Int) (X : Ent) (K : RKey) (ki : Nat) (h : RIn w F b Y) (ha : At Y i sn u) (hsn : (sn == 0) = false) (hn : Y.all.length ≤ 100000000) (hl : lastOf (Y.all.take rev.toNat) name = some X) (hg : X.gone = false)
    (hk : Y.keys[ki]? = some K) (hi : X.key = (ki : Int) + 1) (hi6 : ki ≤ 6) (hK : K.text.size = 48) (hE : EntOk X) :
    Calls Tryz.prog 74 #[.pointer (some ⟨b, 0, none⟩), .int .i64 i, .string name, .int .i64 rev, .bool false] w fun e w' =>
      e = .returned (.tuple #[.string (openedOf K X sn).1, .int .i64 (revOr (openedOf K X sn) X.rev), .int .i64 (openedOf K X sn).2]) ∧ Low w.heap.size w w' := by
  obtain ⟨xp, xr, xk, xd, xs, xg⟩ := X
  obtain rfl : xg = false := hg
  have HR := hid h
  have HS := hid ha.srv
  have HA := hid ha
  have hb := h.lt
  obtain ⟨gS, capS, hcS, hgS, s0⟩ := h.seenAt ha
  have i2 : (i : Int) < (Y.seen.length : Int) := by have := ha.len.1; omega
  obtain ⟨a3, cap3, hc3, _⟩ := h.all
  rw [List.length_map] at hc3
  have c8 := h.floor
  have HX : Hid ((lastOf (Y.all.take rev.toNat) name).getD Ent.zero = (Ent.mk xp xr xk xd xs false)) := by show _ = _; rw [hl]; rfl
  have HT : Hid ((lastOf (Y.all.take rev.toNat) name).isSome = true) := by show _ = _; rw [hl]; rfl
  have HK1 := hid hk
  have HK2 := hid hi
  have HK3 := hid hK
  have HE := hid hE
  obtain ⟨O, hO⟩ : ∃ O, O = openedOf K (Ent.mk xp xr xk xd xs false) sn := ⟨_, rfl⟩
  have HO := hid hO
  clear h ha hl hk hi hK hE hO
  go_enter Tryz.func74, Tryz.ntmps74
  go_upto_region 11 with (first | (go_at_call 60; refine (server_any _ _ HR.out).mono ?_; rw [HS.out]; rintro e y1 ⟨rfl, hy⟩; obtain rfl := hy.symm) | (go_at_call 69; refine (last_any _ _ _ HR.out hn).mono ?_; rw [HX.out, HT.out]; rintro e y1 ⟨rfl, l1⟩; have L1 := hid l1; clear l1) | ((with_reducible refine st50 (.tmp 14) (.tmp 54) y1.heap.size Ent.zero (Ent.mk xp xr xk xd xs false) ?_ ?_ ?_ ?_); rfl; rfl; exact (Blk.new y1 50 Ent.zero.cells); intro W b2 k2 s2; have m5 : W.cell? ⟨y1.heap.size, 5, none⟩ = some (.bool false) := b2.cell 5; have LW : Hid (Low w.heap.size w W) := low_set (L1.out.alloc L1.out.size _) k2 L1.out.size (by have := L1.out.size; simp; omega); have B2 := hid b2; clear b2 k2 s2))
  have RW : Hid (RIn W F b Y) := HR.out.low LW.out
  obtain ⟨g2, cap2, hc2, hg2, t0⟩ := RW.out.seenAt HA.out
  have x0 : W.cell? ⟨y1.heap.size, 0, none⟩ = some (.string xp) := B2.out.cell 0
  have x1 : W.cell? ⟨y1.heap.size, 1, none⟩ = some (.int .i64 xr) := B2.out.cell 1
  have x2 : W.cell? ⟨y1.heap.size, 2, none⟩ = some (.int .i64 xk) := B2.out.cell 2
  have x3 : W.cell? ⟨y1.heap.size, 3, none⟩ = some (.int .i64 xd) := B2.out.cell 3
  have x4 : W.cell? ⟨y1.heap.size, 4, none⟩ = some (.string xs) := B2.out.cell 4
  have lb : b < W.heap.size := RW.out.lt
  have lm : y1.heap.size < W.heap.size := B2.out.lt
  clear hcS hgS s0 hc3 c8 hb
  go_cut [16, 17] (fun tv ev wc => tv = .string O.1 ∧ ev = .int .i64 O.2 ∧ Hid (Low w.heap.size w wc ∧ wc.cell? ⟨y1.heap.size, 1, none⟩ = some (.int .i64 xr)))
  case first =>
    go_region_with (go_at_call 99; refine (opened_any _ (Ent.mk xp xr xk xd xs false) sn K ki (by exact RW.out.drew) HK1.out HK2.out hi6 HK3.out HE.out).mono ?_; rw [← HO.out]; rintro e y2 ⟨rfl, l2⟩; have z1 : y2.cell? ⟨y1.heap.size, 1, none⟩ = some (.int .i64 xr) := (l2.cell lm).trans x1; have Z1 := hid z1; have L2 := hid l2; clear l2 z1)
    all_goals
      go_wp2_with fail
      go_meet
    all_goals exact ⟨rfl, rfl, LW.out.drew.trans (L2.out.mono (by have := LW.out.size; simpa using this)), Z1.out⟩
  case rest =>
  obtain ⟨rfl, rfl, HCU⟩ := hcut
  have LL := hid HCU.out.1
  have z1 := HCU.out.2
  cases hz : (O.2 == 0)
  · have q1 : (O.2 != 0) = true := by simp only [bne, hz]; rfl
    go_wp2_with fail
    go_ret3
    have hne : ¬ O.2 = 0 := by simpa using hz
    have h1 : O.1 = ⟨#[]⟩ := by
      have hh := hne
      rw [HO.out] at hh ⊢
      unfold openedOf at hh ⊢
      (repeat' split) <;> simp_all
    rw [← HO.out]
    exact ⟨by simp [revOr, hne, h1], LL.out⟩
  · have q1 : (O.2 != 0) = false := by simp only [bne, hz]; rfl
    have z : O.2 = 0 := by simpa using hz
    go_upto_region 14 with fail
    go_region
    all_goals go_wp2_with fail
    all_goals go_ret3
    all_goals
      rw [← HO.out]
      exact ⟨by simp [revOr, z], LL.out.drew⟩
set_option maxRecDepth 100000 in
set_option maxHeartbeats 1000000 in
theorem get_none_true (w : World) (i : Nat) (sn : Int) (u : RUnd) (name : ByteArray) (rev : Int) (h : RIn w F b Y) (ha : At Y i sn u) (hsn : (sn == 0) = false) (hn : Y.all.length ≤ 100000000) (h1 : decide (rev < Y.floor) = false) (h2 : decide ((Y.all.length : Int) < rev) = false) (ht : thereOf (lastOf (Y.all.take rev.toNat) name) = false) :
    Calls Tryz.prog 74 #[.pointer (some ⟨b, 0, none⟩), .int .i64 i, .string name, .int .i64 rev, .bool true] w fun e w' => e = .returned (.tuple #[.string ⟨#[]⟩, .int .i64 0, .int .i64 12]) ∧ Low w.heap.size w w' := by
  have HR := hid h
  have HS := hid ha.srv
  have HA := hid ha
  have hb := h.lt
  obtain ⟨gS, capS, hcS, hgS, s0⟩ := h.seenAt ha
  have i2 : (i : Int) < (Y.seen.length : Int) := by have := ha.len.1; omega
  obtain ⟨a3, cap3, hc3, _⟩ := h.all
  rw [List.length_map] at hc3
  have c8 := h.floor
  obtain ⟨X, hX⟩ : ∃ X, (lastOf (Y.all.take rev.toNat) name).getD Ent.zero = X := ⟨_, rfl⟩
  have HX := hid hX
  unfold thereOf at ht
  rw [hX] at ht
  clear h ha hX
  cases hT : (lastOf (Y.all.take rev.toNat) name).isSome
  · have HT := hid hT
    clear hT ht
    go_enter Tryz.func74, Tryz.ntmps74
    go_wp2_with (first | (go_at_call 60; refine (server_any _ _ HR.out).mono ?_; rw [HS.out]; rintro e y1 ⟨rfl, hy⟩; obtain rfl := hy.symm) | (go_at_call 69; refine (last_any _ _ _ HR.out hn).mono ?_; rw [HX.out, HT.out]; rintro e y1 ⟨rfl, l1⟩; have L1 := hid l1; clear l1) | ((with_reducible refine st50 (.tmp 14) (.tmp 54) y1.heap.size Ent.zero X ?_ ?_ ?_ ?_); rfl; rfl; exact (Blk.new y1 50 Ent.zero.cells); intro W b2 k2 s2; have m5 : W.cell? ⟨y1.heap.size, 5, none⟩ = some (.bool X.gone) := b2.cell 5; have LW : Hid (Low w.heap.size w W) := low_set (L1.out.alloc L1.out.size _) k2 L1.out.size (by have := L1.out.size; simp; omega); have B2 := hid b2; clear b2 k2 s2))
    go_ret3
    exact ⟨rfl, LW.out⟩
  · have HT := hid hT
    have hg : X.gone = true := by rw [hT] at ht; simpa using ht
    clear hT ht
    go_enter Tryz.func74, Tryz.ntmps74
    go_wp2_with (first | (go_at_call 60; refine (server_any _ _ HR.out).mono ?_; rw [HS.out]; rintro e y1 ⟨rfl, hy⟩; obtain rfl := hy.symm) | (go_at_call 69; refine (last_any _ _ _ HR.out hn).mono ?_; rw [HX.out, HT.out]; rintro e y1 ⟨rfl, l1⟩; have L1 := hid l1; clear l1) | ((with_reducible refine st50 (.tmp 14) (.tmp 54) y1.heap.size Ent.zero X ?_ ?_ ?_ ?_); rfl; rfl; exact (Blk.new y1 50 Ent.zero.cells); intro W b2 k2 s2; have m5 : W.cell? ⟨y1.heap.size, 5, none⟩ = some (.bool X.gone) := b2.cell 5; have LW : Hid (Low w.heap.size w W) := low_set (L1.out.alloc L1.out.size _) k2 L1.out.size (by have := L1.out.size; simp; omega); have B2 := hid b2; clear b2 k2 s2))
    go_ret3
    exact ⟨rfl, LW.out⟩
set_option maxRecDepth 100000 in
set_option maxHeartbeats 1000000 in
theorem get_some_true (w : World) (i : Nat) (sn : Int) (u : RUnd) (name : ByteArray) (rev : Int) (X : Ent) (K : RKey) (ki : Nat) (h : RIn w F b Y) (ha : At Y i sn u) (hsn : (sn == 0) = false) (hn : Y.all.length ≤ 100000000) (h1 : decide (rev < Y.floor) = false) (h2 : decide ((Y.all.length : Int) < rev) = false) (hl : lastOf (Y.all.take rev.toNat) name = some X) (hg : X.gone = false)
    (hk : Y.keys[ki]? = some K) (hi : X.key = (ki : Int) + 1) (hi6 : ki ≤ 6) (hK : K.text.size = 48) (hE : EntOk X) :
    Calls Tryz.prog 74 #[.pointer (some ⟨b, 0, none⟩), .int .i64 i, .string name, .int .i64 rev, .bool true] w fun e w' =>
      e = .returned (.tuple #[.string (openedOf K X sn).1, .int .i64 (revOr (openedOf K X sn) X.rev), .int .i64 (openedOf K X sn).2]) ∧ Low w.heap.size w w' := by
  obtain ⟨xp, xr, xk, xd, xs, xg⟩ := X
  obtain rfl : xg = false := hg
  have HR := hid h
  have HS := hid ha.srv
  have HA := hid ha
  have hb := h.lt
  obtain ⟨gS, capS, hcS, hgS, s0⟩ := h.seenAt ha
  have i2 : (i : Int) < (Y.seen.length : Int) := by have := ha.len.1; omega
  obtain ⟨a3, cap3, hc3, _⟩ := h.all
  rw [List.length_map] at hc3
  have c8 := h.floor
  have HX : Hid ((lastOf (Y.all.take rev.toNat) name).getD Ent.zero = (Ent.mk xp xr xk xd xs false)) := by show _ = _; rw [hl]; rfl
  have HT : Hid ((lastOf (Y.all.take rev.toNat) name).isSome = true) := by show _ = _; rw [hl]; rfl
  have HK1 := hid hk
  have HK2 := hid hi
  have HK3 := hid hK
  have HE := hid hE
  obtain ⟨O, hO⟩ : ∃ O, O = openedOf K (Ent.mk xp xr xk xd xs false) sn := ⟨_, rfl⟩
  have HO := hid hO
  clear h ha hl hk hi hK hE hO
  go_enter Tryz.func74, Tryz.ntmps74
  go_upto_region 11 with (first | (go_at_call 60; refine (server_any _ _ HR.out).mono ?_; rw [HS.out]; rintro e y1 ⟨rfl, hy⟩; obtain rfl := hy.symm) | (go_at_call 69; refine (last_any _ _ _ HR.out hn).mono ?_; rw [HX.out, HT.out]; rintro e y1 ⟨rfl, l1⟩; have L1 := hid l1; clear l1) | ((with_reducible refine st50 (.tmp 14) (.tmp 54) y1.heap.size Ent.zero (Ent.mk xp xr xk xd xs false) ?_ ?_ ?_ ?_); rfl; rfl; exact (Blk.new y1 50 Ent.zero.cells); intro W b2 k2 s2; have m5 : W.cell? ⟨y1.heap.size, 5, none⟩ = some (.bool false) := b2.cell 5; have LW : Hid (Low w.heap.size w W) := low_set (L1.out.alloc L1.out.size _) k2 L1.out.size (by have := L1.out.size; simp; omega); have B2 := hid b2; clear b2 k2 s2))
  have RW : Hid (RIn W F b Y) := HR.out.low LW.out
  obtain ⟨g2, cap2, hc2, hg2, t0⟩ := RW.out.seenAt HA.out
  have x0 : W.cell? ⟨y1.heap.size, 0, none⟩ = some (.string xp) := B2.out.cell 0
  have x1 : W.cell? ⟨y1.heap.size, 1, none⟩ = some (.int .i64 xr) := B2.out.cell 1
  have x2 : W.cell? ⟨y1.heap.size, 2, none⟩ = some (.int .i64 xk) := B2.out.cell 2
  have x3 : W.cell? ⟨y1.heap.size, 3, none⟩ = some (.int .i64 xd) := B2.out.cell 3
  have x4 : W.cell? ⟨y1.heap.size, 4, none⟩ = some (.string xs) := B2.out.cell 4
  have lb : b < W.heap.size := RW.out.lt
  have lm : y1.heap.size < W.heap.size := B2.out.lt
  clear hcS hgS s0 hc3 c8 hb
  go_cut [16, 17] (fun tv ev wc => tv = .string O.1 ∧ ev = .int .i64 O.2 ∧ Hid (Low w.heap.size w wc ∧ wc.cell? ⟨y1.heap.size, 1, none⟩ = some (.int .i64 xr)))
  case first =>
    go_region_with (go_at_call 99; refine (opened_any _ (Ent.mk xp xr xk xd xs false) sn K ki (by exact RW.out.drew) HK1.out HK2.out hi6 HK3.out HE.out).mono ?_; rw [← HO.out]; rintro e y2 ⟨rfl, l2⟩; have z1 : y2.cell? ⟨y1.heap.size, 1, none⟩ = some (.int .i64 xr) := (l2.cell lm).trans x1; have Z1 := hid z1; have L2 := hid l2; clear l2 z1)
    all_goals
      go_wp2_with fail
      go_meet
    all_goals exact ⟨rfl, rfl, LW.out.drew.trans (L2.out.mono (by have := LW.out.size; simpa using this)), Z1.out⟩
  case rest =>
  obtain ⟨rfl, rfl, HCU⟩ := hcut
  have LL := hid HCU.out.1
  have z1 := HCU.out.2
  cases hz : (O.2 == 0)
  · have q1 : (O.2 != 0) = true := by simp only [bne, hz]; rfl
    go_wp2_with fail
    go_ret3
    have hne : ¬ O.2 = 0 := by simpa using hz
    have h1 : O.1 = ⟨#[]⟩ := by
      have hh := hne
      rw [HO.out] at hh ⊢
      unfold openedOf at hh ⊢
      (repeat' split) <;> simp_all
    rw [← HO.out]
    exact ⟨by simp [revOr, hne, h1], LL.out⟩
  · have q1 : (O.2 != 0) = false := by simp only [bne, hz]; rfl
    have z : O.2 = 0 := by simpa using hz
    go_upto_region 14 with fail
    go_region
    all_goals go_wp2_with fail
    all_goals go_ret3
    all_goals
      rw [← HO.out]
      exact ⟨by simp [revOr, z], LL.out.drew⟩
end Go.Proofs.YtggbjffmclpmgaaGreatDoor
namespace Go.Proofs.YtggbjffmclpmgaaGreatDoor
open Go.RowKit

/-! One call on either side: the same answer, and the two coffers stay alike. -/

/-- What a call of the program's does, wherever its coffer lies. -/
def PUni (f : Nat) (args : List Value) (X : PS) (v : Value) (X' : PS) : Prop :=
  ∀ (w : World) (F : Nat → Prop) (b : Nat), XIn w F b X → Fours w → 1 ≤ w.heap.size → Calls Tryz.prog f (.pointer (some ⟨b, 0, none⟩) :: args).toArray w fun e w' =>
    e = .returned v ∧ ∃ F', XIn w' F' b X' ∧ Kept F w w' ∧ ∀ k, F' k → F k ∨ w.heap.size ≤ k
/-- What a call of the document's does. -/
def RUni (f : Nat) (args : List Value) (Y : RS) (v : Value) (Y' : RS) : Prop :=
  ∀ (w : World) (F : Nat → Prop) (b : Nat), RIn w F b Y → Calls Tryz.prog f (.pointer (some ⟨b, 0, none⟩) :: args).toArray w fun e w' =>
    e = .returned v ∧ ∃ F', RIn w' F' b Y' ∧ Kept F w w' ∧ ∀ k, F' k → F k ∨ w.heap.size ≤ k
structure Bd (n : Nat) (Y : RS) : Prop where
  all : Y.all.length ≤ n
  d0 : 0 ≤ Y.draws
  d1 : Y.draws ≤ (n : Int)
def Pair (fx fr : Nat) (args : List Value) (X : PS) (Y : RS) (key : ByteArray) (n : Nat) (v : Value) : Prop :=
  ∃ X' Y', PUni fx args X v X' ∧ RUni fr args Y v Y' ∧ Rel X' Y' key ∧ Bd (n + 1) Y'
theorem Bd.up {n : Nat} {Y : RS} (h : Bd n Y) : Bd (n + 1) Y := ⟨Nat.le_succ_of_le h.all, h.d0, by have := h.d1; omega⟩

theorem Low.keptF {w w' : World} (h : Low w.heap.size w w') (F : Nat → Prop) : Kept F w w' := h.kept.mono (fun _ _ f => f.elim)
theorem p_low {f : Nat} {args : List Value} {X : PS} {v : Value} (h : ∀ (w : World) (F : Nat → Prop) (b : Nat), XIn w F b X → Fours w → 1 ≤ w.heap.size → Calls Tryz.prog f (.pointer (some ⟨b, 0, none⟩) :: args).toArray w fun e w' => e = .returned v ∧ Low w.heap.size w w') : PUni f args X v X :=
  fun w F b hx hF h1 => (h w F b hx hF h1).mono fun _ _ ⟨e, l⟩ => ⟨e, F, hx.low l, l.keptF F, fun _ hk => Or.inl hk⟩
theorem p_same {f : Nat} {args : List Value} {X : PS} {v : Value} (h : ∀ (w : World) (F : Nat → Prop) (b : Nat), XIn w F b X → Calls Tryz.prog f (.pointer (some ⟨b, 0, none⟩) :: args).toArray w fun e w' => e = .returned v ∧ w' = w) : PUni f args X v X :=
  fun w F b hx _ _ => (h w F b hx).mono fun _ _ ⟨e, l⟩ => ⟨e, F, by rw [l]; exact hx, by rw [l]; exact Kept.refl _ _, fun _ hk => Or.inl hk⟩
theorem p_kept {f : Nat} {args : List Value} {X X' : PS} {v : Value} (h : ∀ (w : World) (F : Nat → Prop) (b : Nat), XIn w F b X → Fours w → 1 ≤ w.heap.size → Calls Tryz.prog f (.pointer (some ⟨b, 0, none⟩) :: args).toArray w fun e w' => e = .returned v ∧ XIn w' F b X' ∧ Kept F w w') : PUni f args X v X' :=
  fun w F b hx hF h1 => (h w F b hx hF h1).mono fun _ _ ⟨e, x, k⟩ => ⟨e, F, x, k, fun _ hk => Or.inl hk⟩
theorem p_grow {f : Nat} {args : List Value} {X X' : PS} {v : Value} (h : ∀ (w : World) (F : Nat → Prop) (b : Nat), XIn w F b X → Calls Tryz.prog f (.pointer (some ⟨b, 0, none⟩) :: args).toArray w fun e w' => e = .returned v ∧ XIn w' (grow F w w') b X' ∧ Kept F w w') : PUni f args X v X' :=
  fun w F b hx _ _ => (h w F b hx).mono fun _ w' ⟨e, x, k⟩ => ⟨e, grow F w w', x, k, fun _ hk => hk.imp id (fun q => q.1)⟩
theorem r_low {f : Nat} {args : List Value} {Y : RS} {v : Value} (h : ∀ (w : World) (F : Nat → Prop) (b : Nat), RIn w F b Y → Calls Tryz.prog f (.pointer (some ⟨b, 0, none⟩) :: args).toArray w fun e w' => e = .returned v ∧ Low w.heap.size w w') : RUni f args Y v Y :=
  fun w F b hx => (h w F b hx).mono fun _ _ ⟨e, l⟩ => ⟨e, F, hx.low l, l.keptF F, fun _ hk => Or.inl hk⟩
theorem r_same {f : Nat} {args : List Value} {Y : RS} {v : Value} (h : ∀ (w : World) (F : Nat → Prop) (b : Nat), RIn w F b Y → Calls Tryz.prog f (.pointer (some ⟨b, 0, none⟩) :: args).toArray w fun e w' => e = .returned v ∧ w' = w) : RUni f args Y v Y :=
  fun w F b hx => (h w F b hx).mono fun _ _ ⟨e, l⟩ => ⟨e, F, by rw [l]; exact hx, by rw [l]; exact Kept.refl _ _, fun _ hk => Or.inl hk⟩
theorem r_kept {f : Nat} {args : List Value} {Y Y' : RS} {v : Value} (h : ∀ (w : World) (F : Nat → Prop) (b : Nat), RIn w F b Y → Calls Tryz.prog f (.pointer (some ⟨b, 0, none⟩) :: args).toArray w fun e w' => e = .returned v ∧ RIn w' F b Y' ∧ Kept F w w') : RUni f args Y v Y' :=
  fun w F b hx => (h w F b hx).mono fun _ _ ⟨e, x, k⟩ => ⟨e, F, x, k, fun _ hk => Or.inl hk⟩
theorem r_grow {f : Nat} {args : List Value} {Y Y' : RS} {v : Value} (h : ∀ (w : World) (F : Nat → Prop) (b : Nat), RIn w F b Y → Calls Tryz.prog f (.pointer (some ⟨b, 0, none⟩) :: args).toArray w fun e w' => e = .returned v ∧ RIn w' (grow F w w') b Y' ∧ Kept F w w') : RUni f args Y v Y' :=
  fun w F b hx => (h w F b hx).mono fun _ w' ⟨e, x, k⟩ => ⟨e, grow F w w', x, k, fun _ hk => hk.imp id (fun q => q.1)⟩

theorem set_same {α : Type} {l : List α} {i : Nat} {x : α} (h : l[i]? = some x) : l.set i x = l := by
  obtain ⟨hi, rfl⟩ := List.getElem?_eq_some_iff.1 h
  exact List.set_getElem_self hi
theorem Rel.at {X : PS} {Y : RS} {key : ByteArray} (h : Rel X Y key) {s : Int} (hs : isSrv Y.seen.length s = true) : ∃ (i : Nat) (p : PSrv) (sn : Int) (u : RUnd), s = (i : Int) ∧ X.servers[i]? = some p ∧ At Y i sn u ∧ Same p sn u ∧ i < Y.seen.length ∧ (sn = 0 ∨ sn = 1) := by
  unfold isSrv at hs
  simp at hs
  have hi : s.toNat < Y.seen.length := by omega
  obtain ⟨p, hp⟩ : ∃ p, X.servers[s.toNat]? = some p := ⟨_, List.getElem?_eq_getElem (by rw [h.len.1]; exact hi)⟩
  obtain ⟨sn, u, h1, h2, h3⟩ := h.srv _ _ hp
  exact ⟨s.toNat, p, sn, u, by omega, hp, ⟨h1, h2⟩, h3, hi, h.sn _ _ h1⟩
theorem Rel.put {X : PS} {Y : RS} {key : ByteArray} (h : Rel X Y key) {i : Nat} (hi : i < Y.seen.length) (p : PSrv) (sn : Int) (u : RUnd) (hS : Same p sn u) (h01 : sn = 0 ∨ sn = 1) :
    Rel { X with servers := X.servers.set i p } { Y with seen := Y.seen.set i sn, ops := Y.ops.set i u } key := by
  refine ⟨h.ksize, h.kx, h.ky, h.write, h.ep, h.turn, h.room, h.rooms, h.rev, h.floor, h.floor0, h.draws, by simp [h.len], fun j q hq => ?_, fun j x hx => ?_, h.ent, h.few, h.revs, h.eok⟩
  · have hl := h.len
    replace hq : (X.servers.set i p)[j]? = some q := hq
    show ∃ sn1 u1, (Y.seen.set i sn)[j]? = some sn1 ∧ (Y.ops.set i u)[j]? = some u1 ∧ Same q sn1 u1
    by_cases e : i = j
    · subst e
      rw [List.getElem?_set_self (by omega)] at hq
      obtain rfl := Option.some.inj hq
      exact ⟨sn, u, List.getElem?_set_self hi, List.getElem?_set_self (by omega), hS⟩
    · rw [List.getElem?_set_ne e] at hq
      obtain ⟨a, c, h1, h2, h3⟩ := h.srv j q hq
      exact ⟨a, c, by rw [List.getElem?_set_ne e]; exact h1, by rw [List.getElem?_set_ne e]; exact h2, h3⟩
  · replace hx : (Y.seen.set i sn)[j]? = some x := hx
    by_cases e : i = j
    · subst e
      rw [List.getElem?_set_self hi] at hx
      obtain rfl := Option.some.inj hx
      exact h01
    · rw [List.getElem?_set_ne e] at hx
      exact h.sn j x hx

theorem refresh_pair {X : PS} {Y : RS} {key : ByteArray} {n : Nat} (h : Rel X Y key) (hb : Bd n Y) (s : Int) : ∃ v : Int, Pair 22 23 [.int .i64 s] X Y key n (.int .i64 v) := by
  cases hs : isSrv Y.seen.length s
  · have hx : isSrv X.servers.length s = false := by rw [h.len.1]; exact hs
    exact ⟨4, X, Y, p_same (fun w F b hX => pRefresh_no w s hX hx), r_same (fun w F b hR => Refresh_no w s hR hs), h, hb.up⟩
  · obtain ⟨i, p, sn, u, rfl, hp, ha, hS, hi, h01⟩ := h.at hs
    refine ⟨0, X.refresh i p, Y.refresh (i : Int), p_kept (fun w F b hX _ _ => pRefresh_yes w i p hX hp), r_kept (fun w F b hR => Refresh_yes w i hR hs), ?_, ⟨Nat.le_succ_of_le hb.all, hb.d0, by have := hb.d1; show Y.draws ≤ _; omega⟩⟩
    have q := h.put hi { p with seen := X.epoch } Y.epoch u ⟨by show X.epoch = Y.epoch; rw [h.ep.1, h.ep.2], hS.busy, hS.epoch⟩ (Or.inr h.ep.2)
    rw [set_same ha.op] at q
    unfold PS.refresh RS.refresh
    rw [Int.toNat_natCast]
    exact q
theorem crash_pair {X : PS} {Y : RS} {key : ByteArray} {n : Nat} (h : Rel X Y key) (hb : Bd n Y) (s : Int) : ∃ v : Int, Pair 24 25 [.int .i64 s] X Y key n (.int .i64 v) := by
  cases hs : isSrv Y.seen.length s
  · have hx : isSrv X.servers.length s = false := by rw [h.len.1]; exact hs
    exact ⟨4, X, Y, p_same (fun w F b hX => pCrash_no w s hX hx), r_same (fun w F b hR => Crash_no w s hR hs), h, hb.up⟩
  · obtain ⟨i, p, sn, u, rfl, hp, ha, hS, hi, h01⟩ := h.at hs
    refine ⟨0, X.crash i, Y.crash (i : Int), p_kept (fun w F b hX _ _ => pCrash_yes w i p hX hp), r_kept (fun w F b hR => Crash_yes w i hR hs h.len.2), ?_, ⟨Nat.le_succ_of_le hb.all, hb.d0, by have := hb.d1; show Y.draws ≤ _; omega⟩⟩
    have q := h.put hi PSrv.zero 0 RUnd.zero ⟨rfl, rfl, fun e => by cases e⟩ (Or.inl rfl)
    unfold PS.crash RS.crash
    rw [Int.toNat_natCast]
    exact q
theorem commit_pair {X : PS} {Y : RS} {key : ByteArray} {n : Nat} (h : Rel X Y key) (hb : Bd n Y) (hn : n ≤ 10000000) (s : Int) : ∃ v e : Int, Pair 28 29 [.int .i64 s] X Y key n (.tuple #[.int .i64 v, .int .i64 e]) := by
  cases hs : isSrv Y.seen.length s
  · have hx : isSrv X.servers.length s = false := by rw [h.len.1]; exact hs
    exact ⟨0, 4, X, Y, p_same (fun w F b hX => pCommit_srv w s hX hx), r_same (fun w F b hR => Commit_srv w s hR hs), h, hb.up⟩
  · obtain ⟨i, p, sn, u, rfl, hp, ha, hS, hi, h01⟩ := h.at hs
    cases hbz : p.busy
    · exact ⟨0, 8, X, Y, p_same (fun w F b hX => pCommit_idle w i p hX hp hbz), r_low (fun w F b hR => Commit_idle w i sn u hR ha (by rw [← hS.busy]; exact hbz)), h, hb.up⟩
    · have hA := hb.all
      have hkx : X.keys[0]? = some ⟨key, 1, 1⟩ := by rw [h.kx]; rfl
      have hE := commit_same h hS hbz
      obtain ⟨e1, e2, e3, e4, e5, e6, e7⟩ := hS.epoch hbz
      have q := h.put hi p.rest sn RUnd.zero ⟨hS.seen, rfl, fun e => by cases e⟩ h01
      rw [set_same ha.seen] at q
      have hx1 := fun (w : World) (F : Nat → Prop) (b : Nat) (hX : XIn w F b X) => pCommit_any w i p ⟨key, 1, 1⟩ 0 hX hp hbz (by rw [h.write]; rfl) hkx (by simp [h.kx]) (by have := h.few; have := h.rooms; omega) (by rw [h.rev]; omega)
      have hr1 := fun (w : World) (F : Nat → Prop) (b : Nat) (hR : RIn w F b Y) => Commit_any w i sn u hR ha (by rw [← hS.busy]; exact hbz) (by omega) (by simp [h.ky]) (by simp [h.ky])
      have eRev : X.commitRev 1 p = Y.commitRev u := by unfold PS.commitRev RS.commitRev; rw [hE, h.rev]
      refine ⟨Y.commitRev u, commitErr Y u, X.commit 1 i p, Y.commit i u, p_grow (fun w F b hX => ?_), r_grow hr1, ?_, ?_⟩
      · have := hx1 w F b hX
        rw [eRev, hE] at this
        exact this
      · unfold PS.commit RS.commit
        rw [hE]
        by_cases hc : (commitErr Y u == 0) = true
        · rw [if_pos hc, if_pos hc]
          have hfull : fullOf Y = false := by
            have hc0 : commitErr Y u = 0 := by simpa using hc
            cases hf : fullOf Y
            · rfl
            · exfalso
              revert hc0
              unfold commitErr
              rw [hf]
              split
              · intro z; cases z
              · split
                · intro z; cases z
                · split
                  · intro z; cases z
                  · intro z; cases z
          have hlen : ((keptOf Y.all).length : Int) < Y.room := by unfold fullOf at hfull; simp at hfull; exact hfull
          have hrev : X.rev + 1 = (Y.all.length : Int) + 1 := by rw [h.rev]
          refine ⟨h.ksize, h.kx, h.ky, h.write, h.ep, h.turn, h.room, h.rooms, ?_, h.floor, h.floor0, h.draws, q.len, q.srv, q.sn, ?_, ?_, ?_, ?_⟩
          · show X.rev + 1 = ((Y.all ++ [_]).length : Int)
            rw [h.rev, List.length_append]; rfl
          · show X.entries ++ [{ p.e with rev := X.rev + 1 }] = keptOf (Y.all ++ [⟨{ u.e with rev := (Y.all.length : Int) + 1 }, false⟩])
            rw [keptOf_snoc, h.ent, e3, hrev]
            rfl
          · show ((X.entries ++ [{ p.e with rev := X.rev + 1 }]).length : Int) ≤ Y.room
            rw [h.ent, List.length_append]
            show (((keptOf Y.all).length + 1 : Nat) : Int) ≤ Y.room
            omega
          · show Revs (Y.all ++ [⟨{ u.e with rev := (Y.all.length : Int) + 1 }, false⟩])
            intro j k hk
            by_cases hj : j < Y.all.length
            · rw [List.getElem?_append_left hj] at hk
              exact h.revs j k hk
            · rw [List.getElem?_append_right (by omega)] at hk
              have hj0 : j = Y.all.length := by
                have := (List.getElem?_eq_some_iff.1 hk).1
                simp at this
                omega
              subst hj0
              rw [Nat.sub_self] at hk
              obtain rfl := (Option.some.inj hk).symm
              rfl
          · show ∀ k ∈ Y.all ++ [⟨{ u.e with rev := (Y.all.length : Int) + 1 }, false⟩], k.e.gone = false → EntOk k.e ∧ k.e.key = 1
            intro k hk hg
            rcases List.mem_append.1 hk with hk | hk
            · exact h.eok k hk hg
            · obtain rfl := List.mem_singleton.1 hk
              obtain ⟨o1, o2⟩ := e7 hg
              exact ⟨⟨o1.path, o1.draw, o1.sealed⟩, o2⟩
        · rw [if_neg hc, if_neg hc]
          exact q
      · unfold RS.commit
        by_cases hc : (commitErr Y u == 0) = true
        · rw [if_pos hc]
          refine ⟨?_, hb.d0, by have := hb.d1; show Y.draws ≤ _; omega⟩
          show (Y.all ++ [_]).length ≤ n + 1
          rw [List.length_append]
          show Y.all.length + 1 ≤ n + 1
          omega
        · rw [if_neg hc]
          exact ⟨by show Y.all.length ≤ _; omega, hb.d0, by have := hb.d1; show Y.draws ≤ _; omega⟩
end Go.Proofs.YtggbjffmclpmgaaGreatDoor
namespace Go.Proofs.YtggbjffmclpmgaaGreatDoor
open Go.RowKit

theorem getz {α : Type} {l : List α} {x : α} (h : l = [x]) : l[0]? = some x := by rw [h]; rfl
theorem writerOne (K : PKey) (ep : Int) : writerOf [K] ep = 1 := rfl
theorem writesOne (key : ByteArray) : writesOf [⟨key, 1, 1, false⟩] 1 = 1 := rfl
theorem proper_parts {o : AOp} (h : properOf o = true) : (1 ≤ o.path.size ∧ o.path.size ≤ 16) ∧ -1 ≤ o.rev ∧ ((o.kind == 1) = true → o.plain.size ≤ 64) ∧ ((o.kind == 1) = false → (o.kind == 2) = true) := by
  unfold properOf isPath at h
  simp at h
  obtain ⟨⟨⟨h1, h2⟩, h3⟩, h4⟩ := h
  refine ⟨⟨by omega, h2⟩, h3, fun hk => ?_, fun hk => ?_⟩
  · have hk : o.kind = 1 := by simpa using hk
    rcases h4 with h4 | h4
    · exact h4.2
    · omega
  · have hk : o.kind ≠ 1 := by simpa using hk
    rcases h4 with h4 | h4
    · exact absurd h4.1 hk
    · simpa using h4.1
theorem begin_pair {X : PS} {Y : RS} {key : ByteArray} {n : Nat} (h : Rel X Y key) (hb : Bd n Y) (hn : n ≤ 10000000) (s : Int) (o : AOp) (hp : o.path.size ≤ maxLen) (hq : o.plain.size ≤ maxLen) :
    ∃ v : Int, Pair 26 27 [.int .i64 s, .agg #[.int .i64 o.kind, .string o.path, .string o.plain, .int .i64 o.rev]] X Y key n (.int .i64 v) := by
  cases hs : isSrv Y.seen.length s
  · have hx : isSrv X.servers.length s = false := by rw [h.len.1]; exact hs
    exact ⟨4, X, Y, p_low (fun w F b hX _ _ => pBegin_srv w s o hX hx), r_low (fun w F b hR => Begin_srv w s o hR hs), h, hb.up⟩
  · obtain ⟨i, p, sn, u, rfl, hpp, ha, hS, hi, h01⟩ := h.at hs
    cases hbz : p.busy
    · have hu : u.on = false := by rw [← hS.busy]; exact hbz
      rcases h01 with rfl | rfl
      · have hz : (p.seen == 0) = true := by rw [hS.seen]; rfl
        exact ⟨6, X, Y, p_low (fun w F b hX _ _ => pBegin_blind w i p o hX hpp hbz hz), r_low (fun w F b hR => Begin_blind w i 0 u o hR ha hu rfl), h, hb.up⟩
      · have hz : (p.seen == 0) = false := by rw [hS.seen]; rfl
        cases ho : properOf o
        · exact ⟨7, X, Y, p_low (fun w F b hX _ _ => pBegin_op w i p o hX hpp hbz hz hp hq ho), r_low (fun w F b hR => Begin_op w i 1 u o hR ha hu rfl hp hq ho), h, hb.up⟩
        · obtain ⟨o1, o2, o3, o4⟩ := proper_parts ho
          cases hk : (o.kind == 1)
          · have q := h.put hi ⟨p.seen, true, p.seen, o.rev, delEnt o.path⟩ 1 ⟨true, delEnt o.path, 1, o.rev⟩ ⟨hS.seen, rfl, fun _ => ⟨hS.seen, rfl, rfl, o2, Int.le_refl _, o1, fun e => by cases e⟩⟩ (Or.inr rfl)
            rw [set_same ha.seen] at q
            exact ⟨0, _, _, p_kept (fun w F b hX _ _ => pBegin_del w i p o hX hpp hbz hz hp hq ho (o4 hk)), r_kept (fun w F b hR => Begin_del w i 1 u o hR ha hu rfl hp hq ho hk), q, ⟨Nat.le_succ_of_le hb.all, hb.d0, by have := hb.d1; show Y.draws ≤ _; omega⟩⟩
          · have d0 := hb.d0
            have d1 := hb.d1
            have eX : X.draws = Y.draws := h.draws
            have h2 : Rel { X with draws := X.draws + 1 } { Y with draws := Y.draws + 1 } key := ⟨h.ksize, h.kx, h.ky, h.write, h.ep, h.turn, h.room, h.rooms, h.rev, h.floor, h.floor0, by show X.draws + 1 = Y.draws + 1; rw [eX], h.len, h.srv, h.sn, h.ent, h.few, h.revs, h.eok⟩
            have hsz := sealOf_size key (nonceTo (Y.draws + 1) 12) o.path o.plain
            have hpl := o3 hk
            have hok : EntOk (closedOf key 1 o.path o.plain (Y.draws + 1)) := ⟨o1, ⟨by show 0 ≤ Y.draws + 1; omega, by show Y.draws + 1 ≤ _; omega⟩, ⟨by show 8 ≤ (sealOf key (nonceTo (Y.draws + 1) 12) o.path o.plain).size; omega, by show (sealOf key (nonceTo (Y.draws + 1) 12) o.path o.plain).size ≤ _; omega⟩⟩
            have q := h2.put hi ⟨p.seen, true, p.seen, o.rev, closedOf key 1 o.path o.plain (X.draws + 1)⟩ 1 ⟨true, closedOf key 1 o.path o.plain (Y.draws + 1), 1, o.rev⟩ ⟨hS.seen, rfl, fun _ => ⟨hS.seen, rfl, by rw [eX], o2, Int.le_refl _, o1, fun _ => ⟨hok, rfl⟩⟩⟩ (Or.inr rfl)
            replace q : Rel _ { Y with draws := Y.draws + 1, seen := Y.seen.set i 1, ops := Y.ops.set i ⟨true, closedOf key 1 o.path o.plain (Y.draws + 1), 1, o.rev⟩ } key := q
            rw [set_same ha.seen] at q
            exact ⟨0, _, _, p_kept (fun w F b hX hF h1 => pBegin_put w i p o ⟨key, 1, 1⟩ 0 hX hpp hbz hz hp hq ho hk (by rw [h.kx]; exact writerOne _ _) (getz h.kx) (by simp [h.kx]) h.ksize ⟨by omega, by omega⟩ hF h1),
              r_kept (fun w F b hR => Begin_put w i 1 u o ⟨key, 1, 1, false⟩ 0 hR ha hu rfl hp hq ho hk (by simp [h.ky]) (by rw [h.ky]; exact writesOne key) (getz h.ky) rfl h.ksize ⟨by omega, by omega⟩), q, ⟨Nat.le_succ_of_le hb.all, by show 0 ≤ Y.draws + 1; omega, by show Y.draws + 1 ≤ _; omega⟩⟩
    · have hu : u.on = true := by rw [← hS.busy]; exact hbz
      exact ⟨5, X, Y, p_low (fun w F b hX _ _ => pBegin_busy w i p o hX hpp hbz), r_low (fun w F b hR => Begin_busy w i sn u o hR ha hu), h, hb.up⟩
/-- What a read tells, on either side. -/
theorem read_pair {X : PS} {Y : RS} {key : ByteArray} {n : Nat} (h : Rel X Y key) (hb : Bd n Y) (hn : n ≤ 10000000) {i : Nat} {p : PSrv} {u : RUnd} (hpp : X.servers[i]? = some p) (ha : At Y i 1 u) (hS : Same p 1 u) (name : ByteArray) (rev : Int) (asked : Bool)
    (hr : asked = true → decide (rev < Y.floor) = false ∧ decide ((Y.all.length : Int) < rev) = false) :
    ∃ (A : ByteArray) (B C : Int), (∀ (w : World) (F : Nat → Prop) (b : Nat), XIn w F b X → Fours w → 1 ≤ w.heap.size → Calls Tryz.prog 73 #[.pointer (some ⟨b, 0, none⟩), .int .i64 (i : Int), .string name, .int .i64 rev] w fun e w' => e = .returned (.tuple #[.string A, .int .i64 B, .int .i64 C]) ∧ Low w.heap.size w w') ∧
      (∀ (w : World) (F : Nat → Prop) (b : Nat), RIn w F b Y → Calls Tryz.prog 74 #[.pointer (some ⟨b, 0, none⟩), .int .i64 (i : Int), .string name, .int .i64 rev, .bool asked] w fun e w' => e = .returned (.tuple #[.string A, .int .i64 B, .int .i64 C]) ∧ Low w.heap.size w w') := by
  have hA := hb.all
  have hent : X.entries.length ≤ 1000 := by have := h.few; have := h.rooms; omega
  have hN : newestOf X.entries name rev = (lastOf (Y.all.take rev.toNat) name).getD Ent.zero := by rw [h.ent]; exact newest_last _ _ _ h.revs
  cases hL : lastOf (Y.all.take rev.toNat) name with
  | none =>
    rw [hL] at hN
    have ht : thereOf (lastOf (Y.all.take rev.toNat) name) = false := by rw [hL]; rfl
    refine ⟨⟨#[]⟩, 0, 12, fun w F b hX _ _ => read_none w i name rev hX hent (by rw [hN]; rfl), fun w F b hR => ?_⟩
    cases asked
    · exact get_none_false w i 1 u name rev hR ha rfl (by omega) ht
    · exact get_none_true w i 1 u name rev hR ha rfl (by omega) (hr rfl).1 (hr rfl).2 ht
  | some E =>
    rw [hL] at hN
    replace hN : newestOf X.entries name rev = E := hN
    obtain ⟨k, hk, hkE, _, _⟩ := lastOf_mem hL
    have hkm : k ∈ Y.all := List.mem_of_mem_take hk
    obtain ⟨j, hj⟩ := List.getElem?_of_mem hkm
    have hrv := h.revs j k hj
    rw [hkE] at hrv
    have hz : (E.rev == 0) = false := by rw [beq_eq_false_iff_ne]; omega
    cases hg : E.gone
    · obtain ⟨ok1, ok2⟩ := h.eok k hkm (by rw [hkE]; exact hg)
      rw [hkE] at ok1 ok2
      have hkg : keyGone ⟨key, 1, 1⟩ = false := keyGone_no h.ksize
      have e1 : pRead ⟨key, 1, 1⟩ E p.seen = openedOf ⟨key, 1, 1, false⟩ E 1 := by
        unfold pRead openedOf pOpened
        rw [hS.seen, hkg]
      refine ⟨(openedOf ⟨key, 1, 1, false⟩ E 1).1, revOr (openedOf ⟨key, 1, 1, false⟩ E 1) E.rev, (openedOf ⟨key, 1, 1, false⟩ E 1).2, fun w F b hX hF h1 => ?_, fun w F b hR => ?_⟩
      · have q := read_some w i p name rev E ⟨key, 1, 1⟩ 0 hX hpp hent hN hz hg (getz h.kx) ok2 (by omega) h.ksize ok1 hF h1
        rw [e1] at q
        exact q
      · cases asked
        · exact get_some_false w i 1 u name rev E ⟨key, 1, 1, false⟩ 0 hR ha rfl (by omega) hL hg (getz h.ky) ok2 (by omega) h.ksize ok1
        · exact get_some_true w i 1 u name rev E ⟨key, 1, 1, false⟩ 0 hR ha rfl (by omega) (hr rfl).1 (hr rfl).2 hL hg (getz h.ky) ok2 (by omega) h.ksize ok1
    · have ht : thereOf (lastOf (Y.all.take rev.toNat) name) = false := by rw [hL]; simp [thereOf, hg]
      refine ⟨⟨#[]⟩, 0, 12, fun w F b hX _ _ => read_none w i name rev hX hent (by rw [hN, hg, Bool.or_true]), fun w F b hR => ?_⟩
      cases asked
      · exact get_none_false w i 1 u name rev hR ha rfl (by omega) ht
      · exact get_none_true w i 1 u name rev hR ha rfl (by omega) (hr rfl).1 (hr rfl).2 ht
theorem get_pair {X : PS} {Y : RS} {key : ByteArray} {n : Nat} (h : Rel X Y key) (hb : Bd n Y) (hn : n ≤ 10000000) (s : Int) (name : ByteArray) :
    ∃ (A : ByteArray) (B C : Int), Pair 30 31 [.int .i64 s, .string name] X Y key n (.tuple #[.string A, .int .i64 B, .int .i64 C]) := by
  cases hs : isSrv Y.seen.length s
  · have hx : isSrv X.servers.length s = false := by rw [h.len.1]; exact hs
    exact ⟨⟨#[]⟩, 0, 4, X, Y, p_same (fun w F b hX => pGet_srv w s name hX hx), r_low (fun w F b hR => rGet_via w s name hR _ _ _ (get_srv w s name _ false hR hs)), h, hb.up⟩
  · obtain ⟨i, p, sn, u, rfl, hpp, ha, hS, hi, h01⟩ := h.at hs
    rcases h01 with rfl | rfl
    · have hz : (p.seen == 0) = true := by rw [hS.seen]; rfl
      exact ⟨⟨#[]⟩, 0, 6, X, Y, p_same (fun w F b hX => pGet_blind w i p name hX hpp hz), r_low (fun w F b hR => rGet_via w i name hR _ _ _ (get_blind w i 0 u name _ false hR ha rfl)), h, hb.up⟩
    · have hz : (p.seen == 0) = false := by rw [hS.seen]; rfl
      obtain ⟨A, B, C, q1, q2⟩ := read_pair h hb hn hpp ha hS name (Y.all.length : Int) false (fun e => by cases e)
      exact ⟨A, B, C, X, Y, p_low (fun w F b hX hF h1 => pGet_ok w i p name hX hpp hz A B C (by rw [h.rev]; exact q1 w F b hX hF h1)), r_low (fun w F b hR => rGet_via w i name hR _ _ _ (q2 w F b hR)), h, hb.up⟩
theorem getAt_pair {X : PS} {Y : RS} {key : ByteArray} {n : Nat} (h : Rel X Y key) (hb : Bd n Y) (hn : n ≤ 10000000) (s : Int) (name : ByteArray) (rev : Int) :
    ∃ (A : ByteArray) (B C : Int), Pair 32 33 [.int .i64 s, .string name, .int .i64 rev] X Y key n (.tuple #[.string A, .int .i64 B, .int .i64 C]) := by
  have hA := hb.all
  cases hs : isSrv Y.seen.length s
  · have hx : isSrv X.servers.length s = false := by rw [h.len.1]; exact hs
    exact ⟨⟨#[]⟩, 0, 4, X, Y, p_same (fun w F b hX => pGetAt_srv w s name rev hX hx), r_low (fun w F b hR => rGetAt_via w s name rev _ _ _ (get_srv w s name rev true hR hs)), h, hb.up⟩
  · obtain ⟨i, p, sn, u, rfl, hpp, ha, hS, hi, h01⟩ := h.at hs
    rcases h01 with rfl | rfl
    · have hz : (p.seen == 0) = true := by rw [hS.seen]; rfl
      exact ⟨⟨#[]⟩, 0, 6, X, Y, p_same (fun w F b hX => pGetAt_blind w i p name rev hX hpp hz), r_low (fun w F b hR => rGetAt_via w i name rev _ _ _ (get_blind w i 0 u name rev true hR ha rfl)), h, hb.up⟩
    · have hz : (p.seen == 0) = false := by rw [hS.seen]; rfl
      have hbr : pBadRev X rev = badRev Y rev true := by unfold pBadRev badRev; rw [h.floor, h.rev, Bool.true_and]
      cases hbad : badRev Y rev true
      · have hbad2 : (decide (rev < Y.floor) || decide ((Y.all.length : Int) < rev)) = false := hbad
        obtain ⟨A, B, C, q1, q2⟩ := read_pair h hb hn hpp ha hS name rev true (fun _ => Bool.or_eq_false_iff.1 hbad2)
        exact ⟨A, B, C, X, Y, p_low (fun w F b hX hF h1 => pGetAt_ok w i p name rev hX hpp hz (hbr.trans hbad) A B C (q1 w F b hX hF h1)), r_low (fun w F b hR => rGetAt_via w i name rev _ _ _ (q2 w F b hR)), h, hb.up⟩
      · exact ⟨⟨#[]⟩, 0, 15, X, Y, p_same (fun w F b hX => pGetAt_rev w i p name rev hX hpp hz (hbr.trans hbad)), r_low (fun w F b hR => rGetAt_via w i name rev _ _ _ (get_rev w i 1 u name rev true hR ha rfl (by omega) hbad)), h, hb.up⟩
theorem allTo_get {l : List RKept} {f : Nat → Bool} {n j : Nat} {k : RKept} (h : (allTo l f n)[j]? = some k) : ∃ k0, l[j]? = some k0 ∧ k.e = k0.e := by
  unfold allTo at h
  rw [List.getElem?_mapIdx] at h
  cases hl : l[j]? with
  | none => rw [hl] at h; cases h
  | some k0 =>
    rw [hl] at h
    have h : (if j < n then { k0 with out := k0.out || f j } else k0) = k := Option.some.inj h
    refine ⟨k0, rfl, ?_⟩
    rw [← h]
    split <;> rfl
theorem compact_pair {X : PS} {Y : RS} {key : ByteArray} {n : Nat} (h : Rel X Y key) (hb : Bd n Y) (hn : n ≤ 10000000) (rev : Int) : ∃ v : Int, Pair 36 37 [.int .i64 rev] X Y key n (.int .i64 v) := by
  have hA := hb.all
  have hent : X.entries.length ≤ 1000 := by have := h.few; have := h.rooms; omega
  have hbc : pBadCut X rev = badCut Y rev := by unfold pBadCut badCut; rw [h.floor, h.rev]
  cases hbad : badCut Y rev
  · obtain ⟨c1, c2⟩ : ¬ rev ≤ Y.floor ∧ ¬ (Y.all.length : Int) < rev := by unfold badCut at hbad; simp at hbad; omega
    have f0 := h.floor0
    obtain ⟨r, rfl⟩ : ∃ r : Nat, rev = (r : Int) := ⟨rev.toNat, by omega⟩
    have hl : (allTo Y.all (outAt Y.all r) r).length = Y.all.length := by unfold allTo; simp
    refine ⟨0, X.compact (r : Int), Y.compact r, p_grow (fun w F b hX => pCompact_yes w r hX (hbc.trans hbad) hent), r_kept (fun w F b hR => Compact_yes w r hR (by omega) (by omega) (by omega)), ?_, ⟨by show (allTo Y.all (outAt Y.all r) r).length ≤ _; omega, hb.d0, by have := hb.d1; show Y.draws ≤ _; omega⟩⟩
    refine ⟨h.ksize, h.kx, h.ky, h.write, h.ep, h.turn, h.room, h.rooms, ?_, rfl, ?_, h.draws, h.len, h.srv, h.sn, compact_same h r, ?_, ?_, ?_⟩
    · show X.rev = ((allTo Y.all (outAt Y.all r) r).length : Int)
      rw [hl]; exact h.rev
    · show (0 : Int) ≤ (r : Int)
      omega
    · show ((X.entries.filter (fun e => outl X e (r : Int))).length : Int) ≤ Y.room
      have := List.length_filter_le (fun e => outl X e (r : Int)) X.entries
      have := h.few
      omega
    · intro j k hk
      obtain ⟨k0, hk0, e0⟩ := allTo_get hk
      rw [e0]
      exact h.revs j k0 hk0
    · intro k hk hg
      obtain ⟨j, hj⟩ := List.getElem?_of_mem hk
      obtain ⟨k0, hk0, e0⟩ := allTo_get hj
      rw [e0] at hg ⊢
      exact h.eok k0 (List.mem_of_getElem? hk0) hg
  · exact ⟨15, X, Y, p_same (fun w F b hX => pCompact_no w rev hX (hbc.trans hbad)), r_same (fun w F b hR => Compact_no w rev hR hbad), h, hb.up⟩
theorem new_rel (m : Nat) (room : Int) (key : ByteArray) (hc : cfgOk (m : Int) room key = true) : Rel (PS.new m room key) (RS.new m room key) key ∧ Bd 0 (RS.new m room key) := by
  unfold cfgOk at hc
  simp at hc
  obtain ⟨⟨c1, c2, c3, c4⟩, c5⟩ := hc
  have e : (RS.new (m : Int) room key).seen = List.replicate m 0 := by show List.replicate (m : Int).toNat 0 = _; rw [Int.toNat_natCast]
  have e2 : (RS.new (m : Int) room key).ops = List.replicate m RUnd.zero := by show List.replicate (m : Int).toNat RUnd.zero = _; rw [Int.toNat_natCast]
  refine ⟨⟨c5, rfl, rfl, rfl, ⟨rfl, rfl⟩, ⟨rfl, rfl⟩, rfl, ⟨c3, c4⟩, rfl, rfl, Int.le_refl _, rfl, ?_, ?_, ?_, rfl, ?_, ?_, ?_⟩, ⟨Nat.le_refl _, Int.le_refl _, Int.le_refl _⟩⟩
  · rw [e, e2]
    show (List.replicate m PSrv.zero).length = _ ∧ _
    simp
  · intro i s hs
    replace hs : (List.replicate m PSrv.zero)[i]? = some s := hs
    have hi : i < m := by have := (List.getElem?_eq_some_iff.1 hs).1; simpa using this
    rw [List.getElem?_replicate, if_pos hi] at hs
    obtain rfl := Option.some.inj hs
    rw [e, e2]
    exact ⟨0, RUnd.zero, by rw [List.getElem?_replicate, if_pos hi], by rw [List.getElem?_replicate, if_pos hi], ⟨rfl, rfl, fun z => by cases z⟩⟩
  · intro i sn hs
    rw [e] at hs
    have hi : i < m := by have := (List.getElem?_eq_some_iff.1 hs).1; simpa using this
    rw [List.getElem?_replicate, if_pos hi] at hs
    exact Or.inl (Option.some.inj hs).symm
  · show ((0 : Nat) : Int) ≤ room
    omega
  · intro i k hk
    cases hk
  · intro k hk
    cases hk
end Go.Proofs.YtggbjffmclpmgaaGreatDoor
namespace Go.Proofs.YtggbjffmclpmgaaGreatDoor
open Go.RowKit

/-! The two coffers, the law's world and the caller's lists, side by side in memory; G: blocks that none of them has. -/

structure St (w : World) (G : Nat → Prop) (bw bx br : Nat) (X : PS) (Y : RS) (outs : List LOut) (Fx Fr Fw H : Nat → Prop) : Prop where
  x : XIn w Fx bx X
  r : RIn w Fr br Y
  o : WIn w Fw bw bx br outs
  ok : ∀ o ∈ outs, OutOk w H o
  hb : ∀ g, H g → g < w.heap.size
  gb : ∀ k, G k → k < w.heap.size
  gx : ∀ k, Fx k → ¬ G k
  gr : ∀ k, Fr k → ¬ G k
  gw : ∀ k, Fw k → ¬ G k
  xr : ∀ k, Fx k → ¬ Fr k
  xw : ∀ k, Fx k → ¬ Fw k
  xh : ∀ k, H k → ¬ Fx k
  rw : ∀ k, Fr k → ¬ Fw k
  rh : ∀ k, H k → ¬ Fr k
  wh : ∀ k, H k → ¬ Fw k
  g0 : G 0
  f : Fours w
  gh : ∀ k, H k → ¬ G k
def J (w : World) (G : Nat → Prop) (bw bx br : Nat) (X : PS) (Y : RS) (outs : List LOut) : Prop := ∃ Fx Fr Fw H, St w G bw bx br X Y outs Fx Fr Fw H
theorem WIn.kept {w w' : World} {F G : Nat → Prop} {b bx r : Nat} {outs : List LOut} (h : WIn w F b bx r outs) (k : Kept G w w') (hd : ∀ i, F i → ¬ G i) : WIn w' F b bx r outs := by
  obtain ⟨v, h⟩ := h
  exact ⟨v, h.kept k hd⟩
theorem WIn.below {w : World} {F : Nat → Prop} {b bx r : Nat} {outs : List LOut} (h : WIn w F b bx r outs) : ∀ k, F k → k < w.heap.size := by
  obtain ⟨v, h⟩ := h
  exact h.below
theorem fours_at {w w' : World} (h : Fours w) (e : w'.heap[0]? = w.heap[0]?) (os : w'.os = w.os) (out : w'.output = w.output) (sz : w.heap.size ≤ w'.heap.size) : Fours w' :=
  h.later ⟨os, out, sz, fun k hk => by obtain rfl : k = 0 := by omega
                                       exact e⟩
variable {w w' : World} {G : Nat → Prop} {bw bx br : Nat} {X X' : PS} {Y Y' : RS} {outs : List LOut}
theorem J.low (h : J w G bw bx br X Y outs) (k : Low w.heap.size w w') : J w' G bw bx br X Y outs := by
  obtain ⟨Fx, Fr, Fw, H, h⟩ := h
  exact ⟨Fx, Fr, Fw, H, h.x.low k, h.r.low k, win_low h.o k, fun o ho => out_low (h.ok o ho) k, fun g hg => Nat.lt_of_lt_of_le (h.hb g hg) k.size, fun g hg => Nat.lt_of_lt_of_le (h.gb g hg) k.size, h.gx, h.gr, h.gw, h.xr, h.xw, h.xh, h.rw, h.rh, h.wh, h.g0, fours_at h.f (k.block 0 (h.gb 0 h.g0)) k.os k.output k.size, h.gh⟩
theorem J.weak (h : J w G bw bx br X Y outs) {G' : Nat → Prop} (hs : ∀ k, G' k → G k) (g0 : G' 0) : J w G' bw bx br X Y outs := by
  obtain ⟨Fx, Fr, Fw, H, h⟩ := h
  exact ⟨Fx, Fr, Fw, H, h.x, h.r, h.o, h.ok, h.hb, fun k hk => h.gb k (hs k hk), fun k hk g => h.gx k hk (hs k g), fun k hk g => h.gr k hk (hs k g), fun k hk g => h.gw k hk (hs k g), h.xr, h.xw, h.xh, h.rw, h.rh, h.wh, g0, h.f, fun k hk g => h.gh k hk (hs k g)⟩
theorem J.box (h : J w G bw bx br X Y outs) (ob : Obj) : J (w.alloc ob) (fun k => G k ∨ k = w.heap.size) bw bx br X Y outs := by
  obtain ⟨Fx, Fr, Fw, H, h⟩ := h
  have hx := h.x.below
  have hr := h.r.below
  have hw := h.o.below
  have k := (Low.refl _ w).alloc (Nat.le_refl _) ob
  exact ⟨Fx, Fr, Fw, H, h.x.low k, h.r.low k, win_low h.o k, fun o ho => out_low (h.ok o ho) k, fun g hg => Nat.lt_of_lt_of_le (h.hb g hg) k.size, fun g hg => by rcases hg with hg | hg; exact Nat.lt_of_lt_of_le (h.gb g hg) k.size; simp [hg], fun q f g => by rcases g with g | g; exact h.gx q f g; have := hx q f; omega, fun q f g => by rcases g with g | g; exact h.gr q f g; have := hr q f; omega, fun q f g => by rcases g with g | g; exact h.gw q f g; have := hw q f; omega, h.xr, h.xw, h.xh, h.rw, h.rh, h.wh, Or.inl h.g0, fours_at h.f (k.block 0 (h.gb 0 h.g0)) k.os k.output k.size, fun q hq g => by rcases g with g | g; exact h.gh q hq g; have := h.hb q hq; omega⟩
theorem J.ptrs (h : J w G bw bx br X Y outs) : w.cell? ⟨bw, 0, none⟩ = some (.pointer (some ⟨bx, 0, none⟩)) ∧ w.cell? ⟨bw, 1, none⟩ = some (.pointer (some ⟨br, 0, none⟩)) ∧ bw < w.heap.size := by
  obtain ⟨Fx, Fr, Fw, H, h⟩ := h
  exact win_ptrs h.o
theorem J.gb (h : J w G bw bx br X Y outs) : ∀ k, G k → k < w.heap.size := by
  obtain ⟨Fx, Fr, Fw, H, h⟩ := h
  exact h.gb
theorem J.callX {f : Nat} {args : List Value} {v : Value} (h : J w G bw bx br X Y outs) (hp : PUni f args X v X') :
    Calls Tryz.prog f (.pointer (some ⟨bx, 0, none⟩) :: args).toArray w fun e w' => e = .returned v ∧ J w' G bw bx br X' Y outs ∧ Kept (fun k => ¬ G k) w w' := by
  obtain ⟨Fx, Fr, Fw, H, h⟩ := h
  refine (hp w Fx bx h.x h.f (Nat.lt_of_le_of_lt (Nat.zero_le 0) (h.gb 0 h.g0))).mono ?_
  rintro e w' ⟨rfl, F', x', k, hF⟩
  have hr := h.r.below
  have hw := h.o.below
  have hg := h.gb
  have hh := h.hb
  refine ⟨rfl, ⟨F', Fr, Fw, H, x', h.r.kept k (fun i hi g => h.xr i g hi), h.o.kept k (fun i hi g => h.xw i g hi), fun o ho => out_kept (h.ok o ho) k h.xh, fun g hg => Nat.lt_of_lt_of_le (h.hb g hg) k.size, fun g hg => Nat.lt_of_lt_of_le (h.gb g hg) k.size, fun q f g => ?_, h.gr, h.gw, fun q f g => ?_, fun q f g => ?_, fun q g f => ?_, h.rw, h.rh, h.wh, h.g0, fours_at h.f (k.block 0 (h.gb 0 h.g0) (fun f => h.gx 0 f h.g0)) k.os k.output k.size, h.gh⟩, k.mono (fun i _ f g => h.gx i f g)⟩
  · rcases hF q f with e | e
    · exact h.gx q e g
    · have := hg q g; omega
  · rcases hF q f with e | e
    · exact h.xr q e g
    · have := hr q g; omega
  · rcases hF q f with e | e
    · exact h.xw q e g
    · have := hw q g; omega
  · rcases hF q f with e | e
    · exact h.xh q g e
    · have := hh q g; omega
theorem J.callR {f : Nat} {args : List Value} {v : Value} (h : J w G bw bx br X Y outs) (hp : RUni f args Y v Y') :
    Calls Tryz.prog f (.pointer (some ⟨br, 0, none⟩) :: args).toArray w fun e w' => e = .returned v ∧ J w' G bw bx br X Y' outs ∧ Kept (fun k => ¬ G k) w w' := by
  obtain ⟨Fx, Fr, Fw, H, h⟩ := h
  refine (hp w Fr br h.r).mono ?_
  rintro e w' ⟨rfl, F', x', k, hF⟩
  have hx := h.x.below
  have hw := h.o.below
  have hg := h.gb
  have hh := h.hb
  refine ⟨rfl, ⟨Fx, F', Fw, H, h.x.kept k (fun i hi g => h.xr i hi g), x', h.o.kept k (fun i hi g => h.rw i g hi), fun o ho => out_kept (h.ok o ho) k h.rh, fun g hg => Nat.lt_of_lt_of_le (h.hb g hg) k.size, fun g hg => Nat.lt_of_lt_of_le (h.gb g hg) k.size, h.gx, fun q f g => ?_, h.gw, fun q g f => ?_, h.xw, h.xh, fun q f g => ?_, fun q g f => ?_, h.wh, h.g0, fours_at h.f (k.block 0 (h.gb 0 h.g0) (fun f => h.gr 0 f h.g0)) k.os k.output k.size, h.gh⟩, k.mono (fun i _ f g => h.gr i f g)⟩
  · rcases hF q f with e | e
    · exact h.gr q e g
    · have := hg q g; omega
  · rcases hF q f with e | e
    · exact h.xr q g e
    · have := hx q g; omega
  · rcases hF q f with e | e
    · exact h.rw q e g
    · have := hw q g; omega
  · rcases hF q f with e | e
    · exact h.rh q g e
    · have := hh q g; omega
end Go.Proofs.YtggbjffmclpmgaaGreatDoor
