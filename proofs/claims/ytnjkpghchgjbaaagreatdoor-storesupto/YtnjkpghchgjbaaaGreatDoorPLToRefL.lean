import Derived.Test.YtnjkpghchgjbaaaGreatDoorPBToLawE
import Derived.Test.YtnjkpghchgjbaaaGreatDoorPNToPH
import Derived.Test.YtnjkpghchgjbaaaGreatDoorRefKToPC
namespace Go.Proofs.YtnjkpghchgjbaaaGreatDoor
open Go.RowKit

variable {F : Nat → Prop} {b : Nat} {X : PS}

theorem pGet_srv (w : World) (s : Int) (p : ByteArray) (h : XIn w F b X) (hs : isSrv X.servers.length s = false) :
    Calls Tryz.prog 30 #[.pointer (some ⟨b, 0, none⟩), .int .i64 s, .string p] w fun e w' => e = .returned (.tuple #[.string ⟨#[]⟩, .int .i64 0, .int .i64 4]) ∧ w' = w := by
  have HR := hid h
  have HS := hid hs
  clear h hs
  go_enter Tryz.func30, Tryz.ntmps30
  go_wp2_with (go_at_call 72; refine (mayRead_srv _ _ HR.out HS.out).mono ?_; rintro e y1 ⟨rfl, hy⟩; obtain rfl := hy.symm)
  go_ret3
  exact ⟨rfl, rfl⟩
theorem pGet_blind (w : World) (i : Nat) (s : PSrv) (p : ByteArray) (h : XIn w F b X) (ha : X.servers[i]? = some s) (hs : (s.seen == 0) = true) :
    Calls Tryz.prog 30 #[.pointer (some ⟨b, 0, none⟩), .int .i64 (i : Int), .string p] w fun e w' => e = .returned (.tuple #[.string ⟨#[]⟩, .int .i64 0, .int .i64 6]) ∧ w' = w := by
  have HR := hid h
  have HA := hid ha
  have HE : Hid (readErr s = 6) := by show _ = _; unfold readErr; rw [hs]; rfl
  clear h hs ha
  go_enter Tryz.func30, Tryz.ntmps30
  go_wp2_with (go_at_call 72; refine (mayRead_any _ _ _ HR.out HA.out).mono ?_; rw [HE.out]; rintro e y1 ⟨rfl, hy⟩; obtain rfl := hy.symm)
  go_ret3
  exact ⟨rfl, rfl⟩
set_option maxRecDepth 100000 in
theorem pGet_ok (w : World) (i : Nat) (s : PSrv) (p : ByteArray) (h : XIn w F b X) (ha : X.servers[i]? = some s) (hs : (s.seen == 0) = false) (A : ByteArray) (B C : Int)
    (hr : Calls Tryz.prog 73 #[.pointer (some ⟨b, 0, none⟩), .int .i64 (i : Int), .string p, .int .i64 X.rev] w fun e w' => e = .returned (.tuple #[.string A, .int .i64 B, .int .i64 C]) ∧ Low w.heap.size w w') :
    Calls Tryz.prog 30 #[.pointer (some ⟨b, 0, none⟩), .int .i64 (i : Int), .string p] w fun e w' => e = .returned (.tuple #[.string A, .int .i64 B, .int .i64 C]) ∧ Low w.heap.size w w' := by
  have HR := hid h
  have HA := hid ha
  have HRD := hid hr
  have HE : Hid (readErr s = 0) := by show _ = _; unfold readErr; rw [hs]; rfl
  have c0 := xin_rev h
  clear h hs ha hr
  go_enter Tryz.func30, Tryz.ntmps30
  go_wp2_with (first | (go_at_call 72; refine (mayRead_any _ _ _ HR.out HA.out).mono ?_; rw [HE.out]; rintro e y1 ⟨rfl, hy⟩; obtain rfl := hy.symm) | (go_at_call 73; refine HRD.out.mono ?_; rintro e y2 ⟨rfl, l2⟩; have L2 := hid l2; clear l2))
  go_ret3
  exact ⟨rfl, L2.out⟩
theorem pGetAt_srv (w : World) (s : Int) (p : ByteArray) (rev : Int) (h : XIn w F b X) (hs : isSrv X.servers.length s = false) :
    Calls Tryz.prog 32 #[.pointer (some ⟨b, 0, none⟩), .int .i64 s, .string p, .int .i64 rev] w fun e w' => e = .returned (.tuple #[.string ⟨#[]⟩, .int .i64 0, .int .i64 4]) ∧ w' = w := by
  have HR := hid h
  have HS := hid hs
  clear h hs
  go_enter Tryz.func32, Tryz.ntmps32
  go_wp2_with (go_at_call 72; refine (mayRead_srv _ _ HR.out HS.out).mono ?_; rintro e y1 ⟨rfl, hy⟩; obtain rfl := hy.symm)
  go_ret3
  exact ⟨rfl, rfl⟩
theorem pGetAt_blind (w : World) (i : Nat) (s : PSrv) (p : ByteArray) (rev : Int) (h : XIn w F b X) (ha : X.servers[i]? = some s) (hs : (s.seen == 0) = true) :
    Calls Tryz.prog 32 #[.pointer (some ⟨b, 0, none⟩), .int .i64 (i : Int), .string p, .int .i64 rev] w fun e w' => e = .returned (.tuple #[.string ⟨#[]⟩, .int .i64 0, .int .i64 6]) ∧ w' = w := by
  have HR := hid h
  have HA := hid ha
  have HE : Hid (readErr s = 6) := by show _ = _; unfold readErr; rw [hs]; rfl
  clear h hs ha
  go_enter Tryz.func32, Tryz.ntmps32
  go_wp2_with (go_at_call 72; refine (mayRead_any _ _ _ HR.out HA.out).mono ?_; rw [HE.out]; rintro e y1 ⟨rfl, hy⟩; obtain rfl := hy.symm)
  go_ret3
  exact ⟨rfl, rfl⟩
def pBadRev (X : PS) (rev : Int) : Bool := decide (rev < X.floor) || decide (X.rev < rev)
set_option maxRecDepth 100000 in
theorem pGetAt_rev (w : World) (i : Nat) (s : PSrv) (p : ByteArray) (rev : Int) (h : XIn w F b X) (ha : X.servers[i]? = some s) (hs : (s.seen == 0) = false) (hb : pBadRev X rev = true) :
    Calls Tryz.prog 32 #[.pointer (some ⟨b, 0, none⟩), .int .i64 (i : Int), .string p, .int .i64 rev] w fun e w' => e = .returned (.tuple #[.string ⟨#[]⟩, .int .i64 0, .int .i64 15]) ∧ w' = w := by
  have HR := hid h
  have HA := hid ha
  have HE : Hid (readErr s = 0) := by show _ = _; unfold readErr; rw [hs]; rfl
  have c0 := xin_rev h
  have c1 := xin_floor h
  clear h hs ha
  cases h1 : decide (rev < X.floor)
  · have h2 : decide (X.rev < rev) = true := by simpa [pBadRev, h1] using hb
    clear hb
    go_enter Tryz.func32, Tryz.ntmps32
    go_wp2_with (go_at_call 72; refine (mayRead_any _ _ _ HR.out HA.out).mono ?_; rw [HE.out]; rintro e y1 ⟨rfl, hy⟩; obtain rfl := hy.symm)
    go_ret3
    exact ⟨rfl, rfl⟩
  · clear hb
    go_enter Tryz.func32, Tryz.ntmps32
    go_wp2_with (go_at_call 72; refine (mayRead_any _ _ _ HR.out HA.out).mono ?_; rw [HE.out]; rintro e y1 ⟨rfl, hy⟩; obtain rfl := hy.symm)
    go_ret3
    exact ⟨rfl, rfl⟩
set_option maxRecDepth 100000 in
theorem pGetAt_ok (w : World) (i : Nat) (s : PSrv) (p : ByteArray) (rev : Int) (h : XIn w F b X) (ha : X.servers[i]? = some s) (hs : (s.seen == 0) = false) (hb : pBadRev X rev = false) (A : ByteArray) (B C : Int)
    (hr : Calls Tryz.prog 73 #[.pointer (some ⟨b, 0, none⟩), .int .i64 (i : Int), .string p, .int .i64 rev] w fun e w' => e = .returned (.tuple #[.string A, .int .i64 B, .int .i64 C]) ∧ Low w.heap.size w w') :
    Calls Tryz.prog 32 #[.pointer (some ⟨b, 0, none⟩), .int .i64 (i : Int), .string p, .int .i64 rev] w fun e w' => e = .returned (.tuple #[.string A, .int .i64 B, .int .i64 C]) ∧ Low w.heap.size w w' := by
  have HR := hid h
  have HA := hid ha
  have HRD := hid hr
  have HE : Hid (readErr s = 0) := by show _ = _; unfold readErr; rw [hs]; rfl
  have c0 := xin_rev h
  have c1 := xin_floor h
  simp only [pBadRev, Bool.or_eq_false_iff] at hb
  have h1 := hb.1
  have h2 := hb.2
  clear h hs ha hr hb
  go_enter Tryz.func32, Tryz.ntmps32
  go_wp2_with (first | (go_at_call 72; refine (mayRead_any _ _ _ HR.out HA.out).mono ?_; rw [HE.out]; rintro e y1 ⟨rfl, hy⟩; obtain rfl := hy.symm) | (go_at_call 73; refine HRD.out.mono ?_; rintro e y2 ⟨rfl, l2⟩; have L2 := hid l2; clear l2))
  go_ret3
  exact ⟨rfl, L2.out⟩
end Go.Proofs.YtnjkpghchgjbaaaGreatDoor
namespace Go.Proofs.YtnjkpghchgjbaaaGreatDoor
open Go.RowKit

variable {F : Nat → Prop} {b : Nat} {Y : RS}

set_option maxRecDepth 100000 in
set_option maxHeartbeats 1000000 in
theorem get_srv (w : World) (s : Int) (name : ByteArray) (rev : Int) (asked : Bool) (h : RIn w F b Y) (hs : isSrv Y.seen.length s = false) :
    Calls Tryz.prog 74 #[.pointer (some ⟨b, 0, none⟩), .int .i64 s, .string name, .int .i64 rev, .bool asked] w fun e w' => e = .returned (.tuple #[.string ⟨#[]⟩, .int .i64 0, .int .i64 4]) ∧ Low w.heap.size w w' := by
  have HR := hid h
  have HS := hid hs
  clear h hs
  go_enter Tryz.func74, Tryz.ntmps74
  go_wp2_with (go_at_call 60; refine (server_any _ _ HR.out).mono ?_; rw [HS.out]; rintro e y1 ⟨rfl, hy⟩; obtain rfl := hy.symm)
  go_ret3
  exact ⟨rfl, Low.refl _ _⟩
set_option maxRecDepth 100000 in
set_option maxHeartbeats 1000000 in
theorem get_blind (w : World) (i : Nat) (sn : Int) (u : RUnd) (name : ByteArray) (rev : Int) (asked : Bool) (h : RIn w F b Y) (ha : At Y i sn u) (hsn : (sn == 0) = true) :
    Calls Tryz.prog 74 #[.pointer (some ⟨b, 0, none⟩), .int .i64 i, .string name, .int .i64 rev, .bool asked] w fun e w' => e = .returned (.tuple #[.string ⟨#[]⟩, .int .i64 0, .int .i64 6]) ∧ Low w.heap.size w w' := by
  have HR := hid h
  have HS := hid ha.srv
  obtain ⟨gS, capS, hcS, hgS, s0⟩ := h.seenAt ha
  have i2 : (i : Int) < (Y.seen.length : Int) := by have := ha.len.1; omega
  clear h ha
  go_enter Tryz.func74, Tryz.ntmps74
  go_wp2_with (go_at_call 60; refine (server_any _ _ HR.out).mono ?_; rw [HS.out]; rintro e y1 ⟨rfl, hy⟩; obtain rfl := hy.symm)
  go_ret3
  exact ⟨rfl, Low.refl _ _⟩
/-- A revision that may not be asked for. -/
def badRev (Y : RS) (rev : Int) (asked : Bool) : Bool := asked && (decide (rev < Y.floor) || decide ((Y.all.length : Int) < rev))
set_option maxRecDepth 100000 in
set_option maxHeartbeats 1000000 in
theorem get_rev (w : World) (i : Nat) (sn : Int) (u : RUnd) (name : ByteArray) (rev : Int) (asked : Bool) (h : RIn w F b Y) (ha : At Y i sn u) (hsn : (sn == 0) = false) (_hn : Y.all.length ≤ 100000000) (hr : badRev Y rev asked = true) :
    Calls Tryz.prog 74 #[.pointer (some ⟨b, 0, none⟩), .int .i64 i, .string name, .int .i64 rev, .bool asked] w fun e w' => e = .returned (.tuple #[.string ⟨#[]⟩, .int .i64 0, .int .i64 15]) ∧ Low w.heap.size w w' := by
  have HR := hid h
  have HS := hid ha.srv
  obtain ⟨gS, capS, hcS, hgS, s0⟩ := h.seenAt ha
  have i2 : (i : Int) < (Y.seen.length : Int) := by have := ha.len.1; omega
  obtain ⟨a3, cap3, hc3, _⟩ := h.all
  rw [List.length_map] at hc3
  have c8 := h.floor
  clear h ha
  cases hA : asked
  · simp [badRev, hA] at hr
  · subst hA
    cases h1 : decide (rev < Y.floor)
    · have h2 : decide ((Y.all.length : Int) < rev) = true := by simpa [badRev, h1] using hr
      clear hr
      go_enter Tryz.func74, Tryz.ntmps74
      go_wp2_with (go_at_call 60; refine (server_any _ _ HR.out).mono ?_; rw [HS.out]; rintro e y1 ⟨rfl, hy⟩; obtain rfl := hy.symm)
      go_ret3
      exact ⟨rfl, Low.refl _ _⟩
    · clear hr
      go_enter Tryz.func74, Tryz.ntmps74
      go_wp2_with (go_at_call 60; refine (server_any _ _ HR.out).mono ?_; rw [HS.out]; rintro e y1 ⟨rfl, hy⟩; obtain rfl := hy.symm)
      go_ret3
      exact ⟨rfl, Low.refl _ _⟩
-- GEN
/-- The revision that is told beside what was opened. -/
def revOr (O : ByteArray × Int) (r : Int) : Int := if O.2 == 0 then r else 0
set_option maxRecDepth 100000 in
set_option maxHeartbeats 1000000 in
theorem get_none_false (w : World) (i : Nat) (sn : Int) (u : RUnd) (name : ByteArray) (rev : Int) (h : RIn w F b Y) (ha : At Y i sn u) (hsn : (sn == 0) = false) (hn : Y.all.length ≤ 100000000) (ht : thereOf (lastOf (Y.all.take rev.toNat) name) = false) :
    Calls Tryz.prog 74 #[.pointer (some ⟨b, 0, none⟩), .int .i64 i, .string name, .int .i64 rev, .bool false] w fun e w' => e = .returned (.tuple #[.string ⟨#[]⟩, .int .i64 0, .int .i64 12]) ∧ Low w.heap.size w w' := by
  have HR := hid h
  have HS := hid ha.srv
  have HA := hid ha
  have hb := h.lt
  obtain ⟨gS, capS, hcS, hgS, s0⟩ := h.seenAt ha
  have i2 : (i : Int) < (Y.seen.length : Int) := by have := ha.len.1; omega
  obtain ⟨a3, cap3, hc3, _⟩ := h.all
  rw [List.length_map] at hc3
  have c8 := h.floor
  obtain ⟨X, hX⟩ : ∃ X, (lastOf (Y.all.take rev.toNat) name).getD Ent.zero = X := ⟨_, rfl⟩
  have HX := hid hX
  unfold thereOf at ht
  rw [hX] at ht
  clear h ha hX
  cases hT : (lastOf (Y.all.take rev.toNat) name).isSome
  · have HT := hid hT
    clear hT ht
    go_enter Tryz.func74, Tryz.ntmps74
    go_wp2_with (first | (go_at_call 60; refine (server_any _ _ HR.out).mono ?_; rw [HS.out]; rintro e y1 ⟨rfl, hy⟩; obtain rfl := hy.symm) | (go_at_call 69; refine (last_any _ _ _ HR.out hn).mono ?_; rw [HX.out, HT.out]; rintro e y1 ⟨rfl, l1⟩; have L1 := hid l1; clear l1) | ((with_reducible refine st50 (.tmp 14) (.tmp 54) y1.heap.size Ent.zero X ?_ ?_ ?_ ?_); rfl; rfl; exact (Blk.new y1 50 Ent.zero.cells); intro W b2 k2 s2; have m5 : W.cell? ⟨y1.heap.size, 5, none⟩ = some (.bool X.gone) := b2.cell 5; have LW : Hid (Low w.heap.size w W) := low_set (L1.out.alloc L1.out.size _) k2 L1.out.size (by have := L1.out.size; simp; omega); have B2 := hid b2; clear b2 k2 s2))
    go_ret3
    exact ⟨rfl, LW.out⟩
  · have HT := hid hT
    have hg : X.gone = true := by rw [hT] at ht; simpa using ht
    clear hT ht
    go_enter Tryz.func74, Tryz.ntmps74
    go_wp2_with (first | (go_at_call 60; refine (server_any _ _ HR.out).mono ?_; rw [HS.out]; rintro e y1 ⟨rfl, hy⟩; obtain rfl := hy.symm) | (go_at_call 69; refine (last_any _ _ _ HR.out hn).mono ?_; rw [HX.out, HT.out]; rintro e y1 ⟨rfl, l1⟩; have L1 := hid l1; clear l1) | ((with_reducible refine st50 (.tmp 14) (.tmp 54) y1.heap.size Ent.zero X ?_ ?_ ?_ ?_); rfl; rfl; exact (Blk.new y1 50 Ent.zero.cells); intro W b2 k2 s2; have m5 : W.cell? ⟨y1.heap.size, 5, none⟩ = some (.bool X.gone) := b2.cell 5; have LW : Hid (Low w.heap.size w W) := low_set (L1.out.alloc L1.out.size _) k2 L1.out.size (by have := L1.out.size; simp; omega); have B2 := hid b2; clear b2 k2 s2))
    go_ret3
    exact ⟨rfl, LW.out⟩
set_option maxRecDepth 100000 in
set_option maxHeartbeats 1000000 in
theorem get_some_false (w : World) (i : Nat) (sn : Int) (u : RUnd) (name : ByteArray) (rev : Int) (X : Ent) (K : RKey) (ki : Nat) (h : RIn w F b Y) (ha : At Y i sn u) (hsn : (sn == 0) = false) (hn : Y.all.length ≤ 100000000) (hl : lastOf (Y.all.take rev.toNat) name = some X) (hg : X.gone = false)
    (hk : Y.keys[ki]? = some K) (hi : X.key = (ki : Int) + 1) (hi6 : ki ≤ 6) (hK : K.text.size = 48) (hE : EntOk X) :
    Calls Tryz.prog 74 #[.pointer (some ⟨b, 0, none⟩), .int .i64 i, .string name, .int .i64 rev, .bool false] w fun e w' =>
      e = .returned (.tuple #[.string (openedOf K X sn).1, .int .i64 (revOr (openedOf K X sn) X.rev), .int .i64 (openedOf K X sn).2]) ∧ Low w.heap.size w w' := by
  obtain ⟨xp, xr, xk, xd, xs, xg⟩ := X
  obtain rfl : xg = false := hg
  have HR := hid h
  have HS := hid ha.srv
  have HA := hid ha
  have hb := h.lt
  obtain ⟨gS, capS, hcS, hgS, s0⟩ := h.seenAt ha
  have i2 : (i : Int) < (Y.seen.length : Int) := by have := ha.len.1; omega
  obtain ⟨a3, cap3, hc3, _⟩ := h.all
  rw [List.length_map] at hc3
  have c8 := h.floor
  have HX : Hid ((lastOf (Y.all.take rev.toNat) name).getD Ent.zero = (Ent.mk xp xr xk xd xs false)) := by show _ = _; rw [hl]; rfl
  have HT : Hid ((lastOf (Y.all.take rev.toNat) name).isSome = true) := by show _ = _; rw [hl]; rfl
  have HK1 := hid hk
  have HK2 := hid hi
  have HK3 := hid hK
  have HE := hid hE
  obtain ⟨O, hO⟩ : ∃ O, O = openedOf K (Ent.mk xp xr xk xd xs false) sn := ⟨_, rfl⟩
  have HO := hid hO
  clear h ha hl hk hi hK hE hO
  go_enter Tryz.func74, Tryz.ntmps74
  go_upto_region 11 with (first | (go_at_call 60; refine (server_any _ _ HR.out).mono ?_; rw [HS.out]; rintro e y1 ⟨rfl, hy⟩; obtain rfl := hy.symm) | (go_at_call 69; refine (last_any _ _ _ HR.out hn).mono ?_; rw [HX.out, HT.out]; rintro e y1 ⟨rfl, l1⟩; have L1 := hid l1; clear l1) | ((with_reducible refine st50 (.tmp 14) (.tmp 54) y1.heap.size Ent.zero (Ent.mk xp xr xk xd xs false) ?_ ?_ ?_ ?_); rfl; rfl; exact (Blk.new y1 50 Ent.zero.cells); intro W b2 k2 s2; have m5 : W.cell? ⟨y1.heap.size, 5, none⟩ = some (.bool false) := b2.cell 5; have LW : Hid (Low w.heap.size w W) := low_set (L1.out.alloc L1.out.size _) k2 L1.out.size (by have := L1.out.size; simp; omega); have B2 := hid b2; clear b2 k2 s2))
  have RW : Hid (RIn W F b Y) := HR.out.low LW.out
  obtain ⟨g2, cap2, hc2, hg2, t0⟩ := RW.out.seenAt HA.out
  have x0 : W.cell? ⟨y1.heap.size, 0, none⟩ = some (.string xp) := B2.out.cell 0
  have x1 : W.cell? ⟨y1.heap.size, 1, none⟩ = some (.int .i64 xr) := B2.out.cell 1
  have x2 : W.cell? ⟨y1.heap.size, 2, none⟩ = some (.int .i64 xk) := B2.out.cell 2
  have x3 : W.cell? ⟨y1.heap.size, 3, none⟩ = some (.int .i64 xd) := B2.out.cell 3
  have x4 : W.cell? ⟨y1.heap.size, 4, none⟩ = some (.string xs) := B2.out.cell 4
  have lb : b < W.heap.size := RW.out.lt
  have lm : y1.heap.size < W.heap.size := B2.out.lt
  clear hcS hgS s0 hc3 c8 hb
  go_cut [16, 17] (fun tv ev wc => tv = .string O.1 ∧ ev = .int .i64 O.2 ∧ Hid (Low w.heap.size w wc ∧ wc.cell? ⟨y1.heap.size, 1, none⟩ = some (.int .i64 xr)))
  case first =>
    go_region_with (go_at_call 91; refine (opened_any _ (Ent.mk xp xr xk xd xs false) sn K ki (by exact RW.out.drew) HK1.out HK2.out hi6 HK3.out HE.out).mono ?_; rw [← HO.out]; rintro e y2 ⟨rfl, l2⟩; have z1 : y2.cell? ⟨y1.heap.size, 1, none⟩ = some (.int .i64 xr) := (l2.cell lm).trans x1; have Z1 := hid z1; have L2 := hid l2; clear l2 z1)
    all_goals
      go_wp2_with fail
      go_meet
    all_goals exact ⟨rfl, rfl, LW.out.drew.trans (L2.out.mono (by have := LW.out.size; simpa using this)), Z1.out⟩
  case rest =>
  obtain ⟨rfl, rfl, HCU⟩ := hcut
  have LL := hid HCU.out.1
  have z1 := HCU.out.2
  cases hz : (O.2 == 0)
  · have q1 : (O.2 != 0) = true := by simp only [bne, hz]; rfl
    go_wp2_with fail
    go_ret3
    have hne : ¬ O.2 = 0 := by simpa using hz
    have h1 : O.1 = ⟨#[]⟩ := by
      have hh := hne
      rw [HO.out] at hh ⊢
      unfold openedOf at hh ⊢
      (repeat' split) <;> simp_all
    rw [← HO.out]
    exact ⟨by simp [revOr, hne, h1], LL.out⟩
  · have q1 : (O.2 != 0) = false := by simp only [bne, hz]; rfl
    have z : O.2 = 0 := by simpa using hz
    go_upto_region 14 with fail
    go_region
    all_goals go_wp2_with fail
    all_goals go_ret3
    all_goals
      rw [← HO.out]
      exact ⟨by simp [revOr, z], LL.out.drew⟩
set_option maxRecDepth 100000 in
set_option maxHeartbeats 1000000 in
theorem get_none_true (w : World) (i : Nat) (sn : Int) (u : RUnd) (name : ByteArray) (rev : Int) (h : RIn w F b Y) (ha : At Y i sn u) (hsn : (sn == 0) = false) (hn : Y.all.length ≤ 100000000) (h1 : decide (rev < Y.floor) = false) (h2 : decide ((Y.all.length : Int) < rev) = false) (ht : thereOf (lastOf (Y.all.take rev.toNat) name) = false) :
    Calls Tryz.prog 74 #[.pointer (some ⟨b, 0, none⟩), .int .i64 i, .string name, .int .i64 rev, .bool true] w fun e w' => e = .returned (.tuple #[.string ⟨#[]⟩, .int .i64 0, .int .i64 12]) ∧ Low w.heap.size w w' := by
  have HR := hid h
  have HS := hid ha.srv
  have HA := hid ha
  have hb := h.lt
  obtain ⟨gS, capS, hcS, hgS, s0⟩ := h.seenAt ha
  have i2 : (i : Int) < (Y.seen.length : Int) := by have := ha.len.1; omega
  obtain ⟨a3, cap3, hc3, _⟩ := h.all
  rw [List.length_map] at hc3
  have c8 := h.floor
  obtain ⟨X, hX⟩ : ∃ X, (lastOf (Y.all.take rev.toNat) name).getD Ent.zero = X := ⟨_, rfl⟩
  have HX := hid hX
  unfold thereOf at ht
  rw [hX] at ht
  clear h ha hX
  cases hT : (lastOf (Y.all.take rev.toNat) name).isSome
  · have HT := hid hT
    clear hT ht
    go_enter Tryz.func74, Tryz.ntmps74
    go_wp2_with (first | (go_at_call 60; refine (server_any _ _ HR.out).mono ?_; rw [HS.out]; rintro e y1 ⟨rfl, hy⟩; obtain rfl := hy.symm) | (go_at_call 69; refine (last_any _ _ _ HR.out hn).mono ?_; rw [HX.out, HT.out]; rintro e y1 ⟨rfl, l1⟩; have L1 := hid l1; clear l1) | ((with_reducible refine st50 (.tmp 14) (.tmp 54) y1.heap.size Ent.zero X ?_ ?_ ?_ ?_); rfl; rfl; exact (Blk.new y1 50 Ent.zero.cells); intro W b2 k2 s2; have m5 : W.cell? ⟨y1.heap.size, 5, none⟩ = some (.bool X.gone) := b2.cell 5; have LW : Hid (Low w.heap.size w W) := low_set (L1.out.alloc L1.out.size _) k2 L1.out.size (by have := L1.out.size; simp; omega); have B2 := hid b2; clear b2 k2 s2))
    go_ret3
    exact ⟨rfl, LW.out⟩
  · have HT := hid hT
    have hg : X.gone = true := by rw [hT] at ht; simpa using ht
    clear hT ht
    go_enter Tryz.func74, Tryz.ntmps74
    go_wp2_with (first | (go_at_call 60; refine (server_any _ _ HR.out).mono ?_; rw [HS.out]; rintro e y1 ⟨rfl, hy⟩; obtain rfl := hy.symm) | (go_at_call 69; refine (last_any _ _ _ HR.out hn).mono ?_; rw [HX.out, HT.out]; rintro e y1 ⟨rfl, l1⟩; have L1 := hid l1; clear l1) | ((with_reducible refine st50 (.tmp 14) (.tmp 54) y1.heap.size Ent.zero X ?_ ?_ ?_ ?_); rfl; rfl; exact (Blk.new y1 50 Ent.zero.cells); intro W b2 k2 s2; have m5 : W.cell? ⟨y1.heap.size, 5, none⟩ = some (.bool X.gone) := b2.cell 5; have LW : Hid (Low w.heap.size w W) := low_set (L1.out.alloc L1.out.size _) k2 L1.out.size (by have := L1.out.size; simp; omega); have B2 := hid b2; clear b2 k2 s2))
    go_ret3
    exact ⟨rfl, LW.out⟩
set_option maxRecDepth 100000 in
set_option maxHeartbeats 1000000 in
theorem get_some_true (w : World) (i : Nat) (sn : Int) (u : RUnd) (name : ByteArray) (rev : Int) (X : Ent) (K : RKey) (ki : Nat) (h : RIn w F b Y) (ha : At Y i sn u) (hsn : (sn == 0) = false) (hn : Y.all.length ≤ 100000000) (h1 : decide (rev < Y.floor) = false) (h2 : decide ((Y.all.length : Int) < rev) = false) (hl : lastOf (Y.all.take rev.toNat) name = some X) (hg : X.gone = false)
    (hk : Y.keys[ki]? = some K) (hi : X.key = (ki : Int) + 1) (hi6 : ki ≤ 6) (hK : K.text.size = 48) (hE : EntOk X) :
    Calls Tryz.prog 74 #[.pointer (some ⟨b, 0, none⟩), .int .i64 i, .string name, .int .i64 rev, .bool true] w fun e w' =>
      e = .returned (.tuple #[.string (openedOf K X sn).1, .int .i64 (revOr (openedOf K X sn) X.rev), .int .i64 (openedOf K X sn).2]) ∧ Low w.heap.size w w' := by
  obtain ⟨xp, xr, xk, xd, xs, xg⟩ := X
  obtain rfl : xg = false := hg
  have HR := hid h
  have HS := hid ha.srv
  have HA := hid ha
  have hb := h.lt
  obtain ⟨gS, capS, hcS, hgS, s0⟩ := h.seenAt ha
  have i2 : (i : Int) < (Y.seen.length : Int) := by have := ha.len.1; omega
  obtain ⟨a3, cap3, hc3, _⟩ := h.all
  rw [List.length_map] at hc3
  have c8 := h.floor
  have HX : Hid ((lastOf (Y.all.take rev.toNat) name).getD Ent.zero = (Ent.mk xp xr xk xd xs false)) := by show _ = _; rw [hl]; rfl
  have HT : Hid ((lastOf (Y.all.take rev.toNat) name).isSome = true) := by show _ = _; rw [hl]; rfl
  have HK1 := hid hk
  have HK2 := hid hi
  have HK3 := hid hK
  have HE := hid hE
  obtain ⟨O, hO⟩ : ∃ O, O = openedOf K (Ent.mk xp xr xk xd xs false) sn := ⟨_, rfl⟩
  have HO := hid hO
  clear h ha hl hk hi hK hE hO
  go_enter Tryz.func74, Tryz.ntmps74
  go_upto_region 11 with (first | (go_at_call 60; refine (server_any _ _ HR.out).mono ?_; rw [HS.out]; rintro e y1 ⟨rfl, hy⟩; obtain rfl := hy.symm) | (go_at_call 69; refine (last_any _ _ _ HR.out hn).mono ?_; rw [HX.out, HT.out]; rintro e y1 ⟨rfl, l1⟩; have L1 := hid l1; clear l1) | ((with_reducible refine st50 (.tmp 14) (.tmp 54) y1.heap.size Ent.zero (Ent.mk xp xr xk xd xs false) ?_ ?_ ?_ ?_); rfl; rfl; exact (Blk.new y1 50 Ent.zero.cells); intro W b2 k2 s2; have m5 : W.cell? ⟨y1.heap.size, 5, none⟩ = some (.bool false) := b2.cell 5; have LW : Hid (Low w.heap.size w W) := low_set (L1.out.alloc L1.out.size _) k2 L1.out.size (by have := L1.out.size; simp; omega); have B2 := hid b2; clear b2 k2 s2))
  have RW : Hid (RIn W F b Y) := HR.out.low LW.out
  obtain ⟨g2, cap2, hc2, hg2, t0⟩ := RW.out.seenAt HA.out
  have x0 : W.cell? ⟨y1.heap.size, 0, none⟩ = some (.string xp) := B2.out.cell 0
  have x1 : W.cell? ⟨y1.heap.size, 1, none⟩ = some (.int .i64 xr) := B2.out.cell 1
  have x2 : W.cell? ⟨y1.heap.size, 2, none⟩ = some (.int .i64 xk) := B2.out.cell 2
  have x3 : W.cell? ⟨y1.heap.size, 3, none⟩ = some (.int .i64 xd) := B2.out.cell 3
  have x4 : W.cell? ⟨y1.heap.size, 4, none⟩ = some (.string xs) := B2.out.cell 4
  have lb : b < W.heap.size := RW.out.lt
  have lm : y1.heap.size < W.heap.size := B2.out.lt
  clear hcS hgS s0 hc3 c8 hb
  go_cut [16, 17] (fun tv ev wc => tv = .string O.1 ∧ ev = .int .i64 O.2 ∧ Hid (Low w.heap.size w wc ∧ wc.cell? ⟨y1.heap.size, 1, none⟩ = some (.int .i64 xr)))
  case first =>
    go_region_with (go_at_call 91; refine (opened_any _ (Ent.mk xp xr xk xd xs false) sn K ki (by exact RW.out.drew) HK1.out HK2.out hi6 HK3.out HE.out).mono ?_; rw [← HO.out]; rintro e y2 ⟨rfl, l2⟩; have z1 : y2.cell? ⟨y1.heap.size, 1, none⟩ = some (.int .i64 xr) := (l2.cell lm).trans x1; have Z1 := hid z1; have L2 := hid l2; clear l2 z1)
    all_goals
      go_wp2_with fail
      go_meet
    all_goals exact ⟨rfl, rfl, LW.out.drew.trans (L2.out.mono (by have := LW.out.size; simpa using this)), Z1.out⟩
  case rest =>
  obtain ⟨rfl, rfl, HCU⟩ := hcut
  have LL := hid HCU.out.1
  have z1 := HCU.out.2
  cases hz : (O.2 == 0)
  · have q1 : (O.2 != 0) = true := by simp only [bne, hz]; rfl
    go_wp2_with fail
    go_ret3
    have hne : ¬ O.2 = 0 := by simpa using hz
    have h1 : O.1 = ⟨#[]⟩ := by
      have hh := hne
      rw [HO.out] at hh ⊢
      unfold openedOf at hh ⊢
      (repeat' split) <;> simp_all
    rw [← HO.out]
    exact ⟨by simp [revOr, hne, h1], LL.out⟩
  · have q1 : (O.2 != 0) = false := by simp only [bne, hz]; rfl
    have z : O.2 = 0 := by simpa using hz
    go_upto_region 14 with fail
    go_region
    all_goals go_wp2_with fail
    all_goals go_ret3
    all_goals
      rw [← HO.out]
      exact ⟨by simp [revOr, z], LL.out.drew⟩
end Go.Proofs.YtnjkpghchgjbaaaGreatDoor
