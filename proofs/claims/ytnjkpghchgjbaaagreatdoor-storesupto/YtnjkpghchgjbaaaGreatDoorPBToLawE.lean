import Derived.Test.YtnjkpghchgjbaaaGreatDoorPRepToPA
import Derived.Test.YtnjkpghchgjbaaaGreatDoorLawD
namespace Go.Proofs.YtnjkpghchgjbaaaGreatDoor
open Go.RowKit

variable {F : Nat → Prop} {b : Nat} {X : PS}

set_option maxRecDepth 100000 in
theorem pState_any (w : World) (h : XIn w F b X) :
    Calls Tryz.prog 54 #[.pointer (some ⟨b, 0, none⟩)] w fun e w' => e = .returned (.agg (stCells X.rev X.floor X.epoch X.write X.turn).toArray) ∧ Low w.heap.size w w' := by
  have c0 := xin_rev h
  have c1 := xin_floor h
  have c2 := xin_epoch h
  have c3 := xin_write h
  have c4 := xin_turn h
  have hb := h.lt
  clear h
  go_enter Tryz.func54, Tryz.ntmps54
  go_wp2
  (try simp only [Exit.inBlock, Exit.then])
  refine bodyPost_ret (results_cell rfl w.heap.size (stCells X.rev X.floor X.epoch X.write X.turn) _ rfl (by exact (Blk.new w 54 (stCells X.rev X.floor X.epoch X.write X.turn)).whole) Tryz.underlying54 rfl (sz54 _ _ _ _ _)) rfl ?_
  exact ⟨rfl, (Low.refl _ w).alloc (Nat.le_refl _) _⟩
theorem psrv {i : Nat} {s : PSrv} (ha : X.servers[i]? = some s) : isSrv X.servers.length (i : Int) = true ∧ (i : Int) < (X.servers.length : Int) := by
  have := (List.getElem?_eq_some_iff.1 ha).1
  rw [isSrv_iff]; omega
theorem mayRead_srv (w : World) (s : Int) (h : XIn w F b X) (hs : isSrv X.servers.length s = false) :
    Calls Tryz.prog 72 #[.pointer (some ⟨b, 0, none⟩), .int .i64 s] w fun e w' => e = .returned (.int .i64 4) ∧ w' = w := by
  have HR := hid h
  have HS := hid hs
  clear h hs
  go_enter Tryz.func72, Tryz.ntmps72
  go_wp2_with (go_at_call 59; refine (isServer_any _ _ HR.out).mono ?_; rw [HS.out]; rintro e y1 ⟨rfl, hy⟩; obtain rfl := hy.symm)
  go_ret
  exact ⟨rfl, rfl⟩
def readErr (s : PSrv) : Int := if s.seen == 0 then 6 else 0
set_option maxRecDepth 100000 in
theorem mayRead_any (w : World) (i : Nat) (s : PSrv) (h : XIn w F b X) (ha : X.servers[i]? = some s) :
    Calls Tryz.prog 72 #[.pointer (some ⟨b, 0, none⟩), .int .i64 (i : Int)] w fun e w' => e = .returned (.int .i64 (readErr s)) ∧ w' = w := by
  obtain ⟨g, cap, hc, hg, hcs, _⟩ := xin_srvAt h ha
  have c0 : w.cell? ⟨g, i * 10, none⟩ = some (.int .i64 s.seen) := hcs 0 (by omega)
  have hl := (psrv ha).2
  have HS := hid (psrv ha).1
  have HR := hid h
  clear h ha hcs
  cases hz : (s.seen == 0)
  all_goals
    have HE := hid (show readErr s = _ from by unfold readErr; rw [hz])
    go_enter Tryz.func72, Tryz.ntmps72
    go_wp2_with (go_at_call 59; refine (isServer_any _ _ HR.out).mono ?_; rw [HS.out]; rintro e y1 ⟨rfl, hy⟩; obtain rfl := hy.symm)
    go_ret
    exact ⟨by rw [HE.out]; rfl, rfl⟩
def PS.refresh (X : PS) (i : Nat) (s : PSrv) : PS := { X with servers := X.servers.set i { s with seen := X.epoch } }
def PS.crash (X : PS) (i : Nat) : PS := { X with servers := X.servers.set i PSrv.zero }
theorem pRefresh_no (w : World) (s : Int) (h : XIn w F b X) (hs : isSrv X.servers.length s = false) :
    Calls Tryz.prog 22 #[.pointer (some ⟨b, 0, none⟩), .int .i64 s] w fun e w' => e = .returned (.int .i64 4) ∧ w' = w := by
  have HR := hid h
  have HS := hid hs
  clear h hs
  go_enter Tryz.func22, Tryz.ntmps22
  go_wp2_with (go_at_call 59; refine (isServer_any _ _ HR.out).mono ?_; rw [HS.out]; rintro e y1 ⟨rfl, hy⟩; obtain rfl := hy.symm)
  go_ret
  exact ⟨rfl, rfl⟩
set_option maxRecDepth 100000 in
set_option maxHeartbeats 1000000 in
theorem pRefresh_yes (w : World) (i : Nat) (s : PSrv) (h : XIn w F b X) (ha : X.servers[i]? = some s) :
    Calls Tryz.prog 22 #[.pointer (some ⟨b, 0, none⟩), .int .i64 (i : Int)] w fun e w' => e = .returned (.int .i64 0) ∧ XIn w' F b (X.refresh i s) ∧ Kept F w w' := by
  obtain ⟨g, cap, hc, hg, hcs, hf⟩ := xin_srvAt h ha
  have c0 : w.cell? ⟨g, i * 10, none⟩ = some (.int .i64 s.seen) := hcs 0 (by omega)
  have f0 := hf (i * 10)
  have c2 := xin_epoch h
  have hl := (psrv ha).2
  have HS := hid (psrv ha).1
  have HR := hid h
  obtain ⟨p1, p2⟩ := xin_setSeen h hc i s ha X.epoch
  have P1 := hid p1
  have P2 := hid p2
  clear h ha hcs hf p1 p2
  go_enter Tryz.func22, Tryz.ntmps22
  go_upto_region 3 with (go_at_call 59; refine (isServer_any _ _ HR.out).mono ?_; rw [HS.out]; rintro e y1 ⟨rfl, hy⟩; obtain rfl := hy.symm)
  go_region
  all_goals go_wp2_with fail
  all_goals go_ret
  all_goals exact ⟨rfl, P1.out.drew, P2.out.drew⟩
theorem pCrash_no (w : World) (s : Int) (h : XIn w F b X) (hs : isSrv X.servers.length s = false) :
    Calls Tryz.prog 24 #[.pointer (some ⟨b, 0, none⟩), .int .i64 s] w fun e w' => e = .returned (.int .i64 4) ∧ w' = w := by
  have HR := hid h
  have HS := hid hs
  clear h hs
  go_enter Tryz.func24, Tryz.ntmps24
  go_wp2_with (go_at_call 59; refine (isServer_any _ _ HR.out).mono ?_; rw [HS.out]; rintro e y1 ⟨rfl, hy⟩; obtain rfl := hy.symm)
  go_ret
  exact ⟨rfl, rfl⟩
set_option maxRecDepth 100000 in
set_option maxHeartbeats 1000000 in
theorem pCrash_yes (w : World) (i : Nat) (s : PSrv) (h : XIn w F b X) (ha : X.servers[i]? = some s) :
    Calls Tryz.prog 24 #[.pointer (some ⟨b, 0, none⟩), .int .i64 (i : Int)] w fun e w' => e = .returned (.int .i64 0) ∧ XIn w' F b (X.crash i) ∧ Kept F w w' := by
  obtain ⟨g, cap, hc, hg, hcs, hf⟩ := xin_srvAt h ha
  have hl := (psrv ha).2
  have HS := hid (psrv ha).1
  have HR := hid h
  obtain ⟨p1, p2, p3⟩ := xin_putSrv h hc i (List.getElem?_eq_some_iff.1 ha).1 PSrv.zero
  have P1 := hid p1
  have P2 := hid p2
  have P3 := hid p3
  clear h ha hcs hf p1 p2 p3
  go_enter Tryz.func24, Tryz.ntmps24
  go_wp2_with (first | (go_at_call 59; refine (isServer_any _ _ HR.out).mono ?_; rw [HS.out]; rintro e y1 ⟨rfl, hy⟩; obtain rfl := hy.symm) | ((with_reducible refine st96 (.tmp 15) (.tmp 14) g (i * 10) PSrv.zero ?_ ?_ P3.out ?_); rfl; rfl))
  go_ret
  exact ⟨rfl, P1.out, P2.out⟩
end Go.Proofs.YtnjkpghchgjbaaaGreatDoor
namespace Go.Proofs.YtnjkpghchgjbaaaGreatDoor
open Go.RowKit

variable {F : Nat → Prop} {b : Nat} {X : PS}

theorem info96 : (Tryz.prog.info? 96).map (fun i => (i.zero, i.size, i.bytes)) = some (some (.agg #[.int .i64 0, .bool false, .int .i64 0, .int .i64 0, .string ⟨#[]⟩, .int .i64 0, .int .i64 0, .int .i64 0, .string ⟨#[]⟩, .bool false]), 10, 96) := by kernel_rfl
def srvZeros (m : Nat) : List Value := (List.replicate m PSrv.zero).flatMap PSrv.cells
theorem made_srv1 : madeCells (Value.agg #[.int .i64 0, .bool false, .int .i64 0, .int .i64 0, .string ⟨#[]⟩, .int .i64 0, .int .i64 0, .int .i64 0, .string ⟨#[]⟩, .bool false]).cells (1 * 10) = (srvZeros 1).toArray := by kernel_rfl
theorem made_srv2 : madeCells (Value.agg #[.int .i64 0, .bool false, .int .i64 0, .int .i64 0, .string ⟨#[]⟩, .int .i64 0, .int .i64 0, .int .i64 0, .string ⟨#[]⟩, .bool false]).cells (2 * 10) = (srvZeros 2).toArray := by kernel_rfl
theorem made_srv3 : madeCells (Value.agg #[.int .i64 0, .bool false, .int .i64 0, .int .i64 0, .string ⟨#[]⟩, .int .i64 0, .int .i64 0, .int .i64 0, .string ⟨#[]⟩, .bool false]).cells (3 * 10) = (srvZeros 3).toArray := by kernel_rfl
theorem made_srv4 : madeCells (Value.agg #[.int .i64 0, .bool false, .int .i64 0, .int .i64 0, .string ⟨#[]⟩, .int .i64 0, .int .i64 0, .int .i64 0, .string ⟨#[]⟩, .bool false]).cells (4 * 10) = (srvZeros 4).toArray := by kernel_rfl
theorem make_srv (m : Nat) (h1 : 1 ≤ m) (h4 : m ≤ 4) (w : World) : (Instr.makeSlice 58 (.int .i64 (m : Int)) (.int .i64 (m : Int))).run Tryz.prog w = .ok (.slice (some ⟨w.heap.size, 0, none⟩) m m) (w.alloc (.cells (srvZeros m).toArray 96)) := by
  obtain ⟨i, hi, hz0, hz1, hz2⟩ := info_parts info96
  have hr := run_make (P := Tryz.prog) w 58 96 i _ Tryz.underlying58 hi hz0 .i64 .i64 m m (by omega) (Int.le_refl _) (by rw [hz2]; omega) (by omega)
  simp only [Int.toNat_natCast, hz1] at hr
  rw [hr]
  have : m = 1 ∨ m = 2 ∨ m = 3 ∨ m = 4 := by omega
  rcases this with rfl | rfl | rfl | rfl
  · rw [made_srv1]
  · rw [made_srv2]
  · rw [made_srv3]
  · rw [made_srv4]
def PKey.first (key : ByteArray) : PKey := ⟨key, 1, 1⟩
def PS.new (m : Nat) (room : Int) (key : ByteArray) : PS := ⟨0, 0, 1, 1, 0, room, 0, [PKey.first key], List.replicate m PSrv.zero, []⟩
theorem xin_new {w : World} {kb sb n : Nat} {m : Nat} {room : Int} {key : ByteArray} (hb : Blk w n 60 [.int .i64 0, .int .i64 0, .int .i64 1, .int .i64 1, .int .i64 0, .int .i64 room, .int .i64 0, .slice (some ⟨kb, 0, none⟩) 1 1, .slice (some ⟨sb, 0, none⟩) m m, .slice none 0 0])
    (hk : Blk w kb 56 (PKey.first key).cells) (hs : Blk w sb 96 (srvZeros m)) (h1 : kb ≠ n) (h2 : sb ≠ n) (h3 : kb ≠ sb) (hm : m ≤ 4) (F : Nat → Prop) (f1 : F n) (f2 : F kb) (f3 : F sb) (hF : ∀ k, F k → k < w.heap.size) : XIn w F n (PS.new m room key) := by
  have hml : (m : Nat) ≤ maxLen := by unfold maxLen; omega
  have hlen : (srvZeros m).length = m * 10 := by
    unfold srvZeros
    rw [flat_length 10 PSrv.cells PSrv.len, List.length_replicate]
  refine ⟨.slice (some ⟨kb, 0, none⟩) 1 1, .slice (some ⟨sb, 0, none⟩) m m, .slice none 0 0, hb, f1, hF, fun k => if k = n then 0 else if k = kb then 1 else 2, by simp, fun j r hj => ?_⟩
  have hj3 : j = 0 ∨ j = 1 ∨ j = 2 ∨ 3 ≤ j := by omega
  rcases hj3 with rfl | rfl | rfl | h5
  · obtain rfl := (Option.some.inj hj).symm
    refine ⟨_, rfl, ⟨rfl, Or.inr ⟨kb, 1, _, rfl, Nat.zero_le _, hk, Nat.le_refl _, by decide, rfl, rfl⟩⟩, fun k hk2 => ?_⟩
    obtain rfl : kb = k := Option.some.inj hk2
    exact ⟨f2, by simp [h1]⟩
  · obtain rfl := (Option.some.inj hj).symm
    refine ⟨_, rfl, ⟨by rw [show (PS.new m room key).servers = List.replicate m PSrv.zero from rfl, List.length_replicate]; exact hlen, Or.inr ⟨sb, m, _, by rw [show (PS.new m room key).servers = List.replicate m PSrv.zero from rfl, List.length_replicate], Nat.zero_le _, hs, by rw [show (PS.new m room key).servers = List.replicate m PSrv.zero from rfl, List.length_replicate]; exact Nat.le_refl _, hml, by simpa using hlen, ?_⟩⟩, fun k hk2 => ?_⟩
    · rw [show (PS.new m room key).servers = List.replicate m PSrv.zero from rfl, List.length_replicate, List.toList_toArray]
      exact List.take_of_length_le (by rw [hlen]; exact Nat.le_refl _)
    · obtain rfl : sb = k := Option.some.inj hk2
      refine ⟨f3, ?_⟩
      show (if sb = n then 0 else if sb = kb then 1 else 2) = 2
      rw [if_neg h2, if_neg (fun e => h3 e.symm)]
  · obtain rfl := (Option.some.inj hj).symm
    exact ⟨.slice none 0 0, rfl, World.ownsRow_nil _ _ _ _, fun k hk2 => by cases hk2⟩
  · rw [List.getElem?_eq_none (by simpa [PS.rows] using h5)] at hj
    cases hj
theorem three_blocks (w : World) (n : Nat) (hn : w.heap.size = n) (A1 A2 A3 : List Value) (t1 t2 t3 : TypeId) :
    Blk (((w.alloc (.cells A1.toArray t1)).alloc (.cells A2.toArray t2)).alloc (.cells A3.toArray t3)) n t1 A1 ∧ Blk (((w.alloc (.cells A1.toArray t1)).alloc (.cells A2.toArray t2)).alloc (.cells A3.toArray t3)) (n + 1) t2 A2 ∧
    Blk (((w.alloc (.cells A1.toArray t1)).alloc (.cells A2.toArray t2)).alloc (.cells A3.toArray t3)) (n + 2) t3 A3 ∧ (((w.alloc (.cells A1.toArray t1)).alloc (.cells A2.toArray t2)).alloc (.cells A3.toArray t3)).heap.size = n + 3 ∧
    Low w.heap.size w (((w.alloc (.cells A1.toArray t1)).alloc (.cells A2.toArray t2)).alloc (.cells A3.toArray t3)) := by
  subst hn
  refine ⟨((Blk.new w t1 A1).alloc _).alloc _, ?_, ?_, by simp, (((Low.refl _ w).alloc (Nat.le_refl _) _).alloc (by simp) _).alloc (by simp; omega) _⟩
  · have q := (Blk.new (w.alloc (.cells A1.toArray t1)) t2 A2).alloc (.cells A3.toArray t3)
    rw [World.size_alloc] at q
    exact q
  · have q := Blk.new ((w.alloc (.cells A1.toArray t1)).alloc (.cells A2.toArray t2)) t3 A3
    rw [World.size_alloc, World.size_alloc] at q
    exact q
theorem new_A (w : World) (C : Obj) (m : Nat) (room : Int) (key : ByteArray) (hm : m ≤ 4) :
    XIn ((((w.alloc C).alloc (.cells (PKey.first key).cells.toArray 56)).alloc (.cells (srvZeros m).toArray 96)).alloc (.cells ([.int .i64 0, .int .i64 0, .int .i64 1, .int .i64 1, .int .i64 0, .int .i64 room, .int .i64 0, .slice (some ⟨w.heap.size + 1, 0, none⟩) 1 1, .slice (some ⟨w.heap.size + 2, 0, none⟩) m m, .slice none 0 0] : List Value).toArray 60)) (fun k => w.heap.size ≤ k ∧ k < w.heap.size + 4) (w.heap.size + 3) (PS.new m room key) ∧ Low w.heap.size w ((((w.alloc C).alloc (.cells (PKey.first key).cells.toArray 56)).alloc (.cells (srvZeros m).toArray 96)).alloc (.cells ([.int .i64 0, .int .i64 0, .int .i64 1, .int .i64 1, .int .i64 0, .int .i64 room, .int .i64 0, .slice (some ⟨w.heap.size + 1, 0, none⟩) 1 1, .slice (some ⟨w.heap.size + 2, 0, none⟩) m m, .slice none 0 0] : List Value).toArray 60)) := by
  obtain ⟨q1, q2, q3, q4, q5⟩ := three_blocks (w.alloc C) (w.heap.size + 1) (by simp) (PKey.first key).cells (srvZeros m) [.int .i64 0, .int .i64 0, .int .i64 1, .int .i64 1, .int .i64 0, .int .i64 room, .int .i64 0, .slice (some ⟨w.heap.size + 1, 0, none⟩) 1 1, .slice (some ⟨w.heap.size + 2, 0, none⟩) m m, .slice none 0 0] 56 96 60
  refine ⟨xin_new (kb := w.heap.size + 1) (sb := w.heap.size + 1 + 1) (n := w.heap.size + 1 + 2) q3 q1 q2 (by omega) (by omega) (by omega) hm _ ⟨by omega, by omega⟩ ⟨by omega, by omega⟩ ⟨by omega, by omega⟩ (fun k hk => by rw [q4]; omega), ?_⟩
  exact ((Low.refl _ w).alloc (Nat.le_refl _) C).trans (q5.mono (by simp))
theorem new_B (w : World) (C : Obj) (m : Nat) (room : Int) (key : ByteArray) (hm : m ≤ 4) :
    XIn ((((w.alloc C).alloc (.cells (srvZeros m).toArray 96)).alloc (.cells (PKey.first key).cells.toArray 56)).alloc (.cells ([.int .i64 0, .int .i64 0, .int .i64 1, .int .i64 1, .int .i64 0, .int .i64 room, .int .i64 0, .slice (some ⟨w.heap.size + 2, 0, none⟩) 1 1, .slice (some ⟨w.heap.size + 1, 0, none⟩) m m, .slice none 0 0] : List Value).toArray 60)) (fun k => w.heap.size ≤ k ∧ k < w.heap.size + 4) (w.heap.size + 3) (PS.new m room key) ∧ Low w.heap.size w ((((w.alloc C).alloc (.cells (srvZeros m).toArray 96)).alloc (.cells (PKey.first key).cells.toArray 56)).alloc (.cells ([.int .i64 0, .int .i64 0, .int .i64 1, .int .i64 1, .int .i64 0, .int .i64 room, .int .i64 0, .slice (some ⟨w.heap.size + 2, 0, none⟩) 1 1, .slice (some ⟨w.heap.size + 1, 0, none⟩) m m, .slice none 0 0] : List Value).toArray 60)) := by
  obtain ⟨q1, q2, q3, q4, q5⟩ := three_blocks (w.alloc C) (w.heap.size + 1) (by simp) (srvZeros m) (PKey.first key).cells [.int .i64 0, .int .i64 0, .int .i64 1, .int .i64 1, .int .i64 0, .int .i64 room, .int .i64 0, .slice (some ⟨w.heap.size + 2, 0, none⟩) 1 1, .slice (some ⟨w.heap.size + 1, 0, none⟩) m m, .slice none 0 0] 96 56 60
  refine ⟨xin_new (kb := w.heap.size + 1 + 1) (sb := w.heap.size + 1) (n := w.heap.size + 1 + 2) q3 q2 q1 (by omega) (by omega) (by omega) hm _ ⟨by omega, by omega⟩ ⟨by omega, by omega⟩ ⟨by omega, by omega⟩ (fun k hk => by rw [q4]; omega), ?_⟩
  exact ((Low.refl _ w).alloc (Nat.le_refl _) C).trans (q5.mono (by simp))
set_option maxRecDepth 100000 in
set_option maxHeartbeats 1000000 in
theorem pNew_yes (w : World) (m : Nat) (room : Int) (key : ByteArray) (h : cfgOk (m : Int) room key = true) :
    Calls Tryz.prog 13 #[.agg #[.int .i64 (m : Int), .int .i64 room, .string key]] w fun e w' => e = .returned (.tuple #[.pointer (some ⟨w.heap.size + 3, 0, none⟩), .int .i64 0]) ∧ XIn w' (fun k => w.heap.size ≤ k ∧ k < w'.heap.size) (w.heap.size + 3) (PS.new m room key) ∧ Low w.heap.size w w' := by
  simp only [cfgOk, Bool.and_eq_true, decide_eq_true_eq, beq_iff_eq] at h
  obtain ⟨⟨s1, s2, r1, r2⟩, hk⟩ := h
  have HK : Hid ((key.size == 48) = true) := beq_iff_eq.2 hk
  have hmk := make_srv m (by omega) (by omega)
  have hm4 : Hid (m ≤ 4) := by show _ ≤ _; omega
  clear hk
  go_enter Tryz.func13, Tryz.ntmps13
  go_upto_region 3 with (go_at_call 21; refine (isKey_any _ _).mono ?_; rw [HK.out]; rintro e y1 ⟨rfl, hy⟩; obtain rfl := hy.symm)
  go_region
  all_goals go_wp2_with fail
  all_goals go_ret2
  all_goals
    first
      | exact ⟨rfl, (new_A w _ m room key hm4.out).1.drew.more (fun k hk => ⟨hk.1, by simpa using hk.2⟩) (fun k hk => hk.2), (new_A w _ m room key hm4.out).2.drew⟩
      | exact ⟨rfl, (new_B w _ m room key hm4.out).1.drew.more (fun k hk => ⟨hk.1, by simpa using hk.2⟩) (fun k hk => hk.2), (new_B w _ m room key hm4.out).2.drew⟩
set_option maxRecDepth 100000 in
set_option maxHeartbeats 1000000 in
theorem pNew_no (w : World) (servers room : Int) (key : ByteArray) (h : cfgOk servers room key = false) :
    Calls Tryz.prog 13 #[.agg #[.int .i64 servers, .int .i64 room, .string key]] w fun e w' => e = .returned (.tuple #[.pointer none, .int .i64 1]) ∧ Low w.heap.size w w' := by
  have HH := hid h
  clear h
  cases hz : (key.size == 48)
  · have HZ := hid hz
    go_enter Tryz.func13, Tryz.ntmps13
    go_upto_region 3 with (go_at_call 21; refine (isKey_any _ _).mono ?_; rw [HZ.out]; rintro e y1 ⟨rfl, hy⟩; obtain rfl := hy.symm)
    all_goals go_ret2
    all_goals exact ⟨rfl, (Low.refl _ w).alloc (Nat.le_refl _) _⟩
  · have hq : ¬ (1 ≤ servers ∧ servers ≤ 4 ∧ 1 ≤ room ∧ room ≤ 60) := by
      intro hh
      have q := HH.out
      simp [cfgOk, hz, hh] at q
    have HQ := hid hq
    have HZ := hid hz
    clear hq
    go_enter Tryz.func13, Tryz.ntmps13
    go_upto_region 3 with (go_at_call 21; refine (isKey_any _ _).mono ?_; rw [HZ.out]; rintro e y1 ⟨rfl, hy⟩; obtain rfl := hy.symm)
    all_goals first | (go_ret2; exact ⟨rfl, (Low.refl _ w).alloc (Nat.le_refl _) _⟩) | (exfalso; have q := HQ.out; omega)
end Go.Proofs.YtnjkpghchgjbaaaGreatDoor
namespace Go.Proofs.YtnjkpghchgjbaaaGreatDoor
open Go.RowKit

variable {F : Nat → Prop} {b : Nat} {Y : RS}

/-! The document's Get and GetAt are its get. -/
set_option maxRecDepth 100000 in
theorem rGet_via (w : World) (s : Int) (p : ByteArray) (h : RIn w F b Y) (A : ByteArray) (B C : Int)
    (hr : Calls Tryz.prog 74 #[.pointer (some ⟨b, 0, none⟩), .int .i64 s, .string p, .int .i64 (Y.all.length : Int), .bool false] w fun e w' => e = .returned (.tuple #[.string A, .int .i64 B, .int .i64 C]) ∧ Low w.heap.size w w') :
    Calls Tryz.prog 31 #[.pointer (some ⟨b, 0, none⟩), .int .i64 s, .string p] w fun e w' => e = .returned (.tuple #[.string A, .int .i64 B, .int .i64 C]) ∧ Low w.heap.size w w' := by
  obtain ⟨a, cap, hc, _⟩ := h.all
  rw [List.length_map] at hc
  have HRD := hid hr
  clear h hr
  go_enter Tryz.func31, Tryz.ntmps31
  go_wp2_with (go_at_call 74; refine HRD.out.mono ?_; rintro e y2 ⟨rfl, l2⟩; have L2 := hid l2; clear l2)
  go_ret3
  exact ⟨rfl, L2.out⟩
set_option maxRecDepth 100000 in
theorem rGetAt_via (w : World) (s : Int) (p : ByteArray) (rev : Int) (A : ByteArray) (B C : Int)
    (hr : Calls Tryz.prog 74 #[.pointer (some ⟨b, 0, none⟩), .int .i64 s, .string p, .int .i64 rev, .bool true] w fun e w' => e = .returned (.tuple #[.string A, .int .i64 B, .int .i64 C]) ∧ Low w.heap.size w w') :
    Calls Tryz.prog 33 #[.pointer (some ⟨b, 0, none⟩), .int .i64 s, .string p, .int .i64 rev] w fun e w' => e = .returned (.tuple #[.string A, .int .i64 B, .int .i64 C]) ∧ Low w.heap.size w w' := by
  have HRD := hid hr
  clear hr
  go_enter Tryz.func33, Tryz.ntmps33
  go_wp2_with (go_at_call 74; refine HRD.out.mono ?_; rintro e y2 ⟨rfl, l2⟩; have L2 := hid l2; clear l2)
  go_ret3
  exact ⟨rfl, L2.out⟩

/-! made. -/
set_option maxRecDepth 100000 in
set_option maxHeartbeats 1000000 in
theorem made_no (w : World) (servers room : Int) (key : ByteArray) (h : cfgOk servers room key = false) :
    Calls Tryz.prog 8 #[.agg #[.int .i64 servers, .int .i64 room, .string key]] w fun e w' => e = .returned (.tuple #[.pointer none, .bool true]) ∧ Low w.heap.size w w' := by
  have HH := hid h
  clear h
  go_enter Tryz.func8, Tryz.ntmps8
  go_wp2_with (first | (go_at_call 13; refine (pNew_no _ _ _ _ HH.out).mono ?_; rintro e y1 ⟨rfl, l1⟩; have b1 : Blk y1 w.heap.size 23 (cfgL servers room key) := (Blk.new w 23 (cfgL servers room key)).low l1 (by simp); have n0 : y1.cell? ⟨w.heap.size, 0, none⟩ = some (.int .i64 servers) := b1.cell 0; have n1 : y1.cell? ⟨w.heap.size, 1, none⟩ = some (.int .i64 room) := b1.cell 1; have n2 : y1.cell? ⟨w.heap.size, 2, none⟩ = some (.string key) := b1.cell 2; have L1 : Hid (Low w.heap.size w y1) := ((Low.refl _ w).alloc (Nat.le_refl _) _).trans (l1.mono (by simp)); clear l1 b1) | (go_at_call 14; refine (New_no _ _ _ _ HH.out).mono ?_; rintro e y2 ⟨rfl, l2⟩; have L2 : Hid (Low w.heap.size w y2) := L1.out.trans (l2.mono L1.out.size); clear l2))
  go_ret2
  exact ⟨rfl, L2.out⟩
set_option maxRecDepth 100000 in
set_option maxHeartbeats 1000000 in
theorem made_yes (w : World) (m : Nat) (room : Int) (key : ByteArray) (h : cfgOk (m : Int) room key = true) :
    Calls Tryz.prog 8 #[.agg #[.int .i64 (m : Int), .int .i64 room, .string key]] w fun e w' => ∃ bw bx br Fx Fr Fw, e = .returned (.tuple #[.pointer (some ⟨bw, 0, none⟩), .bool true]) ∧ Low w.heap.size w w' ∧
      XIn w' Fx bx (PS.new m room key) ∧ RIn w' Fr br (RS.new m room key) ∧ WIn w' Fw bw bx br [] ∧ (∀ k, Fx k → w.heap.size ≤ k ∧ ¬ Fr k ∧ ¬ Fw k) ∧ (∀ k, Fr k → w.heap.size ≤ k ∧ ¬ Fw k) ∧ (∀ k, Fw k → w.heap.size ≤ k) := by
  have HH := hid h
  clear h
  go_enter Tryz.func8, Tryz.ntmps8
  go_wp2_with (first | (go_at_call 13; refine (pNew_yes _ _ _ _ HH.out).mono ?_; rintro e y1 ⟨rfl, x1, l1⟩; have b1 : Blk y1 w.heap.size 23 (cfgL m room key) := (Blk.new w 23 (cfgL m room key)).low l1 (by simp); have n0 : y1.cell? ⟨w.heap.size, 0, none⟩ = some (.int .i64 (m : Int)) := b1.cell 0; have n1 : y1.cell? ⟨w.heap.size, 1, none⟩ = some (.int .i64 room) := b1.cell 1; have n2 : y1.cell? ⟨w.heap.size, 2, none⟩ = some (.string key) := b1.cell 2; have L1 : Hid (Low w.heap.size w y1) := ((Low.refl _ w).alloc (Nat.le_refl _) _).trans (l1.mono (by simp)); rw [World.size_alloc] at x1; have X1 := hid x1; clear l1 b1 x1) | (go_at_call 14; refine (New_yes _ _ _ _ HH.out).mono ?_; rintro e y2 ⟨rfl, r2, l2⟩; have R2 := hid r2; have LL := hid l2; have L2 : Hid (Low w.heap.size w y2) := L1.out.trans (l2.mono L1.out.size); clear l2 r2))
  go_ret2
  refine ⟨_, _, _, _, _, fun k => k = y2.heap.size, rfl, L2.out.alloc L2.out.size _, (X1.out.low LL.out).alloc _, R2.out.alloc _, ⟨.slice none 0 0, ?_⟩, fun k hk => ?_, fun k hk => ?_, fun k hk => ?_⟩
  · refine ⟨Blk.new y2 45 _, rfl, fun k hk => by simp [hk], fun _ => 0, rfl, fun j r hj => ?_⟩
    have hj0 : j = 0 := by
      have : j < 1 := (List.getElem?_eq_some_iff.1 hj).1
      omega
    subst hj0
    obtain rfl := (Option.some.inj hj).symm
    exact ⟨.slice none 0 0, rfl, World.ownsRow_nil _ _ _ _, fun k hk => by cases hk⟩
  · have h1 := LL.out.size
    have h2 := L1.out.size
    refine ⟨by omega, fun hr => ?_, fun hw => ?_⟩
    · omega
    · omega
  · have h1 := LL.out.size
    have h2 := L1.out.size
    refine ⟨by omega, fun hw => ?_⟩
    omega
  · have := L2.out.size
    omega
end Go.Proofs.YtnjkpghchgjbaaaGreatDoor
