import Derived.Test.YtphapknfkbgapabDoorRefBToPH
import Derived.Test.YtphapknfkbgapabDoorPGToPW
import Derived.Deep.RegionHeld3
import Derived.Test.YtphapknfkbgapabDoorPMToPF
namespace Go.Proofs.YtphapknfkbgapabDoor
open Go.RowKit

variable {F : Nat → Prop} {b : Nat} {X : PS}

theorem info96 : (Tryd.prog.info? 86).map (fun i => (i.zero, i.size, i.bytes)) = some (some (.agg #[.int .i64 0, .bool false, .int .i64 0, .int .i64 0, .string ⟨#[]⟩, .int .i64 0, .int .i64 0, .int .i64 0, .string ⟨#[]⟩, .bool false]), 10, 96) := by kernel_rfl
def srvZeros (m : Nat) : List Value := (List.replicate m PSrv.zero).flatMap PSrv.cells
theorem made_srv1 : madeCells (Value.agg #[.int .i64 0, .bool false, .int .i64 0, .int .i64 0, .string ⟨#[]⟩, .int .i64 0, .int .i64 0, .int .i64 0, .string ⟨#[]⟩, .bool false]).cells (1 * 10) = (srvZeros 1).toArray := by kernel_rfl
theorem made_srv2 : madeCells (Value.agg #[.int .i64 0, .bool false, .int .i64 0, .int .i64 0, .string ⟨#[]⟩, .int .i64 0, .int .i64 0, .int .i64 0, .string ⟨#[]⟩, .bool false]).cells (2 * 10) = (srvZeros 2).toArray := by kernel_rfl
theorem made_srv3 : madeCells (Value.agg #[.int .i64 0, .bool false, .int .i64 0, .int .i64 0, .string ⟨#[]⟩, .int .i64 0, .int .i64 0, .int .i64 0, .string ⟨#[]⟩, .bool false]).cells (3 * 10) = (srvZeros 3).toArray := by kernel_rfl
theorem made_srv4 : madeCells (Value.agg #[.int .i64 0, .bool false, .int .i64 0, .int .i64 0, .string ⟨#[]⟩, .int .i64 0, .int .i64 0, .int .i64 0, .string ⟨#[]⟩, .bool false]).cells (4 * 10) = (srvZeros 4).toArray := by kernel_rfl
theorem make_srv (m : Nat) (h1 : 1 ≤ m) (h4 : m ≤ 4) (w : World) : (Instr.makeSlice 70 (.int .i64 (m : Int)) (.int .i64 (m : Int))).run Tryd.prog w = .ok (.slice (some ⟨w.heap.size, 0, none⟩) m m) (w.alloc (.cells (srvZeros m).toArray 86)) := by
  obtain ⟨i, hi, hz0, hz1, hz2⟩ := info_parts info96
  have hr := run_make (P := Tryd.prog) w 70 86 i _ Tryd.underlying70 hi hz0 .i64 .i64 m m (by omega) (Int.le_refl _) (by rw [hz2]; omega) (by omega)
  simp only [Int.toNat_natCast, hz1] at hr
  rw [hr]
  have : m = 1 ∨ m = 2 ∨ m = 3 ∨ m = 4 := by omega
  rcases this with rfl | rfl | rfl | rfl
  · rw [made_srv1]
  · rw [made_srv2]
  · rw [made_srv3]
  · rw [made_srv4]
def PKey.first (key : ByteArray) : PKey := ⟨key, 1, 1⟩
def PS.new (m : Nat) (room : Int) (key : ByteArray) : PS := ⟨0, 0, 1, 1, 0, room, 0, [PKey.first key], List.replicate m PSrv.zero, [], fun _ => ⟨-1, []⟩⟩
abbrev newL (room : Int) (m : Nat) (kb sb : Nat) : List Value := [.int .i64 0, .int .i64 0, .int .i64 1, .int .i64 1, .int .i64 0, .int .i64 room, .int .i64 0, .slice (some ⟨kb, 0, none⟩) 1 1, .slice (some ⟨sb, 0, none⟩) m m, .slice none 0 0, .int .i64 (-1), .slice none 0 0, .int .i64 (-1), .slice none 0 0, .int .i64 (-1), .slice none 0 0, .int .i64 (-1), .slice none 0 0, .int .i64 (-1), .slice none 0 0, .int .i64 (-1), .slice none 0 0, .int .i64 (-1), .slice none 0 0, .int .i64 (-1), .slice none 0 0]
theorem xin_new {w : World} {kb sb n : Nat} {m : Nat} {room : Int} {key : ByteArray} (hb : Blk w n 75 (newL room m kb sb))
    (hk : Blk w kb 81 (PKey.first key).cells) (hs : Blk w sb 86 (srvZeros m)) (h1 : kb ≠ n) (h2 : sb ≠ n) (h3 : kb ≠ sb) (hm : m ≤ 4) (F : Nat → Prop) (f1 : F n) (f2 : F kb) (f3 : F sb) (hF : ∀ k, F k → k < w.heap.size) : XIn w F n (PS.new m room key) := by
  have hml : (m : Nat) ≤ maxLen := by unfold maxLen; omega
  have hlen : (srvZeros m).length = m * 10 := by
    unfold srvZeros
    rw [flat_length 10 PSrv.cells PSrv.len, List.length_replicate]
  refine ⟨.slice (some ⟨kb, 0, none⟩) 1 1, .slice (some ⟨sb, 0, none⟩) m m, .slice none 0 0, fun _ => .slice none 0 0, fun _ => by simp [Value.ownBlock], hb, f1, hF, fun k => if k = n then 0 else if k = kb then 1 else 2, by simp, fun j r hj => ?_⟩
  have hj3 : j = 0 ∨ j = 1 ∨ j = 2 ∨ j = 3 ∨ j = 4 ∨ j = 5 ∨ j = 6 ∨ j = 7 ∨ j = 8 ∨ j = 9 ∨ j = 10 ∨ 11 ≤ j := by omega
  rcases hj3 with rfl | rfl | rfl | rfl | rfl | rfl | rfl | rfl | rfl | rfl | rfl | h5
  · obtain rfl := (Option.some.inj hj).symm
    refine ⟨_, rfl, ⟨rfl, Or.inr ⟨kb, 1, _, rfl, Nat.zero_le _, hk, Nat.le_refl _, by decide, rfl, rfl⟩⟩, fun k hk2 => ?_⟩
    obtain rfl : kb = k := Option.some.inj hk2
    exact ⟨f2, by simp [h1]⟩
  · obtain rfl := (Option.some.inj hj).symm
    refine ⟨_, rfl, ⟨by rw [show (PS.new m room key).servers = List.replicate m PSrv.zero from rfl, List.length_replicate]; exact hlen, Or.inr ⟨sb, m, _, by rw [show (PS.new m room key).servers = List.replicate m PSrv.zero from rfl, List.length_replicate], Nat.zero_le _, hs, by rw [show (PS.new m room key).servers = List.replicate m PSrv.zero from rfl, List.length_replicate]; exact Nat.le_refl _, hml, by simpa using hlen, ?_⟩⟩, fun k hk2 => ?_⟩
    · rw [show (PS.new m room key).servers = List.replicate m PSrv.zero from rfl, List.length_replicate, List.toList_toArray]
      exact List.take_of_length_le (by rw [hlen]; exact Nat.le_refl _)
    · obtain rfl : sb = k := Option.some.inj hk2
      refine ⟨f3, ?_⟩
      show (if sb = n then 0 else if sb = kb then 1 else 2) = 2
      rw [if_neg h2, if_neg (fun e => h3 e.symm)]
  · obtain rfl := (Option.some.inj hj).symm
    exact ⟨.slice none 0 0, rfl, World.ownsRow_nil _ _ _ _, fun k hk2 => by cases hk2⟩
  · obtain rfl := (Option.some.inj hj).symm
    exact ⟨.slice none 0 0, rfl, World.ownsRow_nil _ _ _ _, fun k hk2 => by cases hk2⟩
  · obtain rfl := (Option.some.inj hj).symm
    exact ⟨.slice none 0 0, rfl, World.ownsRow_nil _ _ _ _, fun k hk2 => by cases hk2⟩
  · obtain rfl := (Option.some.inj hj).symm
    exact ⟨.slice none 0 0, rfl, World.ownsRow_nil _ _ _ _, fun k hk2 => by cases hk2⟩
  · obtain rfl := (Option.some.inj hj).symm
    exact ⟨.slice none 0 0, rfl, World.ownsRow_nil _ _ _ _, fun k hk2 => by cases hk2⟩
  · obtain rfl := (Option.some.inj hj).symm
    exact ⟨.slice none 0 0, rfl, World.ownsRow_nil _ _ _ _, fun k hk2 => by cases hk2⟩
  · obtain rfl := (Option.some.inj hj).symm
    exact ⟨.slice none 0 0, rfl, World.ownsRow_nil _ _ _ _, fun k hk2 => by cases hk2⟩
  · obtain rfl := (Option.some.inj hj).symm
    exact ⟨.slice none 0 0, rfl, World.ownsRow_nil _ _ _ _, fun k hk2 => by cases hk2⟩
  · obtain rfl := (Option.some.inj hj).symm
    exact ⟨.slice none 0 0, rfl, World.ownsRow_nil _ _ _ _, fun k hk2 => by cases hk2⟩
  · rw [List.getElem?_eq_none (by simpa [PS.rows] using h5)] at hj
    cases hj
/-- Blocks laid one behind another: a new coffer. -/
theorem xin_made {w W : World} {N kb sb n : Nat} {m : Nat} {room : Int} {key : ByteArray} (hL : Low N w W) (hb : Blk W n 75 (newL room m kb sb)) (hk : Blk W kb 81 (PKey.first key).cells) (hs : Blk W sb 86 (srvZeros m)) (h1 : kb ≠ n) (h2 : sb ≠ n) (h3 : kb ≠ sb) (hm : m ≤ 4) (g1 : N ≤ n) (g2 : N ≤ kb) (g3 : N ≤ sb) :
    XIn W (fun k => N ≤ k ∧ k < W.heap.size) n (PS.new m room key) ∧ Low N w W :=
  ⟨xin_new hb hk hs h1 h2 h3 hm _ ⟨g1, hb.lt⟩ ⟨g2, hk.lt⟩ ⟨g3, hs.lt⟩ (fun _ h => h.2), hL⟩
theorem blk2 (w : World) (C : Obj) (t : TypeId) (cs : List Value) : Blk ((w.alloc C).alloc (.cells cs.toArray t)) (w.heap.size + 1) t cs := by
  have q := Blk.new (w.alloc C) t cs
  rw [World.size_alloc] at q
  exact q
theorem blk3 (w : World) (C D : Obj) (t : TypeId) (cs : List Value) : Blk (((w.alloc C).alloc D).alloc (.cells cs.toArray t)) (w.heap.size + 1 + 1) t cs := by
  have q := Blk.new ((w.alloc C).alloc D) t cs
  rw [World.size_alloc, World.size_alloc] at q
  exact q
theorem low_al (w : World) (C : Obj) : Low w.heap.size w (w.alloc C) := (Low.refl _ w).alloc (Nat.le_refl _) _
theorem low_more {w a c : World} (h : Low w.heap.size w a) (k : Low a.drew.heap.size a.drew c) : Low w.heap.size w c := h.drew.trans (k.mono h.size)
section
variable (w y : World) (C : Obj) (m : Nat) (room : Int) (key : ByteArray) (hm : m ≤ 4)
abbrev objK (key : ByteArray) : Obj := .cells #[.string key, .int .i64 1, .int .i64 1] 81
abbrev objS (m : Nat) : Obj := .cells (srvZeros m).toArray 86
abbrev objN (room : Int) (m kb sb : Nat) : Obj := .cells (newL room m kb sb).toArray 75
include hm
theorem new_1 (l : Low (((w.alloc C).alloc (objK key)).alloc (objS m)).drew.heap.size (((w.alloc C).alloc (objK key)).alloc (objS m)).drew y) :
    XIn (y.alloc (objN room m (w.heap.size + 1) (w.heap.size + 1 + 1))) (fun k => w.heap.size ≤ k ∧ k < (y.alloc (objN room m (w.heap.size + 1) (w.heap.size + 1 + 1))).heap.size) y.heap.size (PS.new m room key) ∧ Low w.heap.size w (y.alloc (objN room m (w.heap.size + 1) (w.heap.size + 1 + 1))) := by
  have l0 : Low w.heap.size w (((w.alloc C).alloc (objK key)).alloc (objS m)) := ((low_al w C).alloc (by simp) _).alloc (by simp; omega) _
  have hs := l.size
  have l2 := low_more l0 l
  simp at hs
  exact xin_made (l2.alloc l2.size _) (Blk.new y 75 (newL room m _ _)) ((Blk.low (w := (((w.alloc C).alloc (objK key)).alloc (objS m)).drew) ((blk2 w C 81 (PKey.first key).cells).alloc _) l (by simp)).alloc _) ((Blk.low (w := (((w.alloc C).alloc (objK key)).alloc (objS m)).drew) (blk3 w C (objK key) 86 (srvZeros m)) l (by simp)).alloc _) (by omega) (by omega) (by omega) hm (by omega) (by omega) (by omega)
theorem new_2 (l : Low (((w.alloc C).alloc (objS m)).alloc (objK key)).drew.heap.size (((w.alloc C).alloc (objS m)).alloc (objK key)).drew y) :
    XIn (y.alloc (objN room m (w.heap.size + 1 + 1) (w.heap.size + 1))) (fun k => w.heap.size ≤ k ∧ k < (y.alloc (objN room m (w.heap.size + 1 + 1) (w.heap.size + 1))).heap.size) y.heap.size (PS.new m room key) ∧ Low w.heap.size w (y.alloc (objN room m (w.heap.size + 1 + 1) (w.heap.size + 1))) := by
  have l0 : Low w.heap.size w (((w.alloc C).alloc (objS m)).alloc (objK key)) := ((low_al w C).alloc (by simp) _).alloc (by simp; omega) _
  have hs := l.size
  have l2 := low_more l0 l
  simp at hs
  exact xin_made (l2.alloc l2.size _) (Blk.new y 75 (newL room m _ _)) ((Blk.low (w := (((w.alloc C).alloc (objS m)).alloc (objK key)).drew) (blk3 w C (objS m) 81 (PKey.first key).cells) l (by simp)).alloc _) ((Blk.low (w := (((w.alloc C).alloc (objS m)).alloc (objK key)).drew) ((blk2 w C 86 (srvZeros m)).alloc _) l (by simp)).alloc _) (by omega) (by omega) (by omega) hm (by omega) (by omega) (by omega)
theorem new_3 (l : Low ((w.alloc C).alloc (objK key)).drew.heap.size ((w.alloc C).alloc (objK key)).drew y) :
    XIn ((y.alloc (objS m)).alloc (objN room m (w.heap.size + 1) y.heap.size)) (fun k => w.heap.size ≤ k ∧ k < ((y.alloc (objS m)).alloc (objN room m (w.heap.size + 1) y.heap.size)).heap.size) (y.heap.size + 1) (PS.new m room key) ∧ Low w.heap.size w ((y.alloc (objS m)).alloc (objN room m (w.heap.size + 1) y.heap.size)) := by
  have l0 : Low w.heap.size w ((w.alloc C).alloc (objK key)) := (low_al w C).alloc (by simp) _
  have hs := l.size
  have l2 := low_more l0 l
  simp at hs
  exact xin_made ((l2.alloc l2.size _).alloc (by simp; omega) _) (blk2 y (objS m) 75 (newL room m _ _)) (((Blk.low (w := ((w.alloc C).alloc (objK key)).drew) (blk2 w C 81 (PKey.first key).cells) l (by simp)).alloc _).alloc _) ((Blk.new y 86 (srvZeros m)).alloc _) (by omega) (by omega) (by omega) hm (by omega) (by omega) (by omega)
theorem new_4 (l : Low ((w.alloc C).alloc (objS m)).drew.heap.size ((w.alloc C).alloc (objS m)).drew y) :
    XIn ((y.alloc (objK key)).alloc (objN room m y.heap.size (w.heap.size + 1))) (fun k => w.heap.size ≤ k ∧ k < ((y.alloc (objK key)).alloc (objN room m y.heap.size (w.heap.size + 1))).heap.size) (y.heap.size + 1) (PS.new m room key) ∧ Low w.heap.size w ((y.alloc (objK key)).alloc (objN room m y.heap.size (w.heap.size + 1))) := by
  have l0 : Low w.heap.size w ((w.alloc C).alloc (objS m)) := (low_al w C).alloc (by simp) _
  have hs := l.size
  have l2 := low_more l0 l
  simp at hs
  exact xin_made ((l2.alloc l2.size _).alloc (by simp; omega) _) (blk2 y (objK key) 75 (newL room m _ _)) ((Blk.new y 81 (PKey.first key).cells).alloc _) (((Blk.low (w := ((w.alloc C).alloc (objS m)).drew) (blk2 w C 86 (srvZeros m)) l (by simp)).alloc _).alloc _) (by omega) (by omega) (by omega) hm (by omega) (by omega) (by omega)
theorem new_5 (l : Low (w.alloc C).drew.heap.size (w.alloc C).drew y) :
    XIn (((y.alloc (objK key)).alloc (objS m)).alloc (objN room m y.heap.size (y.heap.size + 1))) (fun k => w.heap.size ≤ k ∧ k < (((y.alloc (objK key)).alloc (objS m)).alloc (objN room m y.heap.size (y.heap.size + 1))).heap.size) (y.heap.size + 1 + 1) (PS.new m room key) ∧ Low w.heap.size w (((y.alloc (objK key)).alloc (objS m)).alloc (objN room m y.heap.size (y.heap.size + 1))) := by
  have hs := l.size
  have l2 := low_more (low_al w C) l
  simp at hs
  exact xin_made (((l2.alloc l2.size _).alloc (by simp; omega) _).alloc (by simp; omega) _) (blk3 y (objK key) (objS m) 75 (newL room m _ _)) (((Blk.new y 81 (PKey.first key).cells).alloc _).alloc _) ((blk2 y (objK key) 86 (srvZeros m)).alloc _) (by omega) (by omega) (by omega) hm (by omega) (by omega) (by omega)
theorem new_6 (l : Low (w.alloc C).drew.heap.size (w.alloc C).drew y) :
    XIn (((y.alloc (objS m)).alloc (objK key)).alloc (objN room m (y.heap.size + 1) y.heap.size)) (fun k => w.heap.size ≤ k ∧ k < (((y.alloc (objS m)).alloc (objK key)).alloc (objN room m (y.heap.size + 1) y.heap.size)).heap.size) (y.heap.size + 1 + 1) (PS.new m room key) ∧ Low w.heap.size w (((y.alloc (objS m)).alloc (objK key)).alloc (objN room m (y.heap.size + 1) y.heap.size)) := by
  have hs := l.size
  have l2 := low_more (low_al w C) l
  simp at hs
  exact xin_made (((l2.alloc l2.size _).alloc (by simp; omega) _).alloc (by simp; omega) _) (blk3 y (objS m) (objK key) 75 (newL room m _ _)) ((blk2 y (objS m) 81 (PKey.first key).cells).alloc _) (((Blk.new y 86 (srvZeros m)).alloc _).alloc _) (by omega) (by omega) (by omega) hm (by omega) (by omega) (by omega)
end
theorem unplaced_lit (w : World) : Calls Tryd.prog 32 #[] w fun e w' => e = .returned (.agg #[.int .i64 (-1), .slice none 0 0, .int .i64 (-1), .slice none 0 0, .int .i64 (-1), .slice none 0 0, .int .i64 (-1), .slice none 0 0, .int .i64 (-1), .slice none 0 0, .int .i64 (-1), .slice none 0 0, .int .i64 (-1), .slice none 0 0, .int .i64 (-1), .slice none 0 0]) ∧ Low w.heap.size w w' ∧ w'.heap.size = w.heap.size + 2 := by
  have e : (podL 8).toArray = #[.int .i64 (-1), .slice none 0 0, .int .i64 (-1), .slice none 0 0, .int .i64 (-1), .slice none 0 0, .int .i64 (-1), .slice none 0 0, .int .i64 (-1), .slice none 0 0, .int .i64 (-1), .slice none 0 0, .int .i64 (-1), .slice none 0 0, .int .i64 (-1), .slice none 0 0] := by kernel_rfl
  have q := unplaced_any w
  rw [e] at q
  exact q
theorem cfg_at {w W y : World} {cs : List Value} (h : Low (w.heap.size + 1) (w.alloc (.cells cs.toArray 23)) W) (l : Low W.heap.size W.drew y) (i : Nat) : y.cell? ⟨w.heap.size, i, none⟩ = cs[i]? := by
  have hs := h.size
  rw [World.size_alloc] at hs
  have b1 : Blk W w.heap.size 23 cs := (Blk.new w 23 cs).low h (by omega)
  exact (Blk.low (w := W.drew) b1 l (by omega)).cell i
set_option maxRecDepth 100000 in
set_option maxHeartbeats 1000000 in
theorem pNew_yes (w : World) (m : Nat) (room : Int) (key : ByteArray) (h : cfgOk (m : Int) room key = true) :
    Calls Tryd.prog 13 #[.agg #[.int .i64 (m : Int), .int .i64 room, .string key]] w fun e w' => ∃ bx, e = .returned (.tuple #[.pointer (some ⟨bx, 0, none⟩), .int .i64 0]) ∧ XIn w' (fun k => w.heap.size ≤ k ∧ k < w'.heap.size) bx (PS.new m room key) ∧ Low w.heap.size w w' := by
  simp only [cfgOk, Bool.and_eq_true, decide_eq_true_eq, beq_iff_eq] at h
  obtain ⟨⟨s1, s2, r1, r2⟩, hk⟩ := h
  have HK : Hid ((key.size == 48) = true) := beq_iff_eq.2 hk
  have hmk := make_srv m (by omega) (by omega)
  have hm4 : Hid (m ≤ 4) := by show _ ≤ _; omega
  clear hk
  go_enter Tryd.func13, Tryd.ntmps13
  go_upto_region 3 with (go_at_call 31; refine (isKey_any _ _).mono ?_; rw [HK.out]; rintro e y1 ⟨rfl, hy⟩; obtain rfl := hy.symm)
  go_region_held3 (fun W' => W'.cell? ⟨w.heap.size, 0, none⟩ = some (.int .i64 (m : Int)) ∧ W'.cell? ⟨w.heap.size, 1, none⟩ = some (.int .i64 room) ∧ W'.cell? ⟨w.heap.size, 2, none⟩ = some (.string key)) (first | assumption | go_keep)
    (first | (go_at_call 32; refine (unplaced_lit _).mono ?_; rintro e y1 ⟨rfl, l1, s1⟩; have LY : Hid (∀ i : Nat, y1.cell? ⟨w.heap.size, i, none⟩ = (cfgL m room key)[i]?) := (by first | exact cfg_at (Low.refl _ _) l1 | exact cfg_at ((Low.refl _ _).alloc (by simp) _) l1 | exact cfg_at (((Low.refl _ _).alloc (by simp) _).alloc (by simp) _) l1); have S1 : y1.cell? ⟨w.heap.size, 0, none⟩ = some (.int .i64 (m : Int)) ∧ y1.cell? ⟨w.heap.size, 1, none⟩ = some (.int .i64 room) ∧ y1.cell? ⟨w.heap.size, 2, none⟩ = some (.string key) := ⟨LY.out 0, LY.out 1, LY.out 2⟩; have lY : w.heap.size < y1.heap.size := (by simp at s1; omega); have nY : w.heap.size ≠ y1.heap.size := (by omega); have L1 := hid l1; clear l1 s1))
  all_goals go_wp2_with fail
  all_goals go_ret2
  all_goals
    first
      | ((with_reducible have q := new_1 w y1 _ m room key hm4.out L1.out); exact ⟨_, rfl, q.1, q.2⟩)
      | ((with_reducible have q := new_2 w y1 _ m room key hm4.out L1.out); exact ⟨_, rfl, q.1, q.2⟩)
      | ((with_reducible have q := new_3 w y1 _ m room key hm4.out L1.out); exact ⟨_, rfl, q.1, q.2⟩)
      | ((with_reducible have q := new_4 w y1 _ m room key hm4.out L1.out); exact ⟨_, rfl, q.1, q.2⟩)
      | ((with_reducible have q := new_5 w y1 _ m room key hm4.out L1.out); exact ⟨_, rfl, q.1, q.2⟩)
      | ((with_reducible have q := new_6 w y1 _ m room key hm4.out L1.out); exact ⟨_, rfl, q.1, q.2⟩)
set_option maxRecDepth 100000 in
set_option maxHeartbeats 1000000 in
theorem pNew_no (w : World) (servers room : Int) (key : ByteArray) (h : cfgOk servers room key = false) :
    Calls Tryd.prog 13 #[.agg #[.int .i64 servers, .int .i64 room, .string key]] w fun e w' => e = .returned (.tuple #[.pointer none, .int .i64 1]) ∧ Low w.heap.size w w' := by
  have HH := hid h
  clear h
  cases hz : (key.size == 48)
  · have HZ := hid hz
    go_enter Tryd.func13, Tryd.ntmps13
    go_upto_region 3 with (go_at_call 31; refine (isKey_any _ _).mono ?_; rw [HZ.out]; rintro e y1 ⟨rfl, hy⟩; obtain rfl := hy.symm)
    all_goals go_ret2
    all_goals exact ⟨rfl, (Low.refl _ w).alloc (Nat.le_refl _) _⟩
  · have hq : ¬ (1 ≤ servers ∧ servers ≤ 4 ∧ 1 ≤ room ∧ room ≤ 60) := by
      intro hh
      have q := HH.out
      simp [cfgOk, hz, hh] at q
    have HQ := hid hq
    have HZ := hid hz
    clear hq
    go_enter Tryd.func13, Tryd.ntmps13
    go_upto_region 3 with (go_at_call 31; refine (isKey_any _ _).mono ?_; rw [HZ.out]; rintro e y1 ⟨rfl, hy⟩; obtain rfl := hy.symm)
    all_goals first | (go_ret2; exact ⟨rfl, (Low.refl _ w).alloc (Nat.le_refl _) _⟩) | (exfalso; have q := HQ.out; omega)
end Go.Proofs.YtphapknfkbgapabDoor
namespace Go.Proofs.YtphapknfkbgapabDoor
open Go.RowKit

variable {F : Nat → Prop} {b : Nat} {X : PS}

theorem pGet_srv (w : World) (s : Int) (p : ByteArray) (h : XIn w F b X) (hs : isSrv X.servers.length s = false) :
    Calls Tryd.prog 11 #[.pointer (some ⟨b, 0, none⟩), .int .i64 s, .string p] w fun e w' => e = .returned (.tuple #[.string ⟨#[]⟩, .int .i64 0, .int .i64 4]) ∧ w' = w := by
  have HR := hid h
  have HS := hid hs
  clear h hs
  go_enter Tryd.func11, Tryd.ntmps11
  go_wp2_with (go_at_call 26; refine (mayRead_srv _ _ HR.out HS.out).mono ?_; rintro e y1 ⟨rfl, hy⟩; obtain rfl := hy.symm)
  go_ret3
  exact ⟨rfl, rfl⟩
theorem pGet_blind (w : World) (i : Nat) (s : PSrv) (p : ByteArray) (h : XIn w F b X) (ha : X.servers[i]? = some s) (hs : (s.seen == 0) = true) :
    Calls Tryd.prog 11 #[.pointer (some ⟨b, 0, none⟩), .int .i64 (i : Int), .string p] w fun e w' => e = .returned (.tuple #[.string ⟨#[]⟩, .int .i64 0, .int .i64 6]) ∧ w' = w := by
  have HR := hid h
  have HA := hid ha
  have HE : Hid (readErr s = 6) := by show _ = _; unfold readErr; rw [hs]; rfl
  clear h hs ha
  go_enter Tryd.func11, Tryd.ntmps11
  go_wp2_with (go_at_call 26; refine (mayRead_any _ _ _ HR.out HA.out).mono ?_; rw [HE.out]; rintro e y1 ⟨rfl, hy⟩; obtain rfl := hy.symm)
  go_ret3
  exact ⟨rfl, rfl⟩
set_option maxRecDepth 100000 in
theorem pGet_ok (w : World) (i : Nat) (s : PSrv) (p : ByteArray) (h : XIn w F b X) (ha : X.servers[i]? = some s) (hs : (s.seen == 0) = false) (A : ByteArray) (B C : Int)
    (hr : Calls Tryd.prog 29 #[.pointer (some ⟨b, 0, none⟩), .int .i64 (i : Int), .string p, .int .i64 X.rev] w fun e w' => e = .returned (.tuple #[.string A, .int .i64 B, .int .i64 C]) ∧ Low w.heap.size w w') :
    Calls Tryd.prog 11 #[.pointer (some ⟨b, 0, none⟩), .int .i64 (i : Int), .string p] w fun e w' => e = .returned (.tuple #[.string A, .int .i64 B, .int .i64 C]) ∧ Low w.heap.size w w' := by
  have HR := hid h
  have HA := hid ha
  have HRD := hid hr
  have HE : Hid (readErr s = 0) := by show _ = _; unfold readErr; rw [hs]; rfl
  have c0 := xin_rev h
  clear h hs ha hr
  go_enter Tryd.func11, Tryd.ntmps11
  go_wp2_with (first | (go_at_call 26; refine (mayRead_any _ _ _ HR.out HA.out).mono ?_; rw [HE.out]; rintro e y1 ⟨rfl, hy⟩; obtain rfl := hy.symm) | (go_at_call 29; refine HRD.out.mono ?_; rintro e y2 ⟨rfl, l2⟩; have L2 := hid l2; clear l2))
  go_ret3
  exact ⟨rfl, L2.out⟩
theorem pGetAt_srv (w : World) (s : Int) (p : ByteArray) (rev : Int) (h : XIn w F b X) (hs : isSrv X.servers.length s = false) :
    Calls Tryd.prog 39 #[.pointer (some ⟨b, 0, none⟩), .int .i64 s, .string p, .int .i64 rev] w fun e w' => e = .returned (.tuple #[.string ⟨#[]⟩, .int .i64 0, .int .i64 4]) ∧ w' = w := by
  have HR := hid h
  have HS := hid hs
  clear h hs
  go_enter Tryd.func39, Tryd.ntmps39
  go_wp2_with (go_at_call 26; refine (mayRead_srv _ _ HR.out HS.out).mono ?_; rintro e y1 ⟨rfl, hy⟩; obtain rfl := hy.symm)
  go_ret3
  exact ⟨rfl, rfl⟩
theorem pGetAt_blind (w : World) (i : Nat) (s : PSrv) (p : ByteArray) (rev : Int) (h : XIn w F b X) (ha : X.servers[i]? = some s) (hs : (s.seen == 0) = true) :
    Calls Tryd.prog 39 #[.pointer (some ⟨b, 0, none⟩), .int .i64 (i : Int), .string p, .int .i64 rev] w fun e w' => e = .returned (.tuple #[.string ⟨#[]⟩, .int .i64 0, .int .i64 6]) ∧ w' = w := by
  have HR := hid h
  have HA := hid ha
  have HE : Hid (readErr s = 6) := by show _ = _; unfold readErr; rw [hs]; rfl
  clear h hs ha
  go_enter Tryd.func39, Tryd.ntmps39
  go_wp2_with (go_at_call 26; refine (mayRead_any _ _ _ HR.out HA.out).mono ?_; rw [HE.out]; rintro e y1 ⟨rfl, hy⟩; obtain rfl := hy.symm)
  go_ret3
  exact ⟨rfl, rfl⟩
def pBadRev (X : PS) (rev : Int) : Bool := decide (rev < X.floor) || decide (X.rev < rev)
set_option maxRecDepth 100000 in
theorem pGetAt_rev (w : World) (i : Nat) (s : PSrv) (p : ByteArray) (rev : Int) (h : XIn w F b X) (ha : X.servers[i]? = some s) (hs : (s.seen == 0) = false) (hb : pBadRev X rev = true) :
    Calls Tryd.prog 39 #[.pointer (some ⟨b, 0, none⟩), .int .i64 (i : Int), .string p, .int .i64 rev] w fun e w' => e = .returned (.tuple #[.string ⟨#[]⟩, .int .i64 0, .int .i64 15]) ∧ w' = w := by
  have HR := hid h
  have HA := hid ha
  have HE : Hid (readErr s = 0) := by show _ = _; unfold readErr; rw [hs]; rfl
  have c0 := xin_rev h
  have c1 := xin_floor h
  clear h hs ha
  cases h1 : decide (rev < X.floor)
  · have h2 : decide (X.rev < rev) = true := by simpa [pBadRev, h1] using hb
    clear hb
    go_enter Tryd.func39, Tryd.ntmps39
    go_wp2_with (go_at_call 26; refine (mayRead_any _ _ _ HR.out HA.out).mono ?_; rw [HE.out]; rintro e y1 ⟨rfl, hy⟩; obtain rfl := hy.symm)
    go_ret3
    exact ⟨rfl, rfl⟩
  · clear hb
    go_enter Tryd.func39, Tryd.ntmps39
    go_wp2_with (go_at_call 26; refine (mayRead_any _ _ _ HR.out HA.out).mono ?_; rw [HE.out]; rintro e y1 ⟨rfl, hy⟩; obtain rfl := hy.symm)
    go_ret3
    exact ⟨rfl, rfl⟩
set_option maxRecDepth 100000 in
theorem pGetAt_ok (w : World) (i : Nat) (s : PSrv) (p : ByteArray) (rev : Int) (h : XIn w F b X) (ha : X.servers[i]? = some s) (hs : (s.seen == 0) = false) (hb : pBadRev X rev = false) (A : ByteArray) (B C : Int)
    (hr : Calls Tryd.prog 29 #[.pointer (some ⟨b, 0, none⟩), .int .i64 (i : Int), .string p, .int .i64 rev] w fun e w' => e = .returned (.tuple #[.string A, .int .i64 B, .int .i64 C]) ∧ Low w.heap.size w w') :
    Calls Tryd.prog 39 #[.pointer (some ⟨b, 0, none⟩), .int .i64 (i : Int), .string p, .int .i64 rev] w fun e w' => e = .returned (.tuple #[.string A, .int .i64 B, .int .i64 C]) ∧ Low w.heap.size w w' := by
  have HR := hid h
  have HA := hid ha
  have HRD := hid hr
  have HE : Hid (readErr s = 0) := by show _ = _; unfold readErr; rw [hs]; rfl
  have c0 := xin_rev h
  have c1 := xin_floor h
  simp only [pBadRev, Bool.or_eq_false_iff] at hb
  have h1 := hb.1
  have h2 := hb.2
  clear h hs ha hr hb
  go_enter Tryd.func39, Tryd.ntmps39
  go_wp2_with (first | (go_at_call 26; refine (mayRead_any _ _ _ HR.out HA.out).mono ?_; rw [HE.out]; rintro e y1 ⟨rfl, hy⟩; obtain rfl := hy.symm) | (go_at_call 29; refine HRD.out.mono ?_; rintro e y2 ⟨rfl, l2⟩; have L2 := hid l2; clear l2))
  go_ret3
  exact ⟨rfl, L2.out⟩
end Go.Proofs.YtphapknfkbgapabDoor
namespace Go.Proofs.YtphapknfkbgapabDoor
open Go.RowKit

variable {F : Nat → Prop} {b : Nat} {Y : RS}

/-- A revision that may not be asked for. -/
def badRev (Y : RS) (rev : Int) (asked : Bool) : Bool := asked && (decide (rev < Y.floor) || decide ((Y.all.length : Int) < rev))
-- GEN
/-- The revision that is told beside what was opened. -/
def revOr (O : ByteArray × Int) (r : Int) : Int := if O.2 == 0 then r else 0
end Go.Proofs.YtphapknfkbgapabDoor
namespace Go.Proofs.YtphapknfkbgapabDoor
open Go.RowKit

/-! One call on either side: the same answer, and the two coffers stay alike. -/

/-- What a call of the program's does, wherever its coffer lies. -/
def PUni (f : Nat) (args : List Value) (X : PS) (v : Value) (X' : PS) : Prop :=
  ∀ (w : World) (F : Nat → Prop) (b : Nat), XIn w F b X → Fours w → 1 ≤ w.heap.size → Calls Tryd.prog f (.pointer (some ⟨b, 0, none⟩) :: args).toArray w fun e w' =>
    e = .returned v ∧ ∃ F', XIn w' F' b X' ∧ Kept F w w' ∧ ∀ k, F' k → F k ∨ w.heap.size ≤ k
structure Bd (n : Nat) (Y : RS) : Prop where
  all : Y.all.length ≤ n
  d0 : 0 ≤ Y.draws
  d1 : Y.draws ≤ (n : Int)
theorem Bd.up {n : Nat} {Y : RS} (h : Bd n Y) : Bd (n + 1) Y := ⟨Nat.le_succ_of_le h.all, h.d0, by have := h.d1; omega⟩

theorem Low.keptF {w w' : World} (h : Low w.heap.size w w') (F : Nat → Prop) : Kept F w w' := h.kept.mono (fun _ _ f => f.elim)
theorem p_low {f : Nat} {args : List Value} {X : PS} {v : Value} (h : ∀ (w : World) (F : Nat → Prop) (b : Nat), XIn w F b X → Fours w → 1 ≤ w.heap.size → Calls Tryd.prog f (.pointer (some ⟨b, 0, none⟩) :: args).toArray w fun e w' => e = .returned v ∧ Low w.heap.size w w') : PUni f args X v X :=
  fun w F b hx hF h1 => (h w F b hx hF h1).mono fun _ _ ⟨e, l⟩ => ⟨e, F, hx.low l, l.keptF F, fun _ hk => Or.inl hk⟩
theorem p_same {f : Nat} {args : List Value} {X : PS} {v : Value} (h : ∀ (w : World) (F : Nat → Prop) (b : Nat), XIn w F b X → Calls Tryd.prog f (.pointer (some ⟨b, 0, none⟩) :: args).toArray w fun e w' => e = .returned v ∧ w' = w) : PUni f args X v X :=
  fun w F b hx _ _ => (h w F b hx).mono fun _ _ ⟨e, l⟩ => ⟨e, F, by rw [l]; exact hx, by rw [l]; exact Kept.refl _ _, fun _ hk => Or.inl hk⟩
theorem p_kept {f : Nat} {args : List Value} {X X' : PS} {v : Value} (h : ∀ (w : World) (F : Nat → Prop) (b : Nat), XIn w F b X → Fours w → 1 ≤ w.heap.size → Calls Tryd.prog f (.pointer (some ⟨b, 0, none⟩) :: args).toArray w fun e w' => e = .returned v ∧ XIn w' F b X' ∧ Kept F w w') : PUni f args X v X' :=
  fun w F b hx hF h1 => (h w F b hx hF h1).mono fun _ _ ⟨e, x, k⟩ => ⟨e, F, x, k, fun _ hk => Or.inl hk⟩
theorem p_grow {f : Nat} {args : List Value} {X X' : PS} {v : Value} (h : ∀ (w : World) (F : Nat → Prop) (b : Nat), XIn w F b X → Calls Tryd.prog f (.pointer (some ⟨b, 0, none⟩) :: args).toArray w fun e w' => e = .returned v ∧ XIn w' (grow F w w') b X' ∧ Kept F w w') : PUni f args X v X' :=
  fun w F b hx _ _ => (h w F b hx).mono fun _ w' ⟨e, x, k⟩ => ⟨e, grow F w w', x, k, fun _ hk => hk.imp id (fun q => q.1)⟩
theorem set_same {α : Type} {l : List α} {i : Nat} {x : α} (h : l[i]? = some x) : l.set i x = l := by
  obtain ⟨hi, rfl⟩ := List.getElem?_eq_some_iff.1 h
  exact List.set_getElem_self hi
theorem Rel.at {X : PS} {Y : RS} {key : ByteArray} (h : Rel X Y key) {s : Int} (hs : isSrv Y.seen.length s = true) : ∃ (i : Nat) (p : PSrv) (sn : Int) (u : RUnd), s = (i : Int) ∧ X.servers[i]? = some p ∧ At Y i sn u ∧ Same p sn u ∧ i < Y.seen.length ∧ (sn = 0 ∨ sn = 1) := by
  unfold isSrv at hs
  simp at hs
  have hi : s.toNat < Y.seen.length := by omega
  obtain ⟨p, hp⟩ : ∃ p, X.servers[s.toNat]? = some p := ⟨_, List.getElem?_eq_getElem (by rw [h.len.1]; exact hi)⟩
  obtain ⟨sn, u, h1, h2, h3⟩ := h.srv _ _ hp
  exact ⟨s.toNat, p, sn, u, by omega, hp, ⟨h1, h2⟩, h3, hi, h.sn _ _ h1⟩
theorem Rel.put {X : PS} {Y : RS} {key : ByteArray} (h : Rel X Y key) {i : Nat} (hi : i < Y.seen.length) (p : PSrv) (sn : Int) (u : RUnd) (hS : Same p sn u) (h01 : sn = 0 ∨ sn = 1) :
    Rel { X with servers := X.servers.set i p } { Y with seen := Y.seen.set i sn, ops := Y.ops.set i u } key := by
  refine ⟨h.ksize, h.kx, h.ky, h.write, h.ep, h.turn, h.room, h.rooms, h.rev, h.floor, h.floor0, h.draws, by simp [h.len], fun j q hq => ?_, fun j x hx => ?_, h.ent, h.few, h.revs, h.eok⟩
  · have hl := h.len
    replace hq : (X.servers.set i p)[j]? = some q := hq
    show ∃ sn1 u1, (Y.seen.set i sn)[j]? = some sn1 ∧ (Y.ops.set i u)[j]? = some u1 ∧ Same q sn1 u1
    by_cases e : i = j
    · subst e
      rw [List.getElem?_set_self (by omega)] at hq
      obtain rfl := Option.some.inj hq
      exact ⟨sn, u, List.getElem?_set_self hi, List.getElem?_set_self (by omega), hS⟩
    · rw [List.getElem?_set_ne e] at hq
      obtain ⟨a, c, h1, h2, h3⟩ := h.srv j q hq
      exact ⟨a, c, by rw [List.getElem?_set_ne e]; exact h1, by rw [List.getElem?_set_ne e]; exact h2, h3⟩
  · replace hx : (Y.seen.set i sn)[j]? = some x := hx
    by_cases e : i = j
    · subst e
      rw [List.getElem?_set_self hi] at hx
      obtain rfl := Option.some.inj hx
      exact h01
    · rw [List.getElem?_set_ne e] at hx
      exact h.sn j x hx

end Go.Proofs.YtphapknfkbgapabDoor
namespace Go.Proofs.YtphapknfkbgapabDoor
open Go.RowKit

/-! The document's turning of the key: going, Gate, Stage, Promote, Destroy. -/

variable {F : Nat → Prop} {b : Nat} {Y : RS}

def goingOf (Y : RS) : Bool := (Y.turn == 2) || (Y.turn == 3)
/-- Is an old key in use? -/
def usedOf (Y : RS) : Bool := (keptOf Y.all).any (fun e => !e.gone && (e.key != writesOf Y.keys Y.epoch))
def gateErr (Y : RS) : Int := if usedOf Y then 19 else 0
def RS.gate (Y : RS) : RS := if usedOf Y then Y else { Y with turn := 3 }
theorem row_ent {w : World} {g n cap : Nat} {l : List Ent} (h : w.ownsRow 0 65 6 (.slice (some ⟨g, 0, none⟩) n cap) n (l.flatMap Ent.cells)) (hn : n = l.length) (i : Nat) (k : Ent) (hk : l[i]? = some k) (q : Nat) (hq : q < 6) : w.cell? ⟨g, i * 6 + q, none⟩ = k.cells[q]? := by
  have hi : i < l.length := (List.getElem?_eq_some_iff.1 hk).1
  rw [h.cellAt (i * 6 + q) (by omega), flat_at 6 Ent.cells Ent.len l i q k hk hq]
theorem any_snoc {α : Type} (l : List α) (i : Nat) (x : α) (p : α → Bool) (h : l[i]? = some x) : (l.take (i + 1)).any p = ((l.take i).any p || p x) := by
  rw [take_snoc h, List.any_append]; simp
theorem any_at {α : Type} (l : List α) (i : Nat) (x : α) (p : α → Bool) (h : l[i]? = some x) (hp : p x = true) : l.any p = true := List.any_eq_true.2 ⟨x, List.mem_of_getElem? h, hp⟩
/-! Stage. -/
def RS.stage (Y : RS) (text : ByteArray) : RS := { Y with epoch := Y.epoch + 1, keys := Y.keys ++ [⟨text, Y.epoch + 1, 0, false⟩], turn := 1 }
end Go.Proofs.YtphapknfkbgapabDoor
namespace Go.Proofs.YtphapknfkbgapabDoor
open Go.RowKit

variable {F : Nat → Prop} {b : Nat} {Y : RS}

/-! Promote. -/
def allSeen (Y : RS) : Bool := Y.seen.all (fun s => s == Y.epoch)
def RS.promote (Y : RS) (n : Nat) (K : RKey) : RS := { Y with epoch := Y.epoch + 1, keys := Y.keys.set n { K with writes := Y.epoch + 1 }, turn := 2 }
theorem all_snoc {α : Type} (l : List α) (i : Nat) (x : α) (p : α → Bool) (h : l[i]? = some x) : (l.take (i + 1)).all p = ((l.take i).all p && p x) := by
  rw [take_snoc h, List.all_append]; simp
theorem all_not {α : Type} (l : List α) (i : Nat) (x : α) (p : α → Bool) (h : l[i]? = some x) (hp : p x = false) : l.all p = false := List.all_eq_false.2 ⟨x, List.mem_of_getElem? h, by rw [hp]; simp⟩
end Go.Proofs.YtphapknfkbgapabDoor
namespace Go.Proofs.YtphapknfkbgapabDoor
open Go.RowKit

variable {F : Nat → Prop} {b : Nat} {Y : RS}

/-! Destroy. -/
def leftOf (ks : List RKey) : Nat := ks.countP (fun k => !k.gone)
def RS.destroy (Y : RS) (j : Nat) (K : RKey) : RS := { Y with keys := Y.keys.set j { K with gone := true }, turn := if leftOf (Y.keys.set j { K with gone := true }) == 1 then 0 else Y.turn }
def noKey (Y : RS) (k : Int) : Bool := decide (k < 1) || decide ((Y.keys.length : Int) < k)
def badGate (Y : RS) (k : Int) : Bool := (k == writesOf Y.keys Y.epoch) || (Y.turn != 3)
theorem left_snoc (l : List RKey) (i : Nat) (x : RKey) (h : l[i]? = some x) : leftOf (l.take (i + 1)) = leftOf (l.take i) + (if !x.gone then 1 else 0) := by
  unfold leftOf
  rw [take_snoc h, List.countP_append]
  simp [List.countP_cons]
theorem left_le (l : List RKey) : leftOf l ≤ l.length := List.countP_le_length
end Go.Proofs.YtphapknfkbgapabDoor
namespace Go.Proofs.YtphapknfkbgapabDoor
open Go.RowKit

variable {F : Nat → Prop} {b : Nat} {Y : RS}

/-! before: the order of paths. -/
def beforeL : List UInt8 → List UInt8 → Bool
  | _, [] => false
  | [], _ :: _ => true
  | x :: xs, y :: ys => if x != y then decide (x < y) else beforeL xs ys
def beforeOf (a c : ByteArray) : Bool := beforeL a.data.toList c.data.toList
theorem drop_at (a : ByteArray) (i : Nat) (h : i < a.size) : a.data.toList.drop i = a[i]'h :: a.data.toList.drop (i + 1) := List.drop_eq_getElem_cons (by simpa using h)
theorem drop_end (a : ByteArray) (i : Nat) (h : a.size ≤ i) : a.data.toList.drop i = [] := List.drop_eq_nil_of_le (by simpa using h)
theorem before_cons (x y : UInt8) (xs ys : List UInt8) : beforeL (x :: xs) (y :: ys) = if ((x.toNat : Int) != (y.toNat : Int)) then decide (x.toNat < y.toNat) else beforeL xs ys := by
  have e : (x != y) = ((x.toNat : Int) != (y.toNat : Int)) := by
    rw [Bool.eq_iff_iff, bne_iff_ne, bne_iff_ne]
    exact not_congr ⟨fun h => by rw [h], fun h => UInt8.toNat_inj.1 (Int.ofNat.inj h)⟩
  have e2 : decide (x < y) = decide (x.toNat < y.toNat) := by
    rw [decide_eq_decide, UInt8.lt_iff_toNat_lt]
  show (if x != y then decide (x < y) else beforeL xs ys) = _
  rw [e, e2]
end Go.Proofs.YtphapknfkbgapabDoor
namespace Go.Proofs.YtphapknfkbgapabDoor
open Go.RowKit

variable {F : Nat → Prop} {b : Nat} {Y : RS}

/-! due: the first path in order whose newest entry is to be moved. -/
structure Due where
  name : ByteArray
  text : ByteArray
  found : Bool
def keyAt (ks : List RKey) (k : Int) : RKey := (ks[(k - 1).toNat]?).getD ⟨⟨#[]⟩, 0, 0, false⟩
def dueNew (d : Due) (X : Ent) (O : ByteArray × Int) : Due := if (O.2 == 0) && (!d.found || beforeOf X.path d.name) then ⟨X.path, O.1, true⟩ else d
def dueStep (Y : RS) (m : Int) (d : Due) (x : Ent) : Due :=
  if ((lastOf Y.all x.path).getD Ent.zero).gone || (((lastOf Y.all x.path).getD Ent.zero).key == m) then d
  else dueNew d ((lastOf Y.all x.path).getD Ent.zero) (openedOf (keyAt Y.keys ((lastOf Y.all x.path).getD Ent.zero).key) ((lastOf Y.all x.path).getD Ent.zero) Y.epoch)
def due0 : Due := ⟨⟨#[]⟩, ⟨#[]⟩, false⟩
def dueOf (Y : RS) : Due := (keptOf Y.all).foldl (dueStep Y (writesOf Y.keys Y.epoch)) due0
/-- What is kept can be opened or refused: keys that have come, texts that may be. -/
def KeysOk (Y : RS) : Prop := ∀ k ∈ Y.all, k.e.gone = false → EntOk k.e ∧ ∃ j K, k.e.key = ((j : Nat) : Int) + 1 ∧ Y.keys[j]? = some K ∧ K.text.size = 48
theorem last_some {l : List RKept} {x : Ent} (h : x ∈ keptOf l) : ∃ k ∈ l, lastOf l x.path = some k.e := by
  obtain ⟨k, hk, rfl⟩ := List.mem_map.1 h
  obtain ⟨hk1, hk2⟩ := List.mem_filter.1 hk
  unfold lastOf
  cases hf : l.reverse.find? (fun q => !q.out && (q.e.path.toList == k.e.path.toList)) with
  | none =>
    have := List.find?_eq_none.1 hf k (List.mem_reverse.2 hk1)
    simp [hk2] at this
  | some q => exact ⟨q, List.mem_reverse.1 (List.mem_of_find?_eq_some hf), rfl⟩
theorem fold_snoc {α β : Type} (l : List α) (i : Nat) (x : α) (f : β → α → β) (d : β) (h : l[i]? = some x) : (l.take (i + 1)).foldl f d = f ((l.take i).foldl f d) x := by
  rw [take_snoc h, List.foldl_append]; rfl
theorem keyAt_eq {ks : List RKey} {j : Nat} {K : RKey} {k : Int} (h : ks[j]? = some K) (hk : k = (j : Int) + 1) : keyAt ks k = K := by
  unfold keyAt
  rw [show (k - 1).toNat = j by omega, h]; rfl
end Go.Proofs.YtphapknfkbgapabDoor
namespace Go.Proofs.YtphapknfkbgapabDoor
open Go.RowKit

variable {F : Nat → Prop} {b : Nat} {Y : RS}

/-! Migrate. -/
structure DueOk (d : Due) : Prop where
  name : 1 ≤ d.name.size ∧ d.name.size ≤ 16
  text : d.text.size ≤ 64
theorem opened_size {K : RKey} {e : Ent} {s : Int} (h : EntOk e) : (openedOf K e s).1.size ≤ 64 := by
  unfold openedOf
  split
  · simp [ByteArray.size]
  · split
    · simp [ByteArray.size]
    · split
      · show (maskOf _ _ _).size ≤ 64
        rw [maskOf_size]
        have := h.sealed
        unfold coverOf
        rw [ByteArray.size_extract]
        omega
      · simp [ByteArray.size]
theorem due_ok (h : KeysOk Y) : (dueOf Y).found = true → DueOk (dueOf Y) := by
  unfold dueOf
  have : ∀ (l : List Ent) (d : Due), (∀ x ∈ l, x ∈ keptOf Y.all) → (d.found = true → DueOk d) → ((l.foldl (dueStep Y (writesOf Y.keys Y.epoch)) d).found = true → DueOk (l.foldl (dueStep Y (writesOf Y.keys Y.epoch)) d)) := by
    intro l
    induction l with
    | nil => intro d _ hd; exact hd
    | cons x r ih =>
      intro d hx hd
      refine ih _ (fun y hy => hx y (List.mem_cons_of_mem _ hy)) ?_
      obtain ⟨k, hk, hlast⟩ := last_some (hx x List.mem_cons_self)
      unfold dueStep
      rw [hlast]
      simp only [Option.getD_some]
      split
      · exact hd
      · rename_i hg
        have hgone : k.e.gone = false := by
          cases hq : k.e.gone
          · rfl
          · simp [hq] at hg
        obtain ⟨hok, _⟩ := h k hk hgone
        unfold dueNew
        split
        · exact fun _ => ⟨hok.path, opened_size hok⟩
        · exact hd
  exact this _ _ (fun x hx => hx) (fun h => by cases h)
def moveEnt (Y : RS) (K : RKey) (m : Int) : Ent := { closedOf K.text m (dueOf Y).name (dueOf Y).text (Y.draws + 1) with rev := (Y.all.length : Int) + 1 }
def RS.move (Y : RS) (K : RKey) (m : Int) : RS := { Y with draws := Y.draws + 1, all := Y.all ++ [⟨moveEnt Y K m, false⟩] }
/-- What n moves leave; how many were made; the answer. -/
def moves (K : RKey) (m : Int) : Nat → RS → RS × Nat × Int
  | 0, Y => (Y, 0, 0)
  | n + 1, Y => if (dueOf Y).found then (if fullOf Y then (Y, 0, 11) else ((moves K m n (Y.move K m)).1, (moves K m n (Y.move K m)).2.1 + 1, (moves K m n (Y.move K m)).2.2)) else (Y, 0, 0)
theorem move_ok {K : RKey} {j : Nat} (h : KeysOk Y) (hK : Y.keys[j]? = some K) (hT : K.text.size = 48) (hf : (dueOf Y).found = true) (hd : 0 ≤ Y.draws ∧ Y.draws + 1 ≤ 100000000000000) : KeysOk (Y.move K ((j : Int) + 1)) := by
  intro k hk hg
  rcases List.mem_append.1 hk with hk | hk
  · exact h k hk hg
  · obtain rfl := List.mem_singleton.1 hk
    have hD := due_ok h hf
    refine ⟨⟨hD.name, ?_, ?_⟩, j, K, rfl, hK, hT⟩
    · show 0 ≤ Y.draws + 1 ∧ Y.draws + 1 ≤ 100000000000000
      omega
    · show 8 ≤ (sealOf K.text (nonceTo (Y.draws + 1) 12) (dueOf Y).name (dueOf Y).text).size ∧ (sealOf K.text (nonceTo (Y.draws + 1) 12) (dueOf Y).name (dueOf Y).text).size ≤ 72
      rw [sealOf_size]
      have := hD.text
      omega
def badMove (n : Int) : Bool := decide (n < 0) || decide (20 < n)
/-- How far the moves have come: i of n are made, Z is what they left. -/
structure MigSt (Y Z : RS) (K : RKey) (m : Int) (n i : Nat) : Prop where
  keys : Z.keys = Y.keys
  epoch : Z.epoch = Y.epoch
  all : Z.all.length ≤ 50000000 + i
  ok : KeysOk Z
  draws : 0 ≤ Z.draws ∧ Z.draws ≤ 100000000 + (i : Int)
  res : moves K m n Y = ((moves K m (n - i) Z).1, (moves K m (n - i) Z).2.1 + i, (moves K m (n - i) Z).2.2)
theorem MigSt.stop {Z : RS} {K : RKey} {m : Int} {n i : Nat} (h : MigSt Y Z K m n i) (hi : i < n) (hf : (dueOf Z).found = false) : moves K m n Y = (Z, i, 0) := by
  obtain ⟨t, ht⟩ : ∃ t, n - i = t + 1 := ⟨n - i - 1, by omega⟩
  rw [h.res, ht]
  unfold moves
  simp [hf]
theorem MigSt.full {Z : RS} {K : RKey} {m : Int} {n i : Nat} (h : MigSt Y Z K m n i) (hi : i < n) (hf : (dueOf Z).found = true) (hu : fullOf Z = true) : moves K m n Y = (Z, i, 11) := by
  obtain ⟨t, ht⟩ : ∃ t, n - i = t + 1 := ⟨n - i - 1, by omega⟩
  rw [h.res, ht]
  unfold moves
  simp [hf, hu]
theorem MigSt.done {Z : RS} {K : RKey} {m : Int} {n i : Nat} (h : MigSt Y Z K m n i) (hi : i = n) : moves K m n Y = (Z, i, 0) := by
  rw [h.res, show n - i = 0 by omega]
  simp [moves]
theorem MigSt.step {Z : RS} {K : RKey} {j n i : Nat} (h : MigSt Y Z K ((j : Int) + 1) n i) (hi : i < n) (hn : n ≤ 20) (hf : (dueOf Z).found = true) (hu : fullOf Z = false) (hK : Y.keys[j]? = some K) (hT : K.text.size = 48) : MigSt Y (Z.move K ((j : Int) + 1)) K ((j : Int) + 1) n (i + 1) := by
  have hd := h.draws
  refine ⟨h.keys, h.epoch, ?_, move_ok h.ok (by rw [h.keys]; exact hK) hT hf ⟨hd.1, by omega⟩, ?_, ?_⟩
  · show (Z.all ++ [_]).length ≤ _
    have := h.all
    simp
    omega
  · show 0 ≤ Z.draws + 1 ∧ Z.draws + 1 ≤ 100000000 + ((i + 1 : Nat) : Int)
    omega
  · obtain ⟨t, ht⟩ : ∃ t, n - i = t + 1 := ⟨n - i - 1, by omega⟩
    rw [h.res, ht, show n - (i + 1) = t by omega]
    conv => lhs; unfold moves
    simp only [hf, hu, if_true, Bool.false_eq_true, if_false]
    rw [show (moves K ((j : Int) + 1) t (Z.move K ((j : Int) + 1))).2.1 + 1 + i = (moves K ((j : Int) + 1) t (Z.move K ((j : Int) + 1))).2.1 + (i + 1) by omega]
end Go.Proofs.YtphapknfkbgapabDoor
namespace Go.Proofs.YtphapknfkbgapabDoor
open Go.RowKit

variable {F : Nat → Prop} {b : Nat} {Y : RS}

/-! Plant. -/
def outRev (Y : RS) (rev : Int) : Bool := decide (rev < 1) || decide ((Y.all.length : Int) < rev)
def RS.plant (Y : RS) (name : ByteArray) (k : RKept) : RS := { Y with all := Y.all ++ [⟨{ k.e with path := name, rev := (Y.all.length : Int) + 1 }, false⟩], turn := if Y.turn == 3 then 2 else Y.turn }
end Go.Proofs.YtphapknfkbgapabDoor
namespace Go.Proofs.YtphapknfkbgapabDoor
open Go.RowKit

variable {F : Nat → Prop} {b : Nat} {Y : RS}

/-! Place. -/
def badPlace (pod node : Int) : Bool := (decide (pod < 0) || decide (8 ≤ pod)) || (decide (node < -1) || decide (4 ≤ node))
def RS.place (Y : RS) (pod : Nat) (node : Int) : RS := { Y with node := Y.node.set pod node }
end Go.Proofs.YtphapknfkbgapabDoor
namespace Go.Proofs.YtphapknfkbgapabDoor
open Go.RowKit

variable {F : Nat → Prop} {b : Nat} {Y : RS}

/-! digit, Refer. -/
def digitOf (pod : Nat) : ByteArray := ⟨#[UInt8.ofNat (48 + pod)]⟩
def mineOf (pod : Nat) (p : ByteArray × ByteArray) : Bool := p.1.toList == (digitOf pod).toList
def restOf (l : List (ByteArray × ByteArray)) (pod : Nat) (name : ByteArray) : List (ByteArray × ByteArray) := l.filter (fun p => !(mineOf pod p && (p.2.toList == name.toList)))
def othersOf (l : List (ByteArray × ByteArray)) (pod : Nat) (name : ByteArray) : Nat := (restOf l pod name).countP (mineOf pod)
theorem rest_snoc (l : List (ByteArray × ByteArray)) (p : ByteArray × ByteArray) (pod : Nat) (name : ByteArray) : restOf (l ++ [p]) pod name = if mineOf pod p && (p.2.toList == name.toList) then restOf l pod name else restOf l pod name ++ [p] := by
  unfold restOf
  rw [List.filter_append]
  cases h1 : mineOf pod p <;> cases h2 : (p.2.toList == name.toList) <;> simp [h1, h2]
theorem rest_le (l : List (ByteArray × ByteArray)) (pod : Nat) (name : ByteArray) : (restOf l pod name).length ≤ l.length := List.length_filter_le _ _
theorem others_le (l : List (ByteArray × ByteArray)) (pod : Nat) (name : ByteArray) : othersOf l pod name ≤ l.length := Nat.le_trans List.countP_le_length (rest_le l pod name)
theorem others_snoc (l : List (ByteArray × ByteArray)) (p : ByteArray × ByteArray) (pod : Nat) (name : ByteArray) : othersOf (l ++ [p]) pod name = if mineOf pod p && !(p.2.toList == name.toList) then othersOf l pod name + 1 else othersOf l pod name := by
  unfold othersOf
  rw [rest_snoc]
  cases h1 : mineOf pod p <;> cases h2 : (p.2.toList == name.toList) <;> simp [h1, List.countP_append]
theorem two_one (p : ByteArray × ByteArray) : ∀ v ∈ two p, v.oneCell' = true := by simp [two, Value.oneCell']
def badRefer (pod : Int) (name : ByteArray) : Bool := (decide (pod < 0) || decide (8 ≤ pod)) || !isPath name
/-- What Refer leaves. -/
def RS.refer (Y : RS) (pod : Nat) (name : ByteArray) (on : Bool) : RS := { Y with needs := restOf Y.needs pod name ++ (if on then [(digitOf pod, name)] else []) }
end Go.Proofs.YtphapknfkbgapabDoor
namespace Go.Proofs.YtphapknfkbgapabDoor
open Go.RowKit

/-! The program's coffer and the document's, under many keys. -/

structure Same2 (rs : List RKey) (ep : Int) (s : PSrv) (sn : Int) (u : RUnd) : Prop where
  seen : s.seen = sn
  sn : 0 ≤ sn ∧ sn ≤ ep
  busy : s.busy = u.on
  op : s.busy = true → s.epoch = u.epoch ∧ s.rev = u.want ∧ s.e = u.e ∧ -1 ≤ u.want ∧ (1 ≤ u.epoch ∧ u.epoch ≤ ep) ∧ (1 ≤ u.e.path.size ∧ u.e.path.size ≤ 16) ∧ (u.e.gone = false → EntOk u.e ∧ u.e.key = writesOf rs u.epoch)
/-- The pods, on either side. -/
structure Pods2 (p : Nat → PPod) (node : List Int) (needs : List (ByteArray × ByteArray)) : Prop where
  node : ∀ i, i < 8 → node[i]? = some (p i).node
  ok : ∀ q ∈ needs, ∃ i, i < 8 ∧ q.1 = digitOf i
  same : ∀ i, i < 8 → (p i).needs = (needs.filter (mineOf i)).map (·.2)
  few : ∀ i, i < 8 → (p i).needs.length ≤ 8
structure Rel2 (n : Nat) (X : PS) (Y : RS) : Prop where
  keys : Keys2 X.keys Y.keys Y.epoch Y.turn
  live : ∀ (j : Nat) (K : RKey), writesOf Y.keys Y.epoch = (j : Int) + 1 → Y.keys[j]? = some K → K.gone = false
  ep : X.epoch = Y.epoch ∧ 1 ≤ Y.epoch ∧ Y.epoch + 1 ≤ 2 * (Y.keys.length : Int) ∧ (Y.turn = 1 → Y.epoch + 2 ≤ 2 * (Y.keys.length : Int))
  write : X.write = writesOf Y.keys Y.epoch
  turn : X.turn = Y.turn
  room : X.room = Y.room
  rooms : 1 ≤ Y.room ∧ Y.room ≤ 60
  rev : X.rev = (Y.all.length : Int)
  floor : X.floor = Y.floor
  floor0 : 0 ≤ Y.floor
  draws : X.draws = Y.draws ∧ 0 ≤ Y.draws ∧ Y.draws ≤ (n : Int)
  len : X.servers.length = Y.seen.length ∧ Y.ops.length = Y.seen.length ∧ Y.seen.length ≤ 4 ∧ 1 ≤ Y.seen.length
  srv : ∀ (i : Nat) (s : PSrv), X.servers[i]? = some s → ∃ sn u, Y.seen[i]? = some sn ∧ Y.ops[i]? = some u ∧ Same2 Y.keys Y.epoch s sn u
  ent : X.entries = keptOf Y.all
  few : (X.entries.length : Int) ≤ Y.room
  revs : Revs Y.all
  eok : ∀ k ∈ Y.all, k.e.gone = false → EntOk k.e ∧ ∃ j K, k.e.key = ((j : Nat) : Int) + 1 ∧ Y.keys[j]? = some K ∧ (k.out = false → K.gone = false)
  all : Y.all.length ≤ n
  gated : Y.turn = 3 → ∀ k ∈ Y.all, k.out = false → k.e.gone = false → k.e.key = writesOf Y.keys Y.epoch
  pods : Pods2 X.pods Y.node Y.needs
variable {X : PS} {Y : RS} {n : Nat}
theorem Rel2.up (h : Rel2 n X Y) : Rel2 (n + 1) X Y :=
  ⟨h.keys, h.live, h.ep, h.write, h.turn, h.room, h.rooms, h.rev, h.floor, h.floor0, ⟨h.draws.1, h.draws.2.1, by have := h.draws.2.2; omega⟩, h.len, h.srv, h.ent, h.few, h.revs, h.eok, by have := h.all; omega, h.gated, h.pods⟩
theorem Rel2.mono (h : Rel2 n X Y) {m : Nat} (hm : n ≤ m) : Rel2 m X Y :=
  ⟨h.keys, h.live, h.ep, h.write, h.turn, h.room, h.rooms, h.rev, h.floor, h.floor0, ⟨h.draws.1, h.draws.2.1, by have := h.draws.2.2; omega⟩, h.len, h.srv, h.ent, h.few, h.revs, h.eok, by have := h.all; omega, h.gated, h.pods⟩
theorem Rel2.at (h : Rel2 n X Y) {s : Int} (hs : isSrv Y.seen.length s = true) : ∃ (i : Nat) (p : PSrv) (sn : Int) (u : RUnd), s = (i : Int) ∧ X.servers[i]? = some p ∧ At Y i sn u ∧ Same2 Y.keys Y.epoch p sn u ∧ i < Y.seen.length := by
  unfold isSrv at hs
  simp at hs
  have hi : s.toNat < Y.seen.length := by omega
  obtain ⟨p, hp⟩ : ∃ p, X.servers[s.toNat]? = some p := ⟨_, List.getElem?_eq_getElem (by rw [h.len.1]; exact hi)⟩
  obtain ⟨sn, u, h1, h2, h3⟩ := h.srv _ _ hp
  exact ⟨s.toNat, p, sn, u, by omega, hp, ⟨h1, h2⟩, h3, hi⟩
theorem Rel2.put (h : Rel2 n X Y) {i : Nat} (hi : i < Y.seen.length) (p : PSrv) (sn : Int) (u : RUnd) (hS : Same2 Y.keys Y.epoch p sn u) :
    Rel2 n { X with servers := X.servers.set i p } { Y with seen := Y.seen.set i sn, ops := Y.ops.set i u } := by
  refine ⟨h.keys, h.live, h.ep, h.write, h.turn, h.room, h.rooms, h.rev, h.floor, h.floor0, h.draws, ⟨by simp [h.len.1], by simp [h.len.2.1], by simpa using h.len.2.2.1, by rw [List.length_set]; exact h.len.2.2.2⟩, fun j q hq => ?_, h.ent, h.few, h.revs, h.eok, h.all, h.gated, h.pods⟩
  have hl := h.len
  replace hq : (X.servers.set i p)[j]? = some q := hq
  show ∃ sn1 u1, (Y.seen.set i sn)[j]? = some sn1 ∧ (Y.ops.set i u)[j]? = some u1 ∧ Same2 Y.keys Y.epoch q sn1 u1
  by_cases e : i = j
  · subst e
    rw [List.getElem?_set_self (by omega)] at hq
    obtain rfl := Option.some.inj hq
    exact ⟨sn, u, List.getElem?_set_self hi, List.getElem?_set_self (by omega), hS⟩
  · rw [List.getElem?_set_ne e] at hq
    obtain ⟨a, c, h1, h2, h3⟩ := h.srv j q hq
    exact ⟨a, c, by rw [List.getElem?_set_ne e]; exact h1, by rw [List.getElem?_set_ne e]; exact h2, h3⟩
/-- The key that writes. -/
theorem Rel2.writer (h : Rel2 n X Y) : ∃ (j : Nat) (p : PKey) (K : RKey), X.write = (j : Int) + 1 ∧ writesOf Y.keys Y.epoch = (j : Int) + 1 ∧ X.keys[j]? = some p ∧ Y.keys[j]? = some K ∧ KSame p K ∧ 0 < K.writes ∧ K.gone = false ∧ promOf Y.keys = (if j = 0 then 0 else K.writes) ∧ (j = 0 → K.writes = 1) := by
  obtain ⟨j, p, K, q0, q1, q2, q3, q4, _, _⟩ := h.keys.writing h.ep.2.1
  refine ⟨j, p, K, by rw [h.write]; exact q0, q0, q1, q2, q3, q4, h.live j K q0 q2, h.keys.prom q0 q2, fun hz => ?_⟩
  subst hz
  exact (h.keys.first K q2).2
theorem revs_snoc {l : List RKept} (h : Revs l) (x : RKept) (hx : x.e.rev = (l.length : Int) + 1) : Revs (l ++ [x]) := by
  intro j k hk
  by_cases hj : j < l.length
  · rw [List.getElem?_append_left hj] at hk
    exact h j k hk
  · rw [List.getElem?_append_right (by omega)] at hk
    have hj0 : j = l.length := by
      have := (List.getElem?_eq_some_iff.1 hk).1
      simp at this
      omega
    subst hj0
    rw [Nat.sub_self] at hk
    obtain rfl := (Option.some.inj hk).symm
    exact hx
theorem commit_same2 (h : Rel2 n X Y) {j : Nat} {p : PKey} {K : RKey} (hks : KSame p K) (hpr : promOf Y.keys = (if j = 0 then 0 else K.writes)) (hj0 : j = 0 → K.writes = 1) {s : PSrv} {sn : Int} {u : RUnd} (hs : Same2 Y.keys Y.epoch s sn u) (hb : s.busy = true) : pCommitErr X p.wrote s = commitErr Y u := by
  obtain ⟨e1, e2, e3, e4, e5, _, _⟩ := hs.op hb
  unfold pCommitErr pErr commitErr
  have hn : newestOf X.entries s.e.path X.rev = (lastOf Y.all u.e.path).getD Ent.zero := by rw [h.ent, h.rev, newest_all _ _ h.revs, e3]
  obtain ⟨L, hL⟩ : ∃ L, L = lastOf Y.all u.e.path := ⟨_, rfl⟩
  rw [← hL] at hn
  have h1 : ∀ e, L = some e → 1 ≤ e.rev := by
    intro e he
    rw [hL] at he
    obtain ⟨k, hk, rfl, _⟩ := lastOf_mem he
    obtain ⟨i, hi⟩ := List.getElem?_of_mem hk
    have := h.revs i k hi
    omega
  obtain ⟨q1, q2⟩ := rev_there L h1
  have hpr2 : pRevOf X s.e.path = (if (L.getD Ent.zero).gone then (0 : Int) else (L.getD Ent.zero).rev) := by unfold pRevOf; rw [hn]
  obtain ⟨r, hr⟩ : ∃ r, r = pRevOf X s.e.path := ⟨_, rfl⟩
  rw [← hpr2, ← hr] at q1 q2
  have q3 : thereOf L = true → 1 ≤ r := fun ht => by
    rw [q2 ht]
    cases L with
    | none => cases ht
    | some e => exact h1 e rfl
  have hf : pFull X = fullOf Y := by unfold pFull fullOf; rw [h.room, h.ent]
  have hst : decide (u.epoch < p.wrote) = decide (u.epoch < promOf Y.keys) := by
    rw [hpr, hks.wrote]
    by_cases hz : j = 0
    · rw [if_pos hz, hj0 hz, decide_eq_false (by omega), decide_eq_false (by omega)]
    · rw [if_neg hz]
  rw [← hr, hf, e1, e2, e3, ← hL, conflict_same L r u.want e4 q1 q2 q3, q1, hst]
end Go.Proofs.YtphapknfkbgapabDoor
namespace Go.Proofs.YtphapknfkbgapabDoor
open Go.RowKit

theorem getz {α : Type} {l : List α} {x : α} (h : l = [x]) : l[0]? = some x := by rw [h]; rfl
theorem writerOne (K : PKey) (ep : Int) : writerOf [K] ep = 1 := rfl
theorem writesOne (key : ByteArray) : writesOf [⟨key, 1, 1, false⟩] 1 = 1 := rfl
theorem proper_parts {o : AOp} (h : properOf o = true) : (1 ≤ o.path.size ∧ o.path.size ≤ 16) ∧ -1 ≤ o.rev ∧ ((o.kind == 1) = true → o.plain.size ≤ 64) ∧ ((o.kind == 1) = false → (o.kind == 2) = true) := by
  unfold properOf isPath at h
  simp at h
  obtain ⟨⟨⟨h1, h2⟩, h3⟩, h4⟩ := h
  refine ⟨⟨by omega, h2⟩, h3, fun hk => ?_, fun hk => ?_⟩
  · have hk : o.kind = 1 := by simpa using hk
    rcases h4 with h4 | h4
    · exact h4.2
    · omega
  · have hk : o.kind ≠ 1 := by simpa using hk
    rcases h4 with h4 | h4
    · exact absurd h4.1 hk
    · simpa using h4.1
theorem allTo_get {l : List RKept} {f : Nat → Bool} {n j : Nat} {k : RKept} (h : (allTo l f n)[j]? = some k) : ∃ k0, l[j]? = some k0 ∧ k.e = k0.e := by
  unfold allTo at h
  rw [List.getElem?_mapIdx] at h
  cases hl : l[j]? with
  | none => rw [hl] at h; cases h
  | some k0 =>
    rw [hl] at h
    have h : (if j < n then { k0 with out := k0.out || f j } else k0) = k := Option.some.inj h
    refine ⟨k0, rfl, ?_⟩
    rw [← h]
    split <;> rfl
theorem new_rel (m : Nat) (room : Int) (key : ByteArray) (hc : cfgOk (m : Int) room key = true) : Rel (PS.new m room key) (RS.new m room key) key ∧ Bd 0 (RS.new m room key) := by
  unfold cfgOk at hc
  simp at hc
  obtain ⟨⟨c1, c2, c3, c4⟩, c5⟩ := hc
  have e : (RS.new (m : Int) room key).seen = List.replicate m 0 := by show List.replicate (m : Int).toNat 0 = _; rw [Int.toNat_natCast]
  have e2 : (RS.new (m : Int) room key).ops = List.replicate m RUnd.zero := by show List.replicate (m : Int).toNat RUnd.zero = _; rw [Int.toNat_natCast]
  refine ⟨⟨c5, rfl, rfl, rfl, ⟨rfl, rfl⟩, ⟨rfl, rfl⟩, rfl, ⟨c3, c4⟩, rfl, rfl, Int.le_refl _, rfl, ?_, ?_, ?_, rfl, ?_, ?_, ?_⟩, ⟨Nat.le_refl _, Int.le_refl _, Int.le_refl _⟩⟩
  · rw [e, e2]
    show (List.replicate m PSrv.zero).length = _ ∧ _
    simp
  · intro i s hs
    replace hs : (List.replicate m PSrv.zero)[i]? = some s := hs
    have hi : i < m := by have := (List.getElem?_eq_some_iff.1 hs).1; simpa using this
    rw [List.getElem?_replicate, if_pos hi] at hs
    obtain rfl := Option.some.inj hs
    rw [e, e2]
    exact ⟨0, RUnd.zero, by rw [List.getElem?_replicate, if_pos hi], by rw [List.getElem?_replicate, if_pos hi], ⟨rfl, rfl, fun z => by cases z⟩⟩
  · intro i sn hs
    rw [e] at hs
    have hi : i < m := by have := (List.getElem?_eq_some_iff.1 hs).1; simpa using this
    rw [List.getElem?_replicate, if_pos hi] at hs
    exact Or.inl (Option.some.inj hs).symm
  · show ((0 : Nat) : Int) ≤ room
    omega
  · intro i k hk
    cases hk
  · intro k hk
    cases hk
end Go.Proofs.YtphapknfkbgapabDoor
