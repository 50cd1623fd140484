import Derived.Test.YtphapknfkbgapaaGreatDoorRefIToLawC
import Derived.Deep.RegionLaw
import Derived.Deep.DeepCutAuto
namespace Go.Proofs.YtphapknfkbgapaaGreatDoor
open Go.RowKit

variable {F : Nat → Prop} {b : Nat} {Y : RS}

theorem info70 : (Tryz.prog.info? 75).map (fun i => (i.zero, i.size, i.bytes)) = some (some (.agg #[.string ⟨#[]⟩, .int .i64 0, .int .i64 0, .bool false]), 4, 40) := by kernel_rfl
theorem info72 : (Tryz.prog.info? 77).map (fun i => (i.zero, i.size, i.bytes)) = some (some (.agg #[.bool false, .string ⟨#[]⟩, .int .i64 0, .int .i64 0, .int .i64 0, .string ⟨#[]⟩, .bool false, .int .i64 0, .int .i64 0]), 9, 88) := by kernel_rfl
/-- One more of the keys. -/
theorem rin_appKey {w w1 : World} {v v' : Value} {o : Obj} (h : RIn w F b Y) (hv : w.cell? ⟨b, 4, none⟩ = some v) (k : Kept (fun q => v.ownBlock = some q) (w.alloc o) w1) (K : RKey) (ho : w1.ownsRow 0 75 4 v' (Y.keys.length + 1) (Y.keys.flatMap RKey.cells ++ RKey.cells K)) (P : v'.ownBlock = v.ownBlock ∨ v'.ownBlock = some (w.alloc o).heap.size) :
    RIn (w1.setCell ⟨b, 4, none⟩ v') (grow F w (w1.setCell ⟨b, 4, none⟩ v')) b { Y with keys := Y.keys ++ [K] } ∧ Kept F w (w1.setCell ⟨b, 4, none⟩ v') := by
  obtain ⟨h8, vA, vK, vS, vO, vN, hO⟩ := h
  obtain rfl : vK = v := Option.some.inj ((hO.cell 4).symm.trans hv)
  obtain ⟨q1, q2⟩ := hO.appended (Low.refl _ w) 1 rfl rfl k ho P (Y.offs 1 rfl)
  exact ⟨⟨h8, vA, v', vS, vO, vN, q1.cast rfl (by simp [RS.rows])⟩, q2⟩
theorem rin_rowKey {w : World} (h : RIn w F b Y) : ∃ a cap, w.cell? ⟨b, 4, none⟩ = some (.slice a Y.keys.length cap) ∧ w.ownsRow 0 75 4 (.slice a Y.keys.length cap) Y.keys.length (Y.keys.flatMap RKey.cells) ∧ (Value.slice a Y.keys.length cap).ownBlock ≠ some b := by
  obtain ⟨h8, vA, vK, vS, vO, vN, hO⟩ := h
  obtain ⟨v, hv, ho, _⟩ := hO.row 1 rfl
  have hn := hO.apart 1 rfl hv
  obtain ⟨a, cap, rfl, _, _⟩ := ownsRow_view ho
  exact ⟨a, cap, by rw [hO.cell]; exact hv, ho, hn⟩
/-- One more of the seen. -/
theorem rin_appSeen {w w1 : World} {v v' : Value} {o : Obj} (h : RIn w F b Y) (hv : w.cell? ⟨b, 5, none⟩ = some v) (k : Kept (fun q => v.ownBlock = some q) (w.alloc o) w1) (K : Int) (ho : w1.ownsRow 0 3 1 v' (Y.seen.length + 1) (Y.seen.flatMap one ++ one K)) (P : v'.ownBlock = v.ownBlock ∨ v'.ownBlock = some (w.alloc o).heap.size) :
    RIn (w1.setCell ⟨b, 5, none⟩ v') (grow F w (w1.setCell ⟨b, 5, none⟩ v')) b { Y with seen := Y.seen ++ [K] } ∧ Kept F w (w1.setCell ⟨b, 5, none⟩ v') := by
  obtain ⟨h8, vA, vK, vS, vO, vN, hO⟩ := h
  obtain rfl : vS = v := Option.some.inj ((hO.cell 5).symm.trans hv)
  obtain ⟨q1, q2⟩ := hO.appended (Low.refl _ w) 2 rfl rfl k ho P (Y.offs 2 rfl)
  exact ⟨⟨h8, vA, vK, v', vO, vN, q1.cast rfl (by simp [RS.rows])⟩, q2⟩
theorem rin_rowSeen {w : World} (h : RIn w F b Y) : ∃ a cap, w.cell? ⟨b, 5, none⟩ = some (.slice a Y.seen.length cap) ∧ w.ownsRow 0 3 1 (.slice a Y.seen.length cap) Y.seen.length (Y.seen.flatMap one) ∧ (Value.slice a Y.seen.length cap).ownBlock ≠ some b := by
  obtain ⟨h8, vA, vK, vS, vO, vN, hO⟩ := h
  obtain ⟨v, hv, ho, _⟩ := hO.row 2 rfl
  have hn := hO.apart 2 rfl hv
  obtain ⟨a, cap, rfl, _, _⟩ := ownsRow_view ho
  exact ⟨a, cap, by rw [hO.cell]; exact hv, ho, hn⟩
/-- One more of the ops. -/
theorem rin_appOp {w w1 : World} {v v' : Value} {o : Obj} (h : RIn w F b Y) (hv : w.cell? ⟨b, 6, none⟩ = some v) (k : Kept (fun q => v.ownBlock = some q) (w.alloc o) w1) (K : RUnd) (ho : w1.ownsRow 0 77 9 v' (Y.ops.length + 1) (Y.ops.flatMap RUnd.cells ++ RUnd.cells K)) (P : v'.ownBlock = v.ownBlock ∨ v'.ownBlock = some (w.alloc o).heap.size) :
    RIn (w1.setCell ⟨b, 6, none⟩ v') (grow F w (w1.setCell ⟨b, 6, none⟩ v')) b { Y with ops := Y.ops ++ [K] } ∧ Kept F w (w1.setCell ⟨b, 6, none⟩ v') := by
  obtain ⟨h8, vA, vK, vS, vO, vN, hO⟩ := h
  obtain rfl : vO = v := Option.some.inj ((hO.cell 6).symm.trans hv)
  obtain ⟨q1, q2⟩ := hO.appended (Low.refl _ w) 3 rfl rfl k ho P (Y.offs 3 rfl)
  exact ⟨⟨h8, vA, vK, vS, v', vN, q1.cast rfl (by simp [RS.rows])⟩, q2⟩
theorem rin_rowOp {w : World} (h : RIn w F b Y) : ∃ a cap, w.cell? ⟨b, 6, none⟩ = some (.slice a Y.ops.length cap) ∧ w.ownsRow 0 77 9 (.slice a Y.ops.length cap) Y.ops.length (Y.ops.flatMap RUnd.cells) ∧ (Value.slice a Y.ops.length cap).ownBlock ≠ some b := by
  obtain ⟨h8, vA, vK, vS, vO, vN, hO⟩ := h
  obtain ⟨v, hv, ho, _⟩ := hO.row 3 rfl
  have hn := hO.apart 3 rfl hv
  obtain ⟨a, cap, rfl, _, _⟩ := ownsRow_view ho
  exact ⟨a, cap, by rw [hO.cell]; exact hv, ho, hn⟩
/-- Behind an append the struct is as it was. -/
theorem kept_cell {w w1 : World} {v u : Value} {o : Obj} {b i : Nat} (k : Kept (fun q => v.ownBlock = some q) (w.alloc o) w1) (hb : b < w.heap.size) (hn : v.ownBlock ≠ some b) (hc : w.cell? ⟨b, i, none⟩ = some u) : w1.cell? ⟨b, i, none⟩ = some u :=
  Kept.cell k ((World.cell?_alloc_lt w _ _ hb).trans hc) hn
theorem kept_frozen {w w1 : World} {v : Value} {o : Obj} {b i : Nat} (k : Kept (fun q => v.ownBlock = some q) (w.alloc o) w1) (hb : b < w.heap.size) (hn : v.ownBlock ≠ some b) (hf : w.frozen? ⟨b, i, none⟩ = false) : w1.frozen? ⟨b, i, none⟩ = false :=
  (Kept.frozen k (by simp; omega) hn).trans ((World.frozen?_alloc_past _ _ _ hb).trans hf)
def RS.first (servers room : Int) (key : ByteArray) : RS := ⟨servers, room, key, [], [], [], [], 1, 0, 0, 0, [0, 0, 0, 0, 0, 0, 0, 0], []⟩
theorem rin_first (w : World) (servers room : Int) (key : ByteArray) :
    RIn (w.alloc (.cells ((RS.first servers room key).cells (.slice none 0 0) (.slice none 0 0) (.slice none 0 0) (.slice none 0 0) (.slice none 0 0)).toArray 73)) (fun k => w.heap.size ≤ k ∧ k < w.heap.size + 1) w.heap.size (RS.first servers room key) := by
  refine ⟨rfl, _, _, _, _, _, Blk.new w 73 _, ⟨Nat.le_refl _, by omega⟩, fun k hk => by simpa using hk.2, fun _ => 0, rfl, fun j r hj => ?_⟩
  have : j = 0 ∨ j = 1 ∨ j = 2 ∨ j = 3 ∨ j = 4 ∨ 5 ≤ j := by omega
  rcases this with rfl | rfl | rfl | rfl | rfl | h5
  · obtain rfl := (Option.some.inj hj).symm
    exact ⟨.slice none 0 0, rfl, World.ownsRow_nil _ _ _ _, fun k hk => by cases hk⟩
  · obtain rfl := (Option.some.inj hj).symm
    exact ⟨.slice none 0 0, rfl, World.ownsRow_nil _ _ _ _, fun k hk => by cases hk⟩
  · obtain rfl := (Option.some.inj hj).symm
    exact ⟨.slice none 0 0, rfl, World.ownsRow_nil _ _ _ _, fun k hk => by cases hk⟩
  · obtain rfl := (Option.some.inj hj).symm
    exact ⟨.slice none 0 0, rfl, World.ownsRow_nil _ _ _ _, fun k hk => by cases hk⟩
  · obtain rfl := (Option.some.inj hj).symm
    exact ⟨.slice none 0 0, rfl, World.ownsRow_nil _ _ _ _, fun k hk => by cases hk⟩
  · rw [List.getElem?_eq_none (by simpa [RS.rows] using h5)] at hj
    cases hj
def RKey.one1 (key : ByteArray) : RKey := ⟨key, 1, 1, false⟩
def RS.upTo (servers room : Int) (key : ByteArray) (i : Nat) : RS := { RS.first servers room key with keys := [RKey.one1 key], seen := List.replicate i 0, ops := List.replicate i RUnd.zero }
def RS.new (servers room : Int) (key : ByteArray) : RS := { RS.upTo servers room key servers.toNat with node := [-1, -1, -1, -1, -1, -1, -1, -1] }
def cfgOk (servers room : Int) (key : ByteArray) : Bool := decide (1 ≤ servers ∧ servers ≤ 4 ∧ 1 ≤ room ∧ room ≤ 60) && (key.size == 48)
set_option maxRecDepth 100000 in
set_option maxHeartbeats 1000000 in
theorem New_no (w : World) (servers room : Int) (key : ByteArray) (h : cfgOk servers room key = false) :
    Calls Tryz.prog 14 #[.agg #[.int .i64 servers, .int .i64 room, .string key]] w fun e w' => e = .returned (.tuple #[.pointer none, .int .i64 1]) ∧ Low w.heap.size w w' := by
  have HH := hid h
  clear h
  cases hz : ((key.size : Int) != 48)
  · have hk2 : key.size = 48 := by have := bne_eq_false_iff_eq.1 hz; omega
    have hq : ¬ (1 ≤ servers ∧ servers ≤ 4 ∧ 1 ≤ room ∧ room ≤ 60) := by
      intro hh
      have q := HH.out
      simp [cfgOk, hk2, hh] at q
    have HQ := hid hq
    clear hq hk2
    go_enter Tryz.func14, Tryz.ntmps14
    go_upto_region 3 with fail
    all_goals first | (go_ret2; exact ⟨rfl, (Low.refl _ w).alloc (Nat.le_refl _) _⟩) | (exfalso; have q := HQ.out; omega)
  · go_enter Tryz.func14, Tryz.ntmps14
    go_upto_region 3 with fail
    all_goals go_ret2
    all_goals exact ⟨rfl, (Low.refl _ w).alloc (Nat.le_refl _) _⟩
theorem rin_node {w : World} (h : RIn w F b Y) (p : Nat) (x : Int) (hx : Y.node[p]? = some x) : w.cell? ⟨b, 11 + p, none⟩ = some (.int .i64 x) := by
  obtain ⟨h8, vA, vK, vS, vO, vN, hO⟩ := h
  have hp : p < Y.node.length := (List.getElem?_eq_some_iff.1 hx).1
  rw [hO.cell, Nat.add_comm]
  show (Y.node.map (Value.int .i64) ++ [vN])[p]? = _
  rw [List.getElem?_append_left (by simpa using hp), List.getElem?_map, hx]
  rfl
theorem rin_setNode {w : World} (h : RIn w F b Y) (p : Nat) (hp : p < 8) (v : Int) : RIn (w.setCell ⟨b, 11 + p, none⟩ (.int .i64 v)) F b { Y with node := Y.node.set p v } := by
  obtain ⟨h8, vA, vK, vS, vO, vN, hO⟩ := h
  refine ⟨by simpa using h8, vA, vK, vS, vO, vN, (hO.set (11 + p) (.int .i64 v) (by simp [RS.rows]; omega)).cast ?_ rfl⟩
  have e : (Y.node.map (Value.int .i64) ++ [vN]).set p (.int .i64 v) = (Y.node.set p v).map (Value.int .i64) ++ [vN] := by
    rw [List.set_append_left _ _ (by simp; omega), List.map_set]
  rw [Nat.add_comm]
  show _ :: _ :: _ :: _ :: _ :: _ :: _ :: _ :: _ :: _ :: _ :: ((Y.node.map (Value.int .i64) ++ [vN]).set p (.int .i64 v)) = _
  rw [e]
  rfl
def cfgL (servers room : Int) (key : ByteArray) : List Value := [.int .i64 servers, .int .i64 room, .string key]
set_option maxRecDepth 100000 in
set_option maxHeartbeats 1000000 in
theorem New_yes (w : World) (servers room : Int) (key : ByteArray) (h : cfgOk servers room key = true) :
    Calls Tryz.prog 14 #[.agg #[.int .i64 servers, .int .i64 room, .string key]] w fun e w' => e = .returned (.tuple #[.pointer (some ⟨w.heap.size + 1, 0, none⟩), .int .i64 0]) ∧ RIn w' (fun k => w.heap.size + 1 ≤ k ∧ k < w'.heap.size) (w.heap.size + 1) (RS.new servers room key) ∧ Low w.heap.size w w' := by
  simp only [cfgOk, Bool.and_eq_true, decide_eq_true_eq, beq_iff_eq] at h
  obtain ⟨⟨s1, s2, r1, r2⟩, hk⟩ := h
  have hz : ((key.size : Int) != 48) = false := by rw [bne_eq_false_iff_eq]; omega
  have HK := hid hk
  clear hk
  go_enter Tryz.func14, Tryz.ntmps14
  go_upto_region 4 with fail
  go_name_world W hW
  have hR : RIn W (fun k => w.heap.size + 1 ≤ k ∧ k < w.heap.size + 1 + 1) (w.heap.size + 1) (RS.first servers room key) := by
    have q := rin_first (w.alloc (.cells (cfgL servers room key).toArray 23)) servers room key
    rw [World.size_alloc] at q
    rw [← hW]; exact q
  have hB : Blk W w.heap.size 23 (cfgL servers room key) := by rw [← hW]; exact (Blk.new w 23 (cfgL servers room key)).alloc _
  have hL : Low w.heap.size w W := by rw [← hW]; exact ((Low.refl _ w).alloc (Nat.le_refl _) _).alloc (by simp) _
  have hS : W.heap.size = w.heap.size + 1 + 1 := by rw [← hW]; simp
  obtain ⟨a4, cap4, c4, o4, n4⟩ := rin_rowKey hR
  have c4 : W.cell? ⟨w.heap.size + 1, 4, none⟩ = some (.slice a4 0 cap4) := c4
  have f4 := hR.frozen 4
  have n2 : W.cell? ⟨w.heap.size, 2, none⟩ = some (.string key) := hB.cell 2
  have lb := hR.lt
  have HO4 : Hid (W.ownsRow 0 75 4 (.slice a4 0 cap4) 0 []) := o4
  have HN4 : Hid ((Value.slice a4 0 cap4).ownBlock ≠ some (w.heap.size + 1)) := n4
  have C4 := hid c4
  have F4 := hid f4
  have HR := hid hR
  have HB := hid hB
  have HL := hid hL
  have HS := hid hS
  have LB := hid lb
  clear hW hR hB hL hS o4 n4
  go_cut [] (fun wc => Hid (RIn wc (fun k => w.heap.size + 1 ≤ k ∧ k < wc.heap.size) (w.heap.size + 1) (RS.upTo servers room key 0) ∧ Low w.heap.size w wc ∧ Blk wc w.heap.size 23 (cfgL servers room key)))
  case first =>
    go_region_law ((refine step_append_mine _ rfl (.tmp 38) (.tmp 42) 67 rfl 75 _ 4 40 Tryz.underlying67 info70 rfl (by omega) (.slice a4 0 cap4) 0 [] ?_ ?_ ⟨W.heap.size, 0, none⟩ 1 1 (RKey.one1 key).cells ?_ rfl ?_ (RKey.one _) ⟨by omega, by omega⟩ ?_; rfl; exact (World.ownsRow.alloc (w := W) HO4.out _); rfl; exact (news_new W (RKey.one1 key).cells 75); intro v' w1 o1 k1 p1; obtain ⟨a', cap', rfl, _, _⟩ := ownsRow_view o1; have O1 := hid o1; have K1 := hid k1.of_drew; have P1 := hid p1; have c4w := kept_cell K1.out LB.out HN4.out C4.out; have f4w := kept_frozen K1.out LB.out HN4.out F4.out; clear o1 k1 p1))
    all_goals
      go_wp2_with fail
      go_meet
      obtain ⟨q1, q2⟩ := rin_appKey HR.out C4.out K1.out (RKey.one1 key) O1.out P1.out
      simp only [Nat.zero_add] at q1 q2
      have hsz := HS.out
      refine ⟨RIn.more q1 (fun k hk => ?_) (fun k hk => hk.2), ?_, ?_⟩
      · rcases hk with hk | hk
        · exact ⟨hk.1, by have := q2.size; omega⟩
        · exact ⟨by omega, hk.2⟩
      · exact ⟨q2.os.trans HL.out.os, q2.output.trans HL.out.output, Nat.le_trans HL.out.size q2.size, fun k hk => (q2.block k (by omega) (by omega)).trans (HL.out.block k hk)⟩
      · exact HB.out.kept q2 (by omega)
  case rest =>
    obtain ⟨m, hm⟩ : ∃ m : Nat, servers = (m : Int) := ⟨servers.toNat, by omega⟩
    subst hm
    clear c4 f4 n2 lb HO4 HN4 C4 F4 HR HB HL HS LB
    generalize hw0 : w.heap.size = N at *
    go_wp2_with fail
    go_loopw [5] (fun iv wr => ∃ i : Nat, i ≤ m ∧ iv = .int .i64 (i : Int) ∧ Hid (RIn wr (fun k => N + 1 ≤ k ∧ k < wr.heap.size) (N + 1) (RS.upTo m room key i) ∧ Low N w wr ∧ Blk wr N 23 (cfgL m room key))) (fun iv _ => m - (intOf iv).toNat)
    case atStart => exact ⟨0, Nat.zero_le _, rfl, hcut.out⟩
    case round =>
      obtain ⟨i, hi, rfl, HI⟩ := hrel
      have d0 : wr.cell? ⟨N, 0, none⟩ = some (.int .i64 (m : Int)) := HI.out.2.2.cell 0
      by_cases h1 : i < m
      · have q1 : decide ((i : Int) < (m : Int)) = true := by simp; omega
        obtain ⟨a5, cap5, c5, o5, n5⟩ := rin_rowSeen HI.out.1
        have hl5 : (RS.upTo m room key i).seen.length = i := by simp [RS.upTo]
        rw [hl5] at c5 o5 n5
        have f5 := HI.out.1.frozen 5
        have lb := HI.out.1.lt
        have O5 := hid o5
        have N5 := hid n5
        have C5 := hid c5
        have F5 := hid f5
        have LB := hid lb
        clear o5 n5
        go_upto_region 9 with (at_builtin; refine wpList_append_mine _ rfl (.tmp 56) (.tmp 57) 68 rfl 3 _ 1 8 Tryz.underlying68 info3 rfl (by omega) (.slice a5 i cap5) i _ rfl (O5.out.alloc _) ⟨wr.heap.size, 0, none⟩ 1 1 (one 0) rfl rfl (by exact news_new wr (one 0) 3) (by simp [one, Value.oneCell']) ⟨by omega, by omega⟩ ?_; intro v' w1 o1 k1 p1; obtain ⟨a', cap', rfl, _, _⟩ := ownsRow_view o1; have O1 := hid o1; have K1 := hid k1; have P1 := hid p1; have c5w := kept_cell k1 LB.out N5.out C5.out; have f5w := kept_frozen k1 LB.out N5.out F5.out; clear o1 k1 p1)
        go_name_world W2 hW2
        obtain ⟨r1, k1⟩ := rin_appSeen HI.out.1 C5.out K1.out 0 (by rw [hl5]; exact O1.out) P1.out
        rw [hW2] at r1 k1
        have hs1 := K1.out.size
        have r2 : RIn W2 (fun k => N + 1 ≤ k ∧ k < W2.heap.size) (N + 1) { RS.upTo m room key i with seen := (RS.upTo m room key i).seen ++ [0] } := RIn.more r1 (fun k hk => by
          have := k1.size
          rcases hk with hk | hk
          · exact ⟨hk.1, by omega⟩
          · exact ⟨by have := HI.out.1.lt; omega, hk.2⟩) (fun k hk => hk.2)
        have k2 : Low N w W2 := ⟨k1.os.trans HI.out.2.1.os, k1.output.trans HI.out.2.1.output, Nat.le_trans HI.out.2.1.size k1.size, fun k hk => (k1.block k (by have := HI.out.1.lt; omega) (by omega)).trans (HI.out.2.1.block k hk)⟩
        have b2 : Blk W2 N 23 (cfgL m room key) := HI.out.2.2.kept k1 (by omega)
        have HR2 := hid r2
        have HK2 := hid k2
        have HB2 := hid b2
        obtain ⟨a6, cap6, c6x, o6x, n6x⟩ := rin_rowOp r2
        have hl6 : (RS.upTo m room key i).ops.length = i := by simp [RS.upTo]
        have c6 : W2.cell? ⟨N + 1, 6, none⟩ = some (.slice a6 (RS.upTo m room key i).ops.length cap6) := c6x
        have o6 : W2.ownsRow 0 77 9 (.slice a6 (RS.upTo m room key i).ops.length cap6) (RS.upTo m room key i).ops.length ((RS.upTo m room key i).ops.flatMap RUnd.cells) := o6x
        have n6 : (Value.slice a6 (RS.upTo m room key i).ops.length cap6).ownBlock ≠ some (N + 1) := n6x
        clear c6x o6x n6x
        rw [hl6] at c6 o6 n6
        have f6 := r2.frozen 6
        have lb2 := r2.lt
        have O6 := hid o6
        have N6 := hid n6
        have C6 := hid c6
        have F6 := hid f6
        have LB2 := hid lb2
        have HL6 := hid hl6
        clear r1 k1 r2 k2 b2 o6 n6 hW2 c5 f5 lb hl5 O5 N5 C5 F5 LB c5w f5w O1 K1 P1 hs1 d0 hl6
        go_wp2_with (at_builtin; refine wpList_append_mine _ rfl (.tmp 65) (.tmp 67) 69 rfl 77 _ 9 88 Tryz.underlying69 info72 rfl (by omega) (.slice a6 i cap6) i _ rfl (O6.out.alloc _) ⟨W2.heap.size, 0, none⟩ 1 1 RUnd.zero.cells rfl rfl (by exact news_new W2 RUnd.zero.cells 77) (RUnd.one _) ⟨by omega, by omega⟩ ?_; intro v' w1 o1 k1 p1; obtain ⟨a', cap', rfl, _, _⟩ := ownsRow_view o1; have O1 := hid o1; have K1 := hid k1; have P1 := hid p1; have c6w := kept_cell k1 LB2.out N6.out C6.out; have f6w := kept_frozen k1 LB2.out N6.out F6.out; clear o1 k1 p1)
        go_roundw
        case rel =>
          obtain ⟨r1, k1⟩ := rin_appOp HR2.out C6.out K1.out RUnd.zero (v' := .slice a' (i + 1) cap') (by show World.ownsRow _ 0 77 9 _ ((RS.upTo m room key i).ops.length + 1) _; rw [HL6.out]; exact O1.out) P1.out
          have hs1 := K1.out.size
          refine ⟨i + 1, by omega, by simp, ?_, ?_, ?_⟩
          · have e : ({ RS.upTo m room key i with seen := (RS.upTo m room key i).seen ++ [0], ops := (RS.upTo m room key i).ops ++ [RUnd.zero] } : RS) = RS.upTo m room key (i + 1) := by
              simp [RS.upTo, List.replicate_succ']
            rw [← e]
            exact RIn.more r1 (fun k hk => by
              have := k1.size
              rcases hk with hk | hk
              · exact ⟨hk.1, by omega⟩
              · exact ⟨by have := HR2.out.lt; omega, hk.2⟩) (fun k hk => hk.2)
          · exact ⟨k1.os.trans HK2.out.os, k1.output.trans HK2.out.output, Nat.le_trans HK2.out.size k1.size, fun k hk => (k1.block k (by have := HR2.out.lt; omega) (by omega)).trans (HK2.out.block k hk)⟩
          · exact HB2.out.kept k1 (by omega)
        case measure => simp [intOf]; omega
      · have q1 : decide ((i : Int) < (m : Int)) = false := by simp; omega
        obtain rfl : i = m := by omega
        go_wp2_with fail
        clear d0
        go_loopw [6] (fun pv wx => ∃ p : Nat, p ≤ 8 ∧ pv = .int .i64 (p : Int) ∧ Hid (RIn wx (fun k => N + 1 ≤ k ∧ k < wx.heap.size) (N + 1) { RS.upTo i room key i with node := List.replicate p (-1) ++ List.replicate (8 - p) 0 } ∧ Low N w wx)) (fun pv _ => 8 - (intOf pv).toNat)
        case atStart => exact ⟨0, by omega, rfl, HI.out.1, HI.out.2.1⟩
        case round =>
          obtain ⟨p, hp, rfl, HP⟩ := hrel
          by_cases h2 : p < 8
          · have q2 : decide ((p : Int) < 8) = true := by simp; omega
            have np := rin_node HP.out.1 p 0 (by
              show (List.replicate p (-1) ++ List.replicate (8 - p) (0 : Int))[p]? = some 0
              rw [List.getElem?_append_right (by simp), List.length_replicate, Nat.sub_self, List.getElem?_replicate, if_pos (by omega)])
            have fp := HP.out.1.frozen (11 + p)
            have R1 := hid (rin_setNode HP.out.1 p h2 (-1))
            go_wp2_with fail
            go_roundw
            case rel =>
              refine ⟨p + 1, by omega, by simp, ?_, HP.out.2.setCell (by show N ≤ N + 1; omega) _⟩
              have e : (List.replicate p (-1) ++ List.replicate (8 - p) (0 : Int)).set p (-1) = List.replicate (p + 1) (-1) ++ List.replicate (8 - (p + 1)) 0 := by
                rw [List.set_append_right _ _ (by simp), List.length_replicate, Nat.sub_self, show 8 - p = (8 - (p + 1)) + 1 by omega, List.replicate_succ (n := 8 - (p + 1))]
                rw [List.set_cons_zero, List.replicate_succ', List.append_assoc]
                rfl
              have r := R1.out
              rw [show ({ RS.upTo i room key i with node := List.replicate p (-1) ++ List.replicate (8 - p) 0 } : RS).node.set p (-1) = List.replicate (p + 1) (-1) ++ List.replicate (8 - (p + 1)) 0 from e] at r
              exact RIn.more r (fun k hk => ⟨hk.1, by simpa using hk.2⟩) (fun k hk => hk.2)
            case measure => simp [intOf]; omega
          · have q2 : decide ((p : Int) < 8) = false := by simp; omega
            obtain rfl : p = 8 := by omega
            go_wp2_with fail
            go_ret2
            exact ⟨rfl, HP.out.1, HP.out.2⟩
end Go.Proofs.YtphapknfkbgapaaGreatDoor
namespace Go.Proofs.YtphapknfkbgapaaGreatDoor
open Go.RowKit

theorem marks_step (i : Nat) (k : Int) (l : List Ent) (h : i < l.length) : (marks i k ++ l.drop i).set i (markE k) = marks (i + 1) k ++ l.drop (i + 1) := by
  have hm : (marks i k).length = i := by simp [marks]
  rw [List.drop_eq_getElem_cons h, List.set_append_right _ _ (by omega), hm, Nat.sub_self, List.set_cons_zero]
  have : marks (i + 1) k = marks i k ++ [markE k] := by simp [marks, List.replicate_succ']
  rw [this, List.append_assoc]
  rfl
theorem marks_len (n : Nat) (k : Int) : (marks n k).length = n := by simp [marks]
theorem marks_snoc (n : Nat) (k : Int) : marks (n + 1) k = marks n k ++ [markE k] := by simp [marks, List.replicate_succ']
theorem out_append {w w' : World} {H : Nat → Prop} {o : LOut} {v : Value} {m : Nat} {k : Int} (h : OutOk w H o) (hs : (∀ g, H g → v.ownBlock ≠ some g) ∨ (o.mark = k ∧ lenOf o.l ≤ m)) (ho : w'.ownsRow 0 50 6 v m ((marks m k).flatMap Ent.cells)) (k0 : 0 ≤ k) (k1 : k ≤ 1000000000) (hm : m ≤ 1000000)
    (K : Kept (fun q => v.ownBlock = some q) w w') : OutOk w' H o := by
  obtain ⟨m0, m1, a, n, cap, hl, hn, hg⟩ := h
  refine ⟨m0, m1, a, n, cap, hl, hn, fun h0 => ?_⟩
  obtain ⟨g, ha, hH, hlt, hr⟩ := hg h0
  refine ⟨g, ha, hH, Nat.lt_of_lt_of_le hlt K.size, fun j hj q u hu => ?_⟩
  by_cases e : v.ownBlock = some g
  · rcases hs with hs | hs
    · exact absurd e (hs g hH)
    · obtain ⟨_, _, a2, n2, cap2, hl2, _, hg2⟩ := out_marks (H := fun _ => True) ho (fun _ _ => trivial) k0 k1 hm
      have hnm : n ≤ m := by have := hs.2; rw [hl] at this; exact this
      have hl3 : v = .slice a2 n2 cap2 := hl2
      have hn2 : n2 = m := by
        obtain ⟨a3, cap3, e3, _⟩ := ownsRow_view ho
        rw [hl3] at e3
        injection e3
      obtain ⟨g2, ha2, _, _, hr2⟩ := hg2 (by omega)
      have hgg : g2 = g := by
        rw [hl3, ha2] at e
        exact Option.some.inj e
      subst hgg
      rw [hs.1] at hu
      exact hr2 j (by omega) q u hu
  · exact K.cell (hr j hj q u hu) e
/-- How far the caller's writing is. -/
def OwnSt (w : World) (F H : Nat → Prop) (b bx r : Nat) (outs : List LOut) (v0 : Value) (kk : Int) (V : World) (v : Value) (m : Nat) (os : List LOut) : Prop :=
  ∃ F1 H1 : Nat → Prop, WIn V F1 b bx r os ∧ (∀ o ∈ os, OutOk V H1 o ∧ ((o ∈ outs ∧ OutOk V H o) ∨ (o.mark = kk ∧ lenOf o.l ≤ m))) ∧ (∀ g, H1 g → ¬ F1 g) ∧ (∀ q, F1 q → F q ∨ w.heap.size ≤ q) ∧ (∀ q, H1 q → H q ∨ v0.ownBlock = some q ∨ w.heap.size ≤ q) ∧ (∀ q, H1 q → q < V.heap.size) ∧
    Kept (fun q => F q ∨ v0.ownBlock = some q) w V ∧ V.ownsRow 0 50 6 v m ((marks m kk).flatMap Ent.cells) ∧ (∀ g, v.ownBlock = some g → H1 g ∧ ¬ H g) ∧ (∀ g, H g → H1 g)
theorem st_low {w : World} {F H : Nat → Prop} {b bx r : Nat} {outs os : List LOut} {v0 v : Value} {kk : Int} {V V2 : World} {m : Nat} (h : OwnSt w F H b bx r outs v0 kk V v m os) (k : Low V.heap.size V V2) : OwnSt w F H b bx r outs v0 kk V2 v m os := by
  obtain ⟨F1, H1, a1, a2, a3, a4, a5, a6, a7, a8, a9, a10⟩ := h
  exact ⟨F1, H1, win_low a1 k, fun o ho => ⟨out_low (a2 o ho).1 k, (a2 o ho).2.imp (fun x => ⟨x.1, out_low x.2 k⟩) id⟩, a3, a4, a5, fun q hq => Nat.lt_of_lt_of_le (a6 q hq) k.size, a7.trans k.kept (fun _ f => f) (fun _ _ f => f.elim), ownsRow_at a8 (fun q hq => k.block q (a8.lt q hq).2), a9, a10⟩
theorem st_append {w : World} {F H : Nat → Prop} {b bx r : Nat} {outs os : List LOut} {v0 v v' : Value} {kk : Int} {V V2 : World} {m : Nat} {ob : Obj} (h : OwnSt w F H b bx r outs v0 kk V v m os) (hH : ∀ g, H g → g < w.heap.size) (k0 : 0 ≤ kk) (k1 : kk ≤ 1000000000) (hm : m ≤ 1000)
    (K : Kept (fun q => v.ownBlock = some q) (V.alloc ob) V2) (ho : V2.ownsRow 0 50 6 v' (m + 1) ((marks m kk).flatMap Ent.cells ++ (markE kk).cells)) (P : v'.ownBlock = v.ownBlock ∨ v'.ownBlock = some (V.alloc ob).heap.size) (hold : V2.ownsRow 0 50 6 v m ((marks m kk).flatMap Ent.cells)) :
    OwnSt w F H b bx r outs v0 kk V2 v' (m + 1) os := by
  obtain ⟨F1, H1, a1, a2, a3, a4, a5, a6, a7, a8, a9, a10⟩ := st_low h ((Low.refl _ V).alloc (Nat.le_refl _) ob)
  have hF1 : ∀ q, F1 q → q < (V.alloc ob).heap.size := by
    obtain ⟨u, hO⟩ := a1
    exact hO.below
  have hsz := a7.size
  have hnew : ∀ g, v'.ownBlock = some g → v.ownBlock = some g ∨ (V.alloc ob).heap.size ≤ g := fun g e => by
    rcases P with q | q
    · exact Or.inl (by rw [← q]; exact e)
    · rw [q] at e; exact Or.inr (Nat.le_of_eq (Option.some.inj e))
  refine ⟨F1, fun g => H1 g ∨ v'.ownBlock = some g, ?_, fun o hom => ?_, fun g hg => ?_, a4, fun q hq => ?_, fun q hq => ?_, ?_, ?_, fun g e => ⟨Or.inr e, ?_⟩, fun g e => Or.inl (a10 g e)⟩
  · obtain ⟨u, hO⟩ := a1
    exact ⟨u, hO.kept K (fun q hq e => a3 q (a9 q e).1 hq)⟩
  · obtain ⟨b1, b2⟩ := a2 o hom
    rcases b2 with b2 | b2
    · have q : OutOk V2 H o := out_append b2.2 (Or.inl (fun g hg e => (a9 g e).2 hg)) hold k0 k1 (by omega) K
      exact ⟨out_more q (fun g hg => Or.inl (a10 g hg)), Or.inl ⟨b2.1, q⟩⟩
    · have q : OutOk V2 H1 o := out_append b1 (Or.inr b2) hold k0 k1 (by omega) K
      exact ⟨out_more q (fun g hg => Or.inl hg), Or.inr ⟨b2.1, by omega⟩⟩
  · rcases hg with hg | hg
    · exact a3 g hg
    · rcases hnew g hg with e | e
      · exact a3 g (a9 g e).1
      · intro f; have := hF1 g f; omega
  · rcases hq with hq | hq
    · exact a5 q hq
    · rcases hnew q hq with e | e
      · exact a5 q (a9 q e).1
      · exact Or.inr (Or.inr (by omega))
  · rcases hq with hq | hq
    · exact Nat.lt_of_lt_of_le (a6 q hq) K.size
    · exact (ho.lt q hq).2
  · refine a7.trans K (fun _ f => f) (fun q hq e => ?_)
    rcases a5 q (a9 q e).1 with x | x | x
    · exact absurd x (a9 q e).2
    · exact Or.inr x
    · omega
  · rw [marks_snoc, flat_snoc]; exact ho
  · rcases hnew g e with x | x
    · exact (a9 g x).2
    · intro f; have := hH g f; omega
theorem st_tell {w : World} {F H : Nat → Prop} {b bx r : Nat} {outs os : List LOut} {v0 v u u' : Value} {kk : Int} {V V2 : World} {m : Nat} {ob : Obj} (h : OwnSt w F H b bx r outs v0 kk V v m os) (k0 : 0 ≤ kk) (k1 : kk ≤ 1000000000) (hm : m ≤ 1000)
    (hu : V.cell? ⟨b, 2, none⟩ = some u) (K : Kept (fun q => u.ownBlock = some q) (V.alloc ob) V2) (ho : V2.ownsRow 0 48 2 u' (os.length + 1) (os.flatMap LOut.cells ++ (LOut.mk v kk).cells)) (P : u'.ownBlock = u.ownBlock ∨ u'.ownBlock = some (V.alloc ob).heap.size) :
    OwnSt w F H b bx r outs v0 kk (V2.setCell ⟨b, 2, none⟩ u') v m (os ++ [⟨v, kk⟩]) := by
  obtain ⟨F1, H1, a1, a2, a3, a4, a5, a6, a7, a8, a9, a10⟩ := h
  obtain ⟨w2, k2, p2⟩ := win_app a1 hu K ⟨v, kk⟩ ho P
  have hsz := a7.size
  have hlen : ∃ a cap, v = .slice a m cap := by
    obtain ⟨a, cap, e, _⟩ := ownsRow_view a8
    exact ⟨a, cap, e⟩
  have h8 : (V2.setCell ⟨b, 2, none⟩ u').ownsRow 0 50 6 v m ((marks m kk).flatMap Ent.cells) := ownsRow_at a8 (fun q hq => k2.block q (a8.lt q hq).2 (a3 q (a9 q hq).1))
  refine ⟨_, H1, w2, fun o hom => ?_, fun g hg hf => ?_, fun q hq => ?_, a5, fun q hq => Nat.lt_of_lt_of_le (a6 q hq) k2.size, ?_, h8, a9, a10⟩
  · rcases List.mem_append.1 hom with hom | hom
    · obtain ⟨b1, b2⟩ := a2 o hom
      exact ⟨out_kept b1 k2 a3, b2.imp (fun x => ⟨x.1, out_kept x.2 k2 (fun g hg => a3 g (a10 g hg))⟩) id⟩
    · obtain rfl : o = ⟨v, kk⟩ := by simpa using hom
      refine ⟨out_marks h8 (fun g e => (a9 g e).1) k0 k1 (by omega), Or.inr ⟨rfl, ?_⟩⟩
      obtain ⟨a, cap, rfl⟩ := hlen
      exact Nat.le_refl _
  · rcases hf with hf | hf
    · exact a3 g hg hf
    · rcases p2 g hf with x | x
      · exact a3 g hg x
      · have := a6 g hg; omega
  · rcases hq with hq | hq
    · exact a4 q hq
    · exact (p2 q hq).elim (a4 q) (fun e => Or.inr (Nat.le_trans hsz e))
  · refine a7.trans k2 (fun _ f => f) (fun q hq f => ?_)
    rcases a4 q f with x | x
    · exact Or.inl x
    · omega
/-- An element written whole, in a slice that is owned. -/
theorem own_elem50 {w : World} {g n cap : Nat} {l : List Ent} (h : w.ownsRow 0 50 6 (.slice (some ⟨g, 0, none⟩) n cap) n (l.flatMap Ent.cells)) (hn : n = l.length) (i : Nat) (hi : i < l.length) (e : Ent) :
    (w.setCells g (i * 6) e.cells).ownsRow 0 50 6 (.slice (some ⟨g, 0, none⟩) n cap) n ((l.set i e).flatMap Ent.cells) ∧ w.there g (i * 6) 6 := by
  have h2 := ownsRow_over e.cells (i * 6) h
  rw [flat_set 6 Ent.cells Ent.len l i e hi] at h2
  exact ⟨h2, ownsRow_there h (by omega)⟩
theorem stE50 {ops : Array Oper} {rest : List Oper} {d : Option Tmp} {t0 : TypeId} {pos : String} {after : Array Edge} {a : Act} {w : World} {Q : Exit → Act → World → Prop} (x y : Operand) (g o : Nat) (u : Ent)
    (hx : a.eval x = .pointer (some ⟨g, o, none⟩)) (hy : a.eval y = .agg u.cells.toArray) (ht : w.there g o 6)
    (h : wpList Tryz.prog ops Q rest (a.put d undef) (w.setCells g o u.cells)) :
    wpList Tryz.prog ops Q ({ dst := d, op := .store 50 x y, type := t0, pos := pos, after := after, guard := none } :: rest) a w :=
  stAny 50 x y g o u.cells hx hy ht (sz50 u) u.one h
set_option maxRecDepth 100000 in
set_option maxHeartbeats 2000000 in
theorem own_any (w : World) (F H : Nat → Prop) (b bx r : Nat) (outs : List LOut) (v : Value) (l : List Ent) (h : WIn w F b bx r outs) (ho : ∀ o ∈ outs, OutOk w H o) (hd : ∀ g, H g → ¬ F g) (hv : w.ownsRow 0 50 6 v l.length (l.flatMap Ent.cells))
    (hvF : ∀ g, v.ownBlock = some g → ¬ F g ∧ ¬ H g) (hH : ∀ g, H g → g < w.heap.size) (hl : l.length ≤ 100) (hn : outs.length ≤ 100000000) :
    Calls Tryz.prog 59 #[.pointer (some ⟨b, 0, none⟩), v] w fun e w' => e = .returned (.tuple #[]) ∧ ∃ outs' F' H', outs'.length = outs.length + 4 ∧ WIn w' F' b bx r outs' ∧ (∀ o ∈ outs', OutOk w' H' o) ∧ (∀ g, H' g → ¬ F' g) ∧
      (∀ q, F' q → F q ∨ w.heap.size ≤ q) ∧ (∀ q, H' q → H q ∨ v.ownBlock = some q ∨ w.heap.size ≤ q) ∧ (∀ q, H' q → q < w'.heap.size) ∧ Kept (fun q => F q ∨ v.ownBlock = some q) w w' := by
  obtain ⟨a2, cap2, c2, o2, n2, f2, F2⟩ := win_row h
  obtain ⟨a, cap, rfl, hnc, hgs⟩ := ownsRow_view hv
  have HW := hid h
  have HO := hid ho
  have HD := hid hd
  have HV := hid hv
  have HVF := hid hvF
  have HGS := hid hgs
  clear h ho hd hv hvF o2 n2 f2 F2 hgs
  go_enter Tryz.func59, Tryz.ntmps59
  go_wp2
  obtain ⟨kk, hkk⟩ : ∃ kk : Int, kk = (outs.length : Int) := ⟨_, rfl⟩
  rw [← hkk]
  go_loopg [5] l.length (fun left iv wr => ∃ i : Nat, left = l.length - i ∧ i ≤ l.length ∧ iv = .int .i64 (i : Int) ∧ Hid (Kept (fun q => (Value.slice a l.length cap).ownBlock = some q) w wr ∧ wr.ownsRow 0 50 6 (.slice a l.length cap) l.length ((marks i kk ++ l.drop i).flatMap Ent.cells)))
  case atStart => exact ⟨0, rfl, Nat.zero_le _, rfl, Kept.refl _ _, by simpa [marks] using HV.out⟩
  case round =>
    obtain ⟨i, hgk, hi, rfl, HI⟩ := hrel
    have HGK := hid hgk
    clear hgk
    by_cases h1 : i < l.length
    · have q1 : decide ((i : Int) < (l.length : Int)) = true := by simp; omega
      obtain ⟨g, rfl, _, _, _⟩ := HGS.out (by omega)
      have k0 : 0 ≤ kk := by omega
      have k1 : kk ≤ 1000000000 := by omega
      have hLl : (marks i kk ++ l.drop i).length = l.length := by rw [List.length_append, marks_len, List.length_drop]; omega
      have HLl := hid hLl
      have HK := hid hkk
      clear hkk hLl
      have i1 : (i : Int) < (l.length : Int) := by omega
      go_wp2_with (first | (go_at_call 20; refine (lmark_any _ _ k0 k1).mono ?_; rintro e y1 ⟨rfl, l1⟩; have o1 : y1.ownsRow 0 50 6 (.slice (some ⟨g, 0, none⟩) l.length cap) l.length ((marks i kk ++ l.drop i).flatMap Ent.cells) := ownsRow_at HI.out.2 (fun q hq => l1.block q (HI.out.2.lt q hq).2); have E1 := hid (own_elem50 o1 HLl.out.symm i (by rw [HLl.out]; exact h1) (markE kk)); have L1 := hid l1; clear l1 o1) | ((with_reducible refine stE50 (.tmp 22) (.tmp 21) g (i * 6) (markE kk) ?_ ?_ E1.out.2 ?_); rfl; rfl))
      go_roundg (l.length - (i + 1))
      case rel =>
        refine ⟨i + 1, rfl, by omega, by simp, ?_, ?_⟩
        · exact (HI.out.1.trans L1.out.kept (H := fun q => (Value.slice (some ⟨g, 0, none⟩) l.length cap).ownBlock = some q) (fun _ f => f) (fun _ _ f => f.elim)).trans (setCells_kept g _ _ y1) (fun _ f => f) (fun q _ (e : q = g) => by rw [e]; rfl)
        · have q := E1.out.1
          rw [marks_step i kk l h1] at q
          exact q
      case measure => have := HGK.out; omega
    · have q1 : decide ((i : Int) < (l.length : Int)) = false := by simp; omega
      obtain rfl : i = l.length := by omega
      have hd0 : marks l.length kk ++ l.drop l.length = marks l.length kk := by rw [List.drop_length, List.append_nil]
      rw [hd0] at HI
      have hW1 : WIn wr F b bx r outs := by
        obtain ⟨u, hO⟩ := HW.out
        exact ⟨u, hO.kept HI.out.1 (fun q hq e => (HVF.out q e).1 hq)⟩
      obtain ⟨a3, cap3, c3, o3, n3, f3, F3⟩ := win_row hW1
      have lb : b < wr.heap.size := by obtain ⟨u, hO⟩ := hW1; exact hO.lt
      have k0 : 0 ≤ kk := by omega
      have k1 : kk ≤ 1000000000 := by omega
      have C3 := hid c3
      have O3 := hid o3
      have N3 := hid n3
      have F3' := hid f3
      have LB := hid lb
      have HW1 := hid hW1
      have HKK := hid hkk
      clear o3 n3 F3 hW1 c2 hkk hd0
      go_upto_region 6 with (at_builtin; refine wpList_append_mine _ rfl (.tmp 27) (.tmp 31) 43 rfl 48 _ 2 32 Tryz.underlying43 info48 rfl (by omega) (.slice a3 outs.length cap3) outs.length _ rfl (O3.out.alloc _) ⟨wr.heap.size, 0, none⟩ 1 1 (LOut.mk (.slice a l.length cap) kk).cells rfl rfl (by exact news_new wr (LOut.mk (.slice a l.length cap) kk).cells 48) (by simp [LOut.cells, Value.oneCell']) ⟨by omega, by omega⟩ ?_; intro v' w1 o1 k1' p1; obtain ⟨a', cap', rfl, _, _⟩ := ownsRow_view o1; have O1 := hid o1; have K1 := hid k1'; have P1 := hid p1; have c3w := kept_cell k1' LB.out N3.out C3.out; have f3w := kept_frozen k1' LB.out N3.out F3'.out; clear o1 k1' p1)
      obtain ⟨w2, k2, p2⟩ := win_app HW1.out C3.out K1.out ⟨.slice a l.length cap, kk⟩ O1.out P1.out
      go_name_world V hV
      rw [hV] at w2 k2
      -- what holds of the lists from now on
      have base : Hid (OwnSt w F H b bx r outs (.slice a l.length cap) kk V (.slice a l.length cap) l.length (outs ++ [⟨.slice a l.length cap, kk⟩])) := by
        have hsz := HI.out.1.size
        have hvlt : ∀ g, (Value.slice a l.length cap).ownBlock = some g → g < w.heap.size := fun g e => (HV.out.lt g e).2
        have hoV : V.ownsRow 0 50 6 (.slice a l.length cap) l.length ((marks l.length kk).flatMap Ent.cells) := ownsRow_at HI.out.2 (fun q hq => k2.block q (HI.out.2.lt q hq).2 (HVF.out q hq).1)
        have hKV : Kept (fun q => F q ∨ (Value.slice a l.length cap).ownBlock = some q) w V := HI.out.1.trans k2 (fun _ e => Or.inr e) (fun _ _ f => Or.inl f)
        refine ⟨_, fun g => H g ∨ (Value.slice a l.length cap).ownBlock = some g, w2, fun o ho => ?_, fun g hg hf => ?_, fun q hq => ?_, fun q hq => hq.elim Or.inl (fun e => Or.inr (Or.inl e)), fun q hq => ?_, hKV, hoV, fun g e => ⟨Or.inr e, (HVF.out g e).2⟩, fun g e => Or.inl e⟩
        · rcases List.mem_append.1 ho with ho | ho
          · have h1 : OutOk wr H o := out_kept (HO.out o ho) HI.out.1 (fun g hg e => (HVF.out g e).2 hg)
            have h2 : OutOk V H o := out_kept h1 k2 (fun g hg => HD.out g hg)
            exact ⟨out_more h2 (fun g hg => Or.inl hg), Or.inl ⟨ho, h2⟩⟩
          · obtain rfl : o = ⟨.slice a l.length cap, kk⟩ := by simpa using ho
            exact ⟨out_marks hoV (fun g e => Or.inr e) k0 k1 (by omega), Or.inr ⟨rfl, Nat.le_refl _⟩⟩
        · rcases hf with hf | hf
          · rcases hg with hg | hg
            · exact HD.out g hg hf
            · exact (HVF.out g hg).1 hf
          · have hlt : g < w.heap.size := hg.elim (hH g) (hvlt g)
            rcases p2 g hf with h3 | h3
            · rcases hg with hg | hg
              · exact HD.out g hg h3
              · exact (HVF.out g hg).1 h3
            · omega
        · rcases hq with hq | hq
          · exact Or.inl hq
          · exact (p2 q hq).imp id (fun e => Nat.le_trans hsz e)
        · have h3 : q < w.heap.size := hq.elim (hH q) (hvlt q)
          exact Nat.lt_of_lt_of_le h3 hKV.size
      clear w2 k2 p2 hV O1 K1 P1 c3w f3w c3 f3 lb C3 O3 N3 F3' LB HW1 HI HGK HGS
      go_wp2_with fail
      go_loopg [1, 6] 3 (fun left lv iv wr => ∃ (j : Nat) (a1 : Option Addr) (cap1 : Nat) (os : List LOut), left = 3 - j ∧ j ≤ 3 ∧ lv = .slice a1 (l.length + j) cap1 ∧ iv = .int .i64 (j : Int) ∧ Hid (os.length = outs.length + 1 + j ∧ OwnSt w F H b bx r outs (.slice a l.length cap) kk wr (.slice a1 (l.length + j) cap1) (l.length + j) os))
      case atStart => exact ⟨0, a, cap, outs ++ [⟨.slice a l.length cap, kk⟩], rfl, by omega, rfl, rfl, by simp, base.out⟩
      case round =>
        obtain ⟨j, a1, cap1, os, hgk, hj, rfl, rfl, HJ⟩ := hrel
        have HGK := hid hgk
        clear hgk base
        by_cases h3 : j < 3
        · have q3 : decide ((j : Int) < 3) = true := by simp; omega
          go_upto_region 10 with (first | (go_at_call 20; refine (lmark_any _ _ k0 k1).mono ?_; rintro e y1 ⟨rfl, l1⟩; have S1 := hid (st_low HJ.out.2 l1); clear l1) | (at_builtin; refine wpList_append_both _ rfl (.tmp 39) (.tmp 42) 46 rfl 50 _ 6 64 Tryz.underlying46 info50 rfl (by omega) (.slice a1 (l.length + j) cap1) (l.length + j) ((marks (l.length + j) kk).flatMap Ent.cells) rfl (by obtain ⟨_, _, _, _, _, _, _, _, _, q, _, _⟩ := S1.out; exact q.alloc _) ⟨y1.heap.size, 0, none⟩ 1 1 (markE kk).cells rfl rfl (by exact news_new y1 (markE kk).cells 50) (Ent.one _) ⟨by omega, by omega⟩ ?_; intro v' w1 o1 k1' p1 old1; obtain ⟨a', cap', rfl, _, _⟩ := ownsRow_view o1; have S2 := hid (st_append S1.out hH k0 k1 (by omega) k1' o1 p1 old1); clear o1 k1' p1 old1))
          obtain ⟨F2, H2, w2, _⟩ := S2.out
          obtain ⟨a3, cap3, c3, o3, n3, f3, _⟩ := win_row w2
          have lb : b < w1.heap.size := by obtain ⟨u, hO⟩ := w2; exact hO.lt
          have hol := HJ.out.1
          have HOL := hid hol
          have C3 := hid c3
          have O3 := hid o3
          have N3 := hid n3
          have F3' := hid f3
          have LB := hid lb
          have hob : os.length + 1 ≤ 1000000000 := by omega
          have HOB := hid hob
          clear o3 n3 w2 hol hob
          go_wp2_with (at_builtin; refine wpList_append_mine _ rfl (.tmp 48) (.tmp 52) 43 rfl 48 _ 2 32 Tryz.underlying43 info48 rfl (by omega) (.slice a3 os.length cap3) os.length _ rfl (O3.out.alloc _) ⟨w1.heap.size, 0, none⟩ 1 1 (LOut.mk (.slice a' (l.length + j + 1) cap') kk).cells rfl rfl (by exact news_new w1 (LOut.mk (.slice a' (l.length + j + 1) cap') kk).cells 48) (by simp [LOut.cells, Value.oneCell']) ⟨HOB.out, by omega⟩ ?_; intro v' w3 o1 k1' p1; obtain ⟨a4, cap4, rfl, _, _⟩ := ownsRow_view o1; have S3 := hid (st_tell S2.out k0 k1 (by omega) C3.out k1' o1 p1); have c3w := kept_cell k1' LB.out N3.out C3.out; have f3w := kept_frozen k1' LB.out N3.out F3'.out; clear o1 k1' p1)
          go_roundg (3 - (j + 1))
          case rel => exact ⟨j + 1, a', cap', os ++ [⟨.slice a' (l.length + j + 1) cap', kk⟩], rfl, by omega, rfl, by simp, by simp [HOL.out]; omega, S3.out⟩
          case measure => have := HGK.out; omega
        · have q3 : decide ((j : Int) < 3) = false := by simp; omega
          obtain rfl : j = 3 := by omega
          go_wp2_with fail
          go_end0
          obtain ⟨e1, F1, H1, a1', a2', a3', a4', a5', a6', a7', _, _, _⟩ := HJ.out
          exact ⟨rfl, os, F1, H1, by omega, a1', fun o ho => (a2' o ho).1, a3', a4', a5', a6', a7'⟩
end Go.Proofs.YtphapknfkbgapaaGreatDoor
