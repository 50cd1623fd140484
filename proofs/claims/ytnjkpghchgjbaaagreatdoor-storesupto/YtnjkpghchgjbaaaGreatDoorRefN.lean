import Derived.Test.YtnjkpghchgjbaaaGreatDoorRefHToRefJ
import Derived.Deep.RegionLaw
import Derived.Deep.DeepCutAuto
namespace Go.Proofs.YtnjkpghchgjbaaaGreatDoor
open Go.RowKit

variable {F : Nat → Prop} {b : Nat} {Y : RS}

theorem info70 : (Tryz.prog.info? 70).map (fun i => (i.zero, i.size, i.bytes)) = some (some (.agg #[.string ⟨#[]⟩, .int .i64 0, .int .i64 0, .bool false]), 4, 40) := by kernel_rfl
theorem info72 : (Tryz.prog.info? 72).map (fun i => (i.zero, i.size, i.bytes)) = some (some (.agg #[.bool false, .string ⟨#[]⟩, .int .i64 0, .int .i64 0, .int .i64 0, .string ⟨#[]⟩, .bool false, .int .i64 0, .int .i64 0]), 9, 88) := by kernel_rfl
/-- One more of the keys. -/
theorem rin_appKey {w w1 : World} {v v' : Value} {o : Obj} (h : RIn w F b Y) (hv : w.cell? ⟨b, 4, none⟩ = some v) (k : Kept (fun q => v.ownBlock = some q) (w.alloc o) w1) (K : RKey) (ho : w1.ownsRow 0 70 4 v' (Y.keys.length + 1) (Y.keys.flatMap RKey.cells ++ RKey.cells K)) (P : v'.ownBlock = v.ownBlock ∨ v'.ownBlock = some (w.alloc o).heap.size) :
    RIn (w1.setCell ⟨b, 4, none⟩ v') (grow F w (w1.setCell ⟨b, 4, none⟩ v')) b { Y with keys := Y.keys ++ [K] } ∧ Kept F w (w1.setCell ⟨b, 4, none⟩ v') := by
  obtain ⟨h8, vA, vK, vS, vO, vN, hO⟩ := h
  obtain rfl : vK = v := Option.some.inj ((hO.cell 4).symm.trans hv)
  obtain ⟨q1, q2⟩ := hO.appended (Low.refl _ w) 1 rfl rfl k ho P (Y.offs 1 rfl)
  exact ⟨⟨h8, vA, v', vS, vO, vN, q1.cast rfl (by simp [RS.rows])⟩, q2⟩
theorem rin_rowKey {w : World} (h : RIn w F b Y) : ∃ a cap, w.cell? ⟨b, 4, none⟩ = some (.slice a Y.keys.length cap) ∧ w.ownsRow 0 70 4 (.slice a Y.keys.length cap) Y.keys.length (Y.keys.flatMap RKey.cells) ∧ (Value.slice a Y.keys.length cap).ownBlock ≠ some b := by
  obtain ⟨h8, vA, vK, vS, vO, vN, hO⟩ := h
  obtain ⟨v, hv, ho, _⟩ := hO.row 1 rfl
  have hn := hO.apart 1 rfl hv
  obtain ⟨a, cap, rfl, _, _⟩ := ownsRow_view ho
  exact ⟨a, cap, by rw [hO.cell]; exact hv, ho, hn⟩
/-- One more of the seen. -/
theorem rin_appSeen {w w1 : World} {v v' : Value} {o : Obj} (h : RIn w F b Y) (hv : w.cell? ⟨b, 5, none⟩ = some v) (k : Kept (fun q => v.ownBlock = some q) (w.alloc o) w1) (K : Int) (ho : w1.ownsRow 0 3 1 v' (Y.seen.length + 1) (Y.seen.flatMap one ++ one K)) (P : v'.ownBlock = v.ownBlock ∨ v'.ownBlock = some (w.alloc o).heap.size) :
    RIn (w1.setCell ⟨b, 5, none⟩ v') (grow F w (w1.setCell ⟨b, 5, none⟩ v')) b { Y with seen := Y.seen ++ [K] } ∧ Kept F w (w1.setCell ⟨b, 5, none⟩ v') := by
  obtain ⟨h8, vA, vK, vS, vO, vN, hO⟩ := h
  obtain rfl : vS = v := Option.some.inj ((hO.cell 5).symm.trans hv)
  obtain ⟨q1, q2⟩ := hO.appended (Low.refl _ w) 2 rfl rfl k ho P (Y.offs 2 rfl)
  exact ⟨⟨h8, vA, vK, v', vO, vN, q1.cast rfl (by simp [RS.rows])⟩, q2⟩
theorem rin_rowSeen {w : World} (h : RIn w F b Y) : ∃ a cap, w.cell? ⟨b, 5, none⟩ = some (.slice a Y.seen.length cap) ∧ w.ownsRow 0 3 1 (.slice a Y.seen.length cap) Y.seen.length (Y.seen.flatMap one) ∧ (Value.slice a Y.seen.length cap).ownBlock ≠ some b := by
  obtain ⟨h8, vA, vK, vS, vO, vN, hO⟩ := h
  obtain ⟨v, hv, ho, _⟩ := hO.row 2 rfl
  have hn := hO.apart 2 rfl hv
  obtain ⟨a, cap, rfl, _, _⟩ := ownsRow_view ho
  exact ⟨a, cap, by rw [hO.cell]; exact hv, ho, hn⟩
/-- One more of the ops. -/
theorem rin_appOp {w w1 : World} {v v' : Value} {o : Obj} (h : RIn w F b Y) (hv : w.cell? ⟨b, 6, none⟩ = some v) (k : Kept (fun q => v.ownBlock = some q) (w.alloc o) w1) (K : RUnd) (ho : w1.ownsRow 0 72 9 v' (Y.ops.length + 1) (Y.ops.flatMap RUnd.cells ++ RUnd.cells K)) (P : v'.ownBlock = v.ownBlock ∨ v'.ownBlock = some (w.alloc o).heap.size) :
    RIn (w1.setCell ⟨b, 6, none⟩ v') (grow F w (w1.setCell ⟨b, 6, none⟩ v')) b { Y with ops := Y.ops ++ [K] } ∧ Kept F w (w1.setCell ⟨b, 6, none⟩ v') := by
  obtain ⟨h8, vA, vK, vS, vO, vN, hO⟩ := h
  obtain rfl : vO = v := Option.some.inj ((hO.cell 6).symm.trans hv)
  obtain ⟨q1, q2⟩ := hO.appended (Low.refl _ w) 3 rfl rfl k ho P (Y.offs 3 rfl)
  exact ⟨⟨h8, vA, vK, vS, v', vN, q1.cast rfl (by simp [RS.rows])⟩, q2⟩
theorem rin_rowOp {w : World} (h : RIn w F b Y) : ∃ a cap, w.cell? ⟨b, 6, none⟩ = some (.slice a Y.ops.length cap) ∧ w.ownsRow 0 72 9 (.slice a Y.ops.length cap) Y.ops.length (Y.ops.flatMap RUnd.cells) ∧ (Value.slice a Y.ops.length cap).ownBlock ≠ some b := by
  obtain ⟨h8, vA, vK, vS, vO, vN, hO⟩ := h
  obtain ⟨v, hv, ho, _⟩ := hO.row 3 rfl
  have hn := hO.apart 3 rfl hv
  obtain ⟨a, cap, rfl, _, _⟩ := ownsRow_view ho
  exact ⟨a, cap, by rw [hO.cell]; exact hv, ho, hn⟩
/-- Behind an append the struct is as it was. -/
theorem kept_cell {w w1 : World} {v u : Value} {o : Obj} {b i : Nat} (k : Kept (fun q => v.ownBlock = some q) (w.alloc o) w1) (hb : b < w.heap.size) (hn : v.ownBlock ≠ some b) (hc : w.cell? ⟨b, i, none⟩ = some u) : w1.cell? ⟨b, i, none⟩ = some u :=
  Kept.cell k ((World.cell?_alloc_lt w _ _ hb).trans hc) hn
theorem kept_frozen {w w1 : World} {v : Value} {o : Obj} {b i : Nat} (k : Kept (fun q => v.ownBlock = some q) (w.alloc o) w1) (hb : b < w.heap.size) (hn : v.ownBlock ≠ some b) (hf : w.frozen? ⟨b, i, none⟩ = false) : w1.frozen? ⟨b, i, none⟩ = false :=
  (Kept.frozen k (by simp; omega) hn).trans ((World.frozen?_alloc_past _ _ _ hb).trans hf)
def RS.first (servers room : Int) (key : ByteArray) : RS := ⟨servers, room, key, [], [], [], [], 1, 0, 0, 0, [0, 0, 0, 0, 0, 0, 0, 0], []⟩
theorem rin_first (w : World) (servers room : Int) (key : ByteArray) :
    RIn (w.alloc (.cells ((RS.first servers room key).cells (.slice none 0 0) (.slice none 0 0) (.slice none 0 0) (.slice none 0 0) (.slice none 0 0)).toArray 68)) (fun k => w.heap.size ≤ k ∧ k < w.heap.size + 1) w.heap.size (RS.first servers room key) := by
  refine ⟨rfl, _, _, _, _, _, Blk.new w 68 _, ⟨Nat.le_refl _, by omega⟩, fun k hk => by simpa using hk.2, fun _ => 0, rfl, fun j r hj => ?_⟩
  have : j = 0 ∨ j = 1 ∨ j = 2 ∨ j = 3 ∨ j = 4 ∨ 5 ≤ j := by omega
  rcases this with rfl | rfl | rfl | rfl | rfl | h5
  · obtain rfl := (Option.some.inj hj).symm
    exact ⟨.slice none 0 0, rfl, World.ownsRow_nil _ _ _ _, fun k hk => by cases hk⟩
  · obtain rfl := (Option.some.inj hj).symm
    exact ⟨.slice none 0 0, rfl, World.ownsRow_nil _ _ _ _, fun k hk => by cases hk⟩
  · obtain rfl := (Option.some.inj hj).symm
    exact ⟨.slice none 0 0, rfl, World.ownsRow_nil _ _ _ _, fun k hk => by cases hk⟩
  · obtain rfl := (Option.some.inj hj).symm
    exact ⟨.slice none 0 0, rfl, World.ownsRow_nil _ _ _ _, fun k hk => by cases hk⟩
  · obtain rfl := (Option.some.inj hj).symm
    exact ⟨.slice none 0 0, rfl, World.ownsRow_nil _ _ _ _, fun k hk => by cases hk⟩
  · rw [List.getElem?_eq_none (by simpa [RS.rows] using h5)] at hj
    cases hj
def RKey.one1 (key : ByteArray) : RKey := ⟨key, 1, 1, false⟩
def RS.upTo (servers room : Int) (key : ByteArray) (i : Nat) : RS := { RS.first servers room key with keys := [RKey.one1 key], seen := List.replicate i 0, ops := List.replicate i RUnd.zero }
def RS.new (servers room : Int) (key : ByteArray) : RS := { RS.upTo servers room key servers.toNat with node := [-1, -1, -1, -1, -1, -1, -1, -1] }
def cfgOk (servers room : Int) (key : ByteArray) : Bool := decide (1 ≤ servers ∧ servers ≤ 4 ∧ 1 ≤ room ∧ room ≤ 60) && (key.size == 48)
set_option maxRecDepth 100000 in
set_option maxHeartbeats 1000000 in
theorem New_no (w : World) (servers room : Int) (key : ByteArray) (h : cfgOk servers room key = false) :
    Calls Tryz.prog 14 #[.agg #[.int .i64 servers, .int .i64 room, .string key]] w fun e w' => e = .returned (.tuple #[.pointer none, .int .i64 1]) ∧ Low w.heap.size w w' := by
  have HH := hid h
  clear h
  cases hz : ((key.size : Int) != 48)
  · have hk2 : key.size = 48 := by have := bne_eq_false_iff_eq.1 hz; omega
    have hq : ¬ (1 ≤ servers ∧ servers ≤ 4 ∧ 1 ≤ room ∧ room ≤ 60) := by
      intro hh
      have q := HH.out
      simp [cfgOk, hk2, hh] at q
    have HQ := hid hq
    clear hq hk2
    go_enter Tryz.func14, Tryz.ntmps14
    go_upto_region 3 with fail
    all_goals first | (go_ret2; exact ⟨rfl, (Low.refl _ w).alloc (Nat.le_refl _) _⟩) | (exfalso; have q := HQ.out; omega)
  · go_enter Tryz.func14, Tryz.ntmps14
    go_upto_region 3 with fail
    all_goals go_ret2
    all_goals exact ⟨rfl, (Low.refl _ w).alloc (Nat.le_refl _) _⟩
theorem rin_node {w : World} (h : RIn w F b Y) (p : Nat) (x : Int) (hx : Y.node[p]? = some x) : w.cell? ⟨b, 11 + p, none⟩ = some (.int .i64 x) := by
  obtain ⟨h8, vA, vK, vS, vO, vN, hO⟩ := h
  have hp : p < Y.node.length := (List.getElem?_eq_some_iff.1 hx).1
  rw [hO.cell, Nat.add_comm]
  show (Y.node.map (Value.int .i64) ++ [vN])[p]? = _
  rw [List.getElem?_append_left (by simpa using hp), List.getElem?_map, hx]
  rfl
theorem rin_setNode {w : World} (h : RIn w F b Y) (p : Nat) (hp : p < 8) (v : Int) : RIn (w.setCell ⟨b, 11 + p, none⟩ (.int .i64 v)) F b { Y with node := Y.node.set p v } := by
  obtain ⟨h8, vA, vK, vS, vO, vN, hO⟩ := h
  refine ⟨by simpa using h8, vA, vK, vS, vO, vN, (hO.set (11 + p) (.int .i64 v) (by simp [RS.rows]; omega)).cast ?_ rfl⟩
  have e : (Y.node.map (Value.int .i64) ++ [vN]).set p (.int .i64 v) = (Y.node.set p v).map (Value.int .i64) ++ [vN] := by
    rw [List.set_append_left _ _ (by simp; omega), List.map_set]
  rw [Nat.add_comm]
  show _ :: _ :: _ :: _ :: _ :: _ :: _ :: _ :: _ :: _ :: _ :: ((Y.node.map (Value.int .i64) ++ [vN]).set p (.int .i64 v)) = _
  rw [e]
  rfl
def cfgL (servers room : Int) (key : ByteArray) : List Value := [.int .i64 servers, .int .i64 room, .string key]
set_option maxRecDepth 100000 in
set_option maxHeartbeats 1000000 in
theorem New_yes (w : World) (servers room : Int) (key : ByteArray) (h : cfgOk servers room key = true) :
    Calls Tryz.prog 14 #[.agg #[.int .i64 servers, .int .i64 room, .string key]] w fun e w' => e = .returned (.tuple #[.pointer (some ⟨w.heap.size + 1, 0, none⟩), .int .i64 0]) ∧ RIn w' (fun k => w.heap.size + 1 ≤ k ∧ k < w'.heap.size) (w.heap.size + 1) (RS.new servers room key) ∧ Low w.heap.size w w' := by
  simp only [cfgOk, Bool.and_eq_true, decide_eq_true_eq, beq_iff_eq] at h
  obtain ⟨⟨s1, s2, r1, r2⟩, hk⟩ := h
  have hz : ((key.size : Int) != 48) = false := by rw [bne_eq_false_iff_eq]; omega
  have HK := hid hk
  clear hk
  go_enter Tryz.func14, Tryz.ntmps14
  go_upto_region 4 with fail
  go_name_world W hW
  have hR : RIn W (fun k => w.heap.size + 1 ≤ k ∧ k < w.heap.size + 1 + 1) (w.heap.size + 1) (RS.first servers room key) := by
    have q := rin_first (w.alloc (.cells (cfgL servers room key).toArray 23)) servers room key
    rw [World.size_alloc] at q
    rw [← hW]; exact q
  have hB : Blk W w.heap.size 23 (cfgL servers room key) := by rw [← hW]; exact (Blk.new w 23 (cfgL servers room key)).alloc _
  have hL : Low w.heap.size w W := by rw [← hW]; exact ((Low.refl _ w).alloc (Nat.le_refl _) _).alloc (by simp) _
  have hS : W.heap.size = w.heap.size + 1 + 1 := by rw [← hW]; simp
  obtain ⟨a4, cap4, c4, o4, n4⟩ := rin_rowKey hR
  have c4 : W.cell? ⟨w.heap.size + 1, 4, none⟩ = some (.slice a4 0 cap4) := c4
  have f4 := hR.frozen 4
  have n2 : W.cell? ⟨w.heap.size, 2, none⟩ = some (.string key) := hB.cell 2
  have lb := hR.lt
  have HO4 : Hid (W.ownsRow 0 70 4 (.slice a4 0 cap4) 0 []) := o4
  have HN4 : Hid ((Value.slice a4 0 cap4).ownBlock ≠ some (w.heap.size + 1)) := n4
  have C4 := hid c4
  have F4 := hid f4
  have HR := hid hR
  have HB := hid hB
  have HL := hid hL
  have HS := hid hS
  have LB := hid lb
  clear hW hR hB hL hS o4 n4
  go_cut [] (fun wc => Hid (RIn wc (fun k => w.heap.size + 1 ≤ k ∧ k < wc.heap.size) (w.heap.size + 1) (RS.upTo servers room key 0) ∧ Low w.heap.size w wc ∧ Blk wc w.heap.size 23 (cfgL servers room key)))
  case first =>
    go_region_law ((refine step_append_mine _ rfl (.tmp 38) (.tmp 42) 62 rfl 70 _ 4 40 Tryz.underlying62 info70 rfl (by omega) (.slice a4 0 cap4) 0 [] ?_ ?_ ⟨W.heap.size, 0, none⟩ 1 1 (RKey.one1 key).cells ?_ rfl ?_ (RKey.one _) ⟨by omega, by omega⟩ ?_; rfl; exact (World.ownsRow.alloc (w := W) HO4.out _); rfl; exact (news_new W (RKey.one1 key).cells 70); intro v' w1 o1 k1 p1; obtain ⟨a', cap', rfl, _, _⟩ := ownsRow_view o1; have O1 := hid o1; have K1 := hid k1.of_drew; have P1 := hid p1; have c4w := kept_cell K1.out LB.out HN4.out C4.out; have f4w := kept_frozen K1.out LB.out HN4.out F4.out; clear o1 k1 p1))
    all_goals
      go_wp2_with fail
      go_meet
      obtain ⟨q1, q2⟩ := rin_appKey HR.out C4.out K1.out (RKey.one1 key) O1.out P1.out
      simp only [Nat.zero_add] at q1 q2
      have hsz := HS.out
      refine ⟨RIn.more q1 (fun k hk => ?_) (fun k hk => hk.2), ?_, ?_⟩
      · rcases hk with hk | hk
        · exact ⟨hk.1, by have := q2.size; omega⟩
        · exact ⟨by omega, hk.2⟩
      · exact ⟨q2.os.trans HL.out.os, q2.output.trans HL.out.output, Nat.le_trans HL.out.size q2.size, fun k hk => (q2.block k (by omega) (by omega)).trans (HL.out.block k hk)⟩
      · exact HB.out.kept q2 (by omega)
  case rest =>
    obtain ⟨m, hm⟩ : ∃ m : Nat, servers = (m : Int) := ⟨servers.toNat, by omega⟩
    subst hm
    clear c4 f4 n2 lb HO4 HN4 C4 F4 HR HB HL HS LB
    generalize hw0 : w.heap.size = N at *
    go_wp2_with fail
    go_loopw [5] (fun iv wr => ∃ i : Nat, i ≤ m ∧ iv = .int .i64 (i : Int) ∧ Hid (RIn wr (fun k => N + 1 ≤ k ∧ k < wr.heap.size) (N + 1) (RS.upTo m room key i) ∧ Low N w wr ∧ Blk wr N 23 (cfgL m room key))) (fun iv _ => m - (intOf iv).toNat)
    case atStart => exact ⟨0, Nat.zero_le _, rfl, hcut.out⟩
    case round =>
      obtain ⟨i, hi, rfl, HI⟩ := hrel
      have d0 : wr.cell? ⟨N, 0, none⟩ = some (.int .i64 (m : Int)) := HI.out.2.2.cell 0
      by_cases h1 : i < m
      · have q1 : decide ((i : Int) < (m : Int)) = true := by simp; omega
        obtain ⟨a5, cap5, c5, o5, n5⟩ := rin_rowSeen HI.out.1
        have hl5 : (RS.upTo m room key i).seen.length = i := by simp [RS.upTo]
        rw [hl5] at c5 o5 n5
        have f5 := HI.out.1.frozen 5
        have lb := HI.out.1.lt
        have O5 := hid o5
        have N5 := hid n5
        have C5 := hid c5
        have F5 := hid f5
        have LB := hid lb
        clear o5 n5
        go_upto_region 9 with (at_builtin; refine wpList_append_mine _ rfl (.tmp 56) (.tmp 57) 63 rfl 3 _ 1 8 Tryz.underlying63 info3 rfl (by omega) (.slice a5 i cap5) i _ rfl (O5.out.alloc _) ⟨wr.heap.size, 0, none⟩ 1 1 (one 0) rfl rfl (by exact news_new wr (one 0) 3) (by simp [one, Value.oneCell']) ⟨by omega, by omega⟩ ?_; intro v' w1 o1 k1 p1; obtain ⟨a', cap', rfl, _, _⟩ := ownsRow_view o1; have O1 := hid o1; have K1 := hid k1; have P1 := hid p1; have c5w := kept_cell k1 LB.out N5.out C5.out; have f5w := kept_frozen k1 LB.out N5.out F5.out; clear o1 k1 p1)
        go_name_world W2 hW2
        obtain ⟨r1, k1⟩ := rin_appSeen HI.out.1 C5.out K1.out 0 (by rw [hl5]; exact O1.out) P1.out
        rw [hW2] at r1 k1
        have hs1 := K1.out.size
        have r2 : RIn W2 (fun k => N + 1 ≤ k ∧ k < W2.heap.size) (N + 1) { RS.upTo m room key i with seen := (RS.upTo m room key i).seen ++ [0] } := RIn.more r1 (fun k hk => by
          have := k1.size
          rcases hk with hk | hk
          · exact ⟨hk.1, by omega⟩
          · exact ⟨by have := HI.out.1.lt; omega, hk.2⟩) (fun k hk => hk.2)
        have k2 : Low N w W2 := ⟨k1.os.trans HI.out.2.1.os, k1.output.trans HI.out.2.1.output, Nat.le_trans HI.out.2.1.size k1.size, fun k hk => (k1.block k (by have := HI.out.1.lt; omega) (by omega)).trans (HI.out.2.1.block k hk)⟩
        have b2 : Blk W2 N 23 (cfgL m room key) := HI.out.2.2.kept k1 (by omega)
        have HR2 := hid r2
        have HK2 := hid k2
        have HB2 := hid b2
        obtain ⟨a6, cap6, c6x, o6x, n6x⟩ := rin_rowOp r2
        have hl6 : (RS.upTo m room key i).ops.length = i := by simp [RS.upTo]
        have c6 : W2.cell? ⟨N + 1, 6, none⟩ = some (.slice a6 (RS.upTo m room key i).ops.length cap6) := c6x
        have o6 : W2.ownsRow 0 72 9 (.slice a6 (RS.upTo m room key i).ops.length cap6) (RS.upTo m room key i).ops.length ((RS.upTo m room key i).ops.flatMap RUnd.cells) := o6x
        have n6 : (Value.slice a6 (RS.upTo m room key i).ops.length cap6).ownBlock ≠ some (N + 1) := n6x
        clear c6x o6x n6x
        rw [hl6] at c6 o6 n6
        have f6 := r2.frozen 6
        have lb2 := r2.lt
        have O6 := hid o6
        have N6 := hid n6
        have C6 := hid c6
        have F6 := hid f6
        have LB2 := hid lb2
        have HL6 := hid hl6
        clear r1 k1 r2 k2 b2 o6 n6 hW2 c5 f5 lb hl5 O5 N5 C5 F5 LB c5w f5w O1 K1 P1 hs1 d0 hl6
        go_wp2_with (at_builtin; refine wpList_append_mine _ rfl (.tmp 65) (.tmp 67) 64 rfl 72 _ 9 88 Tryz.underlying64 info72 rfl (by omega) (.slice a6 i cap6) i _ rfl (O6.out.alloc _) ⟨W2.heap.size, 0, none⟩ 1 1 RUnd.zero.cells rfl rfl (by exact news_new W2 RUnd.zero.cells 72) (RUnd.one _) ⟨by omega, by omega⟩ ?_; intro v' w1 o1 k1 p1; obtain ⟨a', cap', rfl, _, _⟩ := ownsRow_view o1; have O1 := hid o1; have K1 := hid k1; have P1 := hid p1; have c6w := kept_cell k1 LB2.out N6.out C6.out; have f6w := kept_frozen k1 LB2.out N6.out F6.out; clear o1 k1 p1)
        go_roundw
        case rel =>
          obtain ⟨r1, k1⟩ := rin_appOp HR2.out C6.out K1.out RUnd.zero (v' := .slice a' (i + 1) cap') (by show World.ownsRow _ 0 72 9 _ ((RS.upTo m room key i).ops.length + 1) _; rw [HL6.out]; exact O1.out) P1.out
          have hs1 := K1.out.size
          refine ⟨i + 1, by omega, by simp, ?_, ?_, ?_⟩
          · have e : ({ RS.upTo m room key i with seen := (RS.upTo m room key i).seen ++ [0], ops := (RS.upTo m room key i).ops ++ [RUnd.zero] } : RS) = RS.upTo m room key (i + 1) := by
              simp [RS.upTo, List.replicate_succ']
            rw [← e]
            exact RIn.more r1 (fun k hk => by
              have := k1.size
              rcases hk with hk | hk
              · exact ⟨hk.1, by omega⟩
              · exact ⟨by have := HR2.out.lt; omega, hk.2⟩) (fun k hk => hk.2)
          · exact ⟨k1.os.trans HK2.out.os, k1.output.trans HK2.out.output, Nat.le_trans HK2.out.size k1.size, fun k hk => (k1.block k (by have := HR2.out.lt; omega) (by omega)).trans (HK2.out.block k hk)⟩
          · exact HB2.out.kept k1 (by omega)
        case measure => simp [intOf]; omega
      · have q1 : decide ((i : Int) < (m : Int)) = false := by simp; omega
        obtain rfl : i = m := by omega
        go_wp2_with fail
        clear d0
        go_loopw [6] (fun pv wx => ∃ p : Nat, p ≤ 8 ∧ pv = .int .i64 (p : Int) ∧ Hid (RIn wx (fun k => N + 1 ≤ k ∧ k < wx.heap.size) (N + 1) { RS.upTo i room key i with node := List.replicate p (-1) ++ List.replicate (8 - p) 0 } ∧ Low N w wx)) (fun pv _ => 8 - (intOf pv).toNat)
        case atStart => exact ⟨0, by omega, rfl, HI.out.1, HI.out.2.1⟩
        case round =>
          obtain ⟨p, hp, rfl, HP⟩ := hrel
          by_cases h2 : p < 8
          · have q2 : decide ((p : Int) < 8) = true := by simp; omega
            have np := rin_node HP.out.1 p 0 (by
              show (List.replicate p (-1) ++ List.replicate (8 - p) (0 : Int))[p]? = some 0
              rw [List.getElem?_append_right (by simp), List.length_replicate, Nat.sub_self, List.getElem?_replicate, if_pos (by omega)])
            have fp := HP.out.1.frozen (11 + p)
            have R1 := hid (rin_setNode HP.out.1 p h2 (-1))
            go_wp2_with fail
            go_roundw
            case rel =>
              refine ⟨p + 1, by omega, by simp, ?_, HP.out.2.setCell (by show N ≤ N + 1; omega) _⟩
              have e : (List.replicate p (-1) ++ List.replicate (8 - p) (0 : Int)).set p (-1) = List.replicate (p + 1) (-1) ++ List.replicate (8 - (p + 1)) 0 := by
                rw [List.set_append_right _ _ (by simp), List.length_replicate, Nat.sub_self, show 8 - p = (8 - (p + 1)) + 1 by omega, List.replicate_succ (n := 8 - (p + 1))]
                rw [List.set_cons_zero, List.replicate_succ', List.append_assoc]
                rfl
              have r := R1.out
              rw [show ({ RS.upTo i room key i with node := List.replicate p (-1) ++ List.replicate (8 - p) 0 } : RS).node.set p (-1) = List.replicate (p + 1) (-1) ++ List.replicate (8 - (p + 1)) 0 from e] at r
              exact RIn.more r (fun k hk => ⟨hk.1, by simpa using hk.2⟩) (fun k hk => hk.2)
            case measure => simp [intOf]; omega
          · have q2 : decide ((p : Int) < 8) = false := by simp; omega
            obtain rfl : p = 8 := by omega
            go_wp2_with fail
            go_ret2
            exact ⟨rfl, HP.out.1, HP.out.2⟩
end Go.Proofs.YtnjkpghchgjbaaaGreatDoor
