import Derived.Test.YtggbjffmclpmgaaGreatDoorRefIToLawC
import Derived.Deep.RegionLaw
import Derived.Deep.DeepCutAuto
namespace Go.Proofs.YtggbjffmclpmgaaGreatDoor
open Go.RowKit

variable {F : Nat → Prop} {b : Nat} {Y : RS}

theorem info70 : (Tryz.prog.info? 70).map (fun i => (i.zero, i.size, i.bytes)) = some (some (.agg #[.string ⟨#[]⟩, .int .i64 0, .int .i64 0, .bool false]), 4, 40) := by kernel_rfl
theorem info72 : (Tryz.prog.info? 72).map (fun i => (i.zero, i.size, i.bytes)) = some (some (.agg #[.bool false, .string ⟨#[]⟩, .int .i64 0, .int .i64 0, .int .i64 0, .string ⟨#[]⟩, .bool false, .int .i64 0, .int .i64 0]), 9, 88) := by kernel_rfl
/-- One more of the keys. -/
theorem rin_appKey {w w1 : World} {v v' : Value} {o : Obj} (h : RIn w F b Y) (hv : w.cell? ⟨b, 4, none⟩ = some v) (k : Kept (fun q => v.ownBlock = some q) (w.alloc o) w1) (K : RKey) (ho : w1.ownsRow 0 70 4 v' (Y.keys.length + 1) (Y.keys.flatMap RKey.cells ++ RKey.cells K)) (P : v'.ownBlock = v.ownBlock ∨ v'.ownBlock = some (w.alloc o).heap.size) :
    RIn (w1.setCell ⟨b, 4, none⟩ v') (grow F w (w1.setCell ⟨b, 4, none⟩ v')) b { Y with keys := Y.keys ++ [K] } ∧ Kept F w (w1.setCell ⟨b, 4, none⟩ v') := by
  obtain ⟨h8, vA, vK, vS, vO, vN, hO⟩ := h
  obtain rfl : vK = v := Option.some.inj ((hO.cell 4).symm.trans hv)
  obtain ⟨q1, q2⟩ := hO.appended (Low.refl _ w) 1 rfl rfl k ho P (Y.offs 1 rfl)
  exact ⟨⟨h8, vA, v', vS, vO, vN, q1.cast rfl (by simp [RS.rows])⟩, q2⟩
theorem rin_rowKey {w : World} (h : RIn w F b Y) : ∃ a cap, w.cell? ⟨b, 4, none⟩ = some (.slice a Y.keys.length cap) ∧ w.ownsRow 0 70 4 (.slice a Y.keys.length cap) Y.keys.length (Y.keys.flatMap RKey.cells) ∧ (Value.slice a Y.keys.length cap).ownBlock ≠ some b := by
  obtain ⟨h8, vA, vK, vS, vO, vN, hO⟩ := h
  obtain ⟨v, hv, ho, _⟩ := hO.row 1 rfl
  have hn := hO.apart 1 rfl hv
  obtain ⟨a, cap, rfl, _, _⟩ := ownsRow_view ho
  exact ⟨a, cap, by rw [hO.cell]; exact hv, ho, hn⟩
/-- One more of the seen. -/
theorem rin_appSeen {w w1 : World} {v v' : Value} {o : Obj} (h : RIn w F b Y) (hv : w.cell? ⟨b, 5, none⟩ = some v) (k : Kept (fun q => v.ownBlock = some q) (w.alloc o) w1) (K : Int) (ho : w1.ownsRow 0 3 1 v' (Y.seen.length + 1) (Y.seen.flatMap one ++ one K)) (P : v'.ownBlock = v.ownBlock ∨ v'.ownBlock = some (w.alloc o).heap.size) :
    RIn (w1.setCell ⟨b, 5, none⟩ v') (grow F w (w1.setCell ⟨b, 5, none⟩ v')) b { Y with seen := Y.seen ++ [K] } ∧ Kept F w (w1.setCell ⟨b, 5, none⟩ v') := by
  obtain ⟨h8, vA, vK, vS, vO, vN, hO⟩ := h
  obtain rfl : vS = v := Option.some.inj ((hO.cell 5).symm.trans hv)
  obtain ⟨q1, q2⟩ := hO.appended (Low.refl _ w) 2 rfl rfl k ho P (Y.offs 2 rfl)
  exact ⟨⟨h8, vA, vK, v', vO, vN, q1.cast rfl (by simp [RS.rows])⟩, q2⟩
theorem rin_rowSeen {w : World} (h : RIn w F b Y) : ∃ a cap, w.cell? ⟨b, 5, none⟩ = some (.slice a Y.seen.length cap) ∧ w.ownsRow 0 3 1 (.slice a Y.seen.length cap) Y.seen.length (Y.seen.flatMap one) ∧ (Value.slice a Y.seen.length cap).ownBlock ≠ some b := by
  obtain ⟨h8, vA, vK, vS, vO, vN, hO⟩ := h
  obtain ⟨v, hv, ho, _⟩ := hO.row 2 rfl
  have hn := hO.apart 2 rfl hv
  obtain ⟨a, cap, rfl, _, _⟩ := ownsRow_view ho
  exact ⟨a, cap, by rw [hO.cell]; exact hv, ho, hn⟩
/-- One more of the ops. -/
theorem rin_appOp {w w1 : World} {v v' : Value} {o : Obj} (h : RIn w F b Y) (hv : w.cell? ⟨b, 6, none⟩ = some v) (k : Kept (fun q => v.ownBlock = some q) (w.alloc o) w1) (K : RUnd) (ho : w1.ownsRow 0 72 9 v' (Y.ops.length + 1) (Y.ops.flatMap RUnd.cells ++ RUnd.cells K)) (P : v'.ownBlock = v.ownBlock ∨ v'.ownBlock = some (w.alloc o).heap.size) :
    RIn (w1.setCell ⟨b, 6, none⟩ v') (grow F w (w1.setCell ⟨b, 6, none⟩ v')) b { Y with ops := Y.ops ++ [K] } ∧ Kept F w (w1.setCell ⟨b, 6, none⟩ v') := by
  obtain ⟨h8, vA, vK, vS, vO, vN, hO⟩ := h
  obtain rfl : vO = v := Option.some.inj ((hO.cell 6).symm.trans hv)
  obtain ⟨q1, q2⟩ := hO.appended (Low.refl _ w) 3 rfl rfl k ho P (Y.offs 3 rfl)
  exact ⟨⟨h8, vA, vK, vS, v', vN, q1.cast rfl (by simp [RS.rows])⟩, q2⟩
theorem rin_rowOp {w : World} (h : RIn w F b Y) : ∃ a cap, w.cell? ⟨b, 6, none⟩ = some (.slice a Y.ops.length cap) ∧ w.ownsRow 0 72 9 (.slice a Y.ops.length cap) Y.ops.length (Y.ops.flatMap RUnd.cells) ∧ (Value.slice a Y.ops.length cap).ownBlock ≠ some b := by
  obtain ⟨h8, vA, vK, vS, vO, vN, hO⟩ := h
  obtain ⟨v, hv, ho, _⟩ := hO.row 3 rfl
  have hn := hO.apart 3 rfl hv
  obtain ⟨a, cap, rfl, _, _⟩ := ownsRow_view ho
  exact ⟨a, cap, by rw [hO.cell]; exact hv, ho, hn⟩
/-- Behind an append the struct is as it was. -/
theorem kept_cell {w w1 : World} {v u : Value} {o : Obj} {b i : Nat} (k : Kept (fun q => v.ownBlock = some q) (w.alloc o) w1) (hb : b < w.heap.size) (hn : v.ownBlock ≠ some b) (hc : w.cell? ⟨b, i, none⟩ = some u) : w1.cell? ⟨b, i, none⟩ = some u :=
  Kept.cell k ((World.cell?_alloc_lt w _ _ hb).trans hc) hn
theorem kept_frozen {w w1 : World} {v : Value} {o : Obj} {b i : Nat} (k : Kept (fun q => v.ownBlock = some q) (w.alloc o) w1) (hb : b < w.heap.size) (hn : v.ownBlock ≠ some b) (hf : w.frozen? ⟨b, i, none⟩ = false) : w1.frozen? ⟨b, i, none⟩ = false :=
  (Kept.frozen k (by simp; omega) hn).trans ((World.frozen?_alloc_past _ _ _ hb).trans hf)
def RS.first (servers room : Int) (key : ByteArray) : RS := ⟨servers, room, key, [], [], [], [], 1, 0, 0, 0, [0, 0, 0, 0, 0, 0, 0, 0], []⟩
theorem rin_first (w : World) (servers room : Int) (key : ByteArray) :
    RIn (w.alloc (.cells ((RS.first servers room key).cells (.slice none 0 0) (.slice none 0 0) (.slice none 0 0) (.slice none 0 0) (.slice none 0 0)).toArray 68)) (fun k => w.heap.size ≤ k ∧ k < w.heap.size + 1) w.heap.size (RS.first servers room key) := by
  refine ⟨rfl, _, _, _, _, _, Blk.new w 68 _, ⟨Nat.le_refl _, by omega⟩, fun k hk => by simpa using hk.2, fun _ => 0, rfl, fun j r hj => ?_⟩
  have : j = 0 ∨ j = 1 ∨ j = 2 ∨ j = 3 ∨ j = 4 ∨ 5 ≤ j := by omega
  rcases this with rfl | rfl | rfl | rfl | rfl | h5
  · obtain rfl := (Option.some.inj hj).symm
    exact ⟨.slice none 0 0, rfl, World.ownsRow_nil _ _ _ _, fun k hk => by cases hk⟩
  · obtain rfl := (Option.some.inj hj).symm
    exact ⟨.slice none 0 0, rfl, World.ownsRow_nil _ _ _ _, fun k hk => by cases hk⟩
  · obtain rfl := (Option.some.inj hj).symm
    exact ⟨.slice none 0 0, rfl, World.ownsRow_nil _ _ _ _, fun k hk => by cases hk⟩
  · obtain rfl := (Option.some.inj hj).symm
    exact ⟨.slice none 0 0, rfl, World.ownsRow_nil _ _ _ _, fun k hk => by cases hk⟩
  · obtain rfl := (Option.some.inj hj).symm
    exact ⟨.slice none 0 0, rfl, World.ownsRow_nil _ _ _ _, fun k hk => by cases hk⟩
  · rw [List.getElem?_eq_none (by simpa [RS.rows] using h5)] at hj
    cases hj
def RKey.one1 (key : ByteArray) : RKey := ⟨key, 1, 1, false⟩
def RS.upTo (servers room : Int) (key : ByteArray) (i : Nat) : RS := { RS.first servers room key with keys := [RKey.one1 key], seen := List.replicate i 0, ops := List.replicate i RUnd.zero }
def RS.new (servers room : Int) (key : ByteArray) : RS := { RS.upTo servers room key servers.toNat with node := [-1, -1, -1, -1, -1, -1, -1, -1] }
def cfgOk (servers room : Int) (key : ByteArray) : Bool := decide (1 ≤ servers ∧ servers ≤ 4 ∧ 1 ≤ room ∧ room ≤ 60) && (key.size == 48)
set_option maxRecDepth 100000 in
set_option maxHeartbeats 1000000 in
theorem New_no (w : World) (servers room : Int) (key : ByteArray) (h : cfgOk servers room key = false) :
    Calls Tryz.prog 14 #[.agg #[.int .i64 servers, .int .i64 room, .string key]] w fun e w' => e = .returned (.tuple #[.pointer none, .int .i64 1]) ∧ Low w.heap.size w w' := by
  have HH := hid h
  clear h
  cases hz : ((key.size : Int) != 48)
  · have hk2 : key.size = 48 := by have := bne_eq_false_iff_eq.1 hz; omega
    have hq : ¬ (1 ≤ servers ∧ servers ≤ 4 ∧ 1 ≤ room ∧ room ≤ 60) := by
      intro hh
      have q := HH.out
      simp [cfgOk, hk2, hh] at q
    have HQ := hid hq
    clear hq hk2
    go_enter Tryz.func14, Tryz.ntmps14
    go_upto_region 3 with fail
    all_goals first | (go_ret2; exact ⟨rfl, (Low.refl _ w).alloc (Nat.le_refl _) _⟩) | (exfalso; have q := HQ.out; omega)
  · go_enter Tryz.func14, Tryz.ntmps14
    go_upto_region 3 with fail
    all_goals go_ret2
    all_goals exact ⟨rfl, (Low.refl _ w).alloc (Nat.le_refl _) _⟩
theorem rin_node {w : World} (h : RIn w F b Y) (p : Nat) (x : Int) (hx : Y.node[p]? = some x) : w.cell? ⟨b, 11 + p, none⟩ = some (.int .i64 x) := by
  obtain ⟨h8, vA, vK, vS, vO, vN, hO⟩ := h
  have hp : p < Y.node.length := (List.getElem?_eq_some_iff.1 hx).1
  rw [hO.cell, Nat.add_comm]
  show (Y.node.map (Value.int .i64) ++ [vN])[p]? = _
  rw [List.getElem?_append_left (by simpa using hp), List.getElem?_map, hx]
  rfl
theorem rin_setNode {w : World} (h : RIn w F b Y) (p : Nat) (hp : p < 8) (v : Int) : RIn (w.setCell ⟨b, 11 + p, none⟩ (.int .i64 v)) F b { Y with node := Y.node.set p v } := by
  obtain ⟨h8, vA, vK, vS, vO, vN, hO⟩ := h
  refine ⟨by simpa using h8, vA, vK, vS, vO, vN, (hO.set (11 + p) (.int .i64 v) (by simp [RS.rows]; omega)).cast ?_ rfl⟩
  have e : (Y.node.map (Value.int .i64) ++ [vN]).set p (.int .i64 v) = (Y.node.set p v).map (Value.int .i64) ++ [vN] := by
    rw [List.set_append_left _ _ (by simp; omega), List.map_set]
  rw [Nat.add_comm]
  show _ :: _ :: _ :: _ :: _ :: _ :: _ :: _ :: _ :: _ :: _ :: ((Y.node.map (Value.int .i64) ++ [vN]).set p (.int .i64 v)) = _
  rw [e]
  rfl
def cfgL (servers room : Int) (key : ByteArray) : List Value := [.int .i64 servers, .int .i64 room, .string key]
set_option maxRecDepth 100000 in
set_option maxHeartbeats 1000000 in
theorem New_yes (w : World) (servers room : Int) (key : ByteArray) (h : cfgOk servers room key = true) :
    Calls Tryz.prog 14 #[.agg #[.int .i64 servers, .int .i64 room, .string key]] w fun e w' => e = .returned (.tuple #[.pointer (some ⟨w.heap.size + 1, 0, none⟩), .int .i64 0]) ∧ RIn w' (fun k => w.heap.size + 1 ≤ k ∧ k < w'.heap.size) (w.heap.size + 1) (RS.new servers room key) ∧ Low w.heap.size w w' := by
  simp only [cfgOk, Bool.and_eq_true, decide_eq_true_eq, beq_iff_eq] at h
  obtain ⟨⟨s1, s2, r1, r2⟩, hk⟩ := h
  have hz : ((key.size : Int) != 48) = false := by rw [bne_eq_false_iff_eq]; omega
  have HK := hid hk
  clear hk
  go_enter Tryz.func14, Tryz.ntmps14
  go_upto_region 4 with fail
  go_name_world W hW
  have hR : RIn W (fun k => w.heap.size + 1 ≤ k ∧ k < w.heap.size + 1 + 1) (w.heap.size + 1) (RS.first servers room key) := by
    have q := rin_first (w.alloc (.cells (cfgL servers room key).toArray 23)) servers room key
    rw [World.size_alloc] at q
    rw [← hW]; exact q
  have hB : Blk W w.heap.size 23 (cfgL servers room key) := by rw [← hW]; exact (Blk.new w 23 (cfgL servers room key)).alloc _
  have hL : Low w.heap.size w W := by rw [← hW]; exact ((Low.refl _ w).alloc (Nat.le_refl _) _).alloc (by simp) _
  have hS : W.heap.size = w.heap.size + 1 + 1 := by rw [← hW]; simp
  obtain ⟨a4, cap4, c4, o4, n4⟩ := rin_rowKey hR
  have c4 : W.cell? ⟨w.heap.size + 1, 4, none⟩ = some (.slice a4 0 cap4) := c4
  have f4 := hR.frozen 4
  have n2 : W.cell? ⟨w.heap.size, 2, none⟩ = some (.string key) := hB.cell 2
  have lb := hR.lt
  have HO4 : Hid (W.ownsRow 0 70 4 (.slice a4 0 cap4) 0 []) := o4
  have HN4 : Hid ((Value.slice a4 0 cap4).ownBlock ≠ some (w.heap.size + 1)) := n4
  have C4 := hid c4
  have F4 := hid f4
  have HR := hid hR
  have HB := hid hB
  have HL := hid hL
  have HS := hid hS
  have LB := hid lb
  clear hW hR hB hL hS o4 n4
  go_cut [] (fun wc => Hid (RIn wc (fun k => w.heap.size + 1 ≤ k ∧ k < wc.heap.size) (w.heap.size + 1) (RS.upTo servers room key 0) ∧ Low w.heap.size w wc ∧ Blk wc w.heap.size 23 (cfgL servers room key)))
  case first =>
    go_region_law ((refine step_append_mine _ rfl (.tmp 38) (.tmp 42) 62 rfl 70 _ 4 40 Tryz.underlying62 info70 rfl (by omega) (.slice a4 0 cap4) 0 [] ?_ ?_ ⟨W.heap.size, 0, none⟩ 1 1 (RKey.one1 key).cells ?_ rfl ?_ (RKey.one _) ⟨by omega, by omega⟩ ?_; rfl; exact (World.ownsRow.alloc (w := W) HO4.out _); rfl; exact (news_new W (RKey.one1 key).cells 70); intro v' w1 o1 k1 p1; obtain ⟨a', cap', rfl, _, _⟩ := ownsRow_view o1; have O1 := hid o1; have K1 := hid k1.of_drew; have P1 := hid p1; have c4w := kept_cell K1.out LB.out HN4.out C4.out; have f4w := kept_frozen K1.out LB.out HN4.out F4.out; clear o1 k1 p1))
    all_goals
      go_wp2_with fail
      go_meet
      obtain ⟨q1, q2⟩ := rin_appKey HR.out C4.out K1.out (RKey.one1 key) O1.out P1.out
      simp only [Nat.zero_add] at q1 q2
      have hsz := HS.out
      refine ⟨RIn.more q1 (fun k hk => ?_) (fun k hk => hk.2), ?_, ?_⟩
      · rcases hk with hk | hk
        · exact ⟨hk.1, by have := q2.size; omega⟩
        · exact ⟨by omega, hk.2⟩
      · exact ⟨q2.os.trans HL.out.os, q2.output.trans HL.out.output, Nat.le_trans HL.out.size q2.size, fun k hk => (q2.block k (by omega) (by omega)).trans (HL.out.block k hk)⟩
      · exact HB.out.kept q2 (by omega)
  case rest =>
    obtain ⟨m, hm⟩ : ∃ m : Nat, servers = (m : Int) := ⟨servers.toNat, by omega⟩
    subst hm
    clear c4 f4 n2 lb HO4 HN4 C4 F4 HR HB HL HS LB
    generalize hw0 : w.heap.size = N at *
    go_wp2_with fail
    go_loopw [5] (fun iv wr => ∃ i : Nat, i ≤ m ∧ iv = .int .i64 (i : Int) ∧ Hid (RIn wr (fun k => N + 1 ≤ k ∧ k < wr.heap.size) (N + 1) (RS.upTo m room key i) ∧ Low N w wr ∧ Blk wr N 23 (cfgL m room key))) (fun iv _ => m - (intOf iv).toNat)
    case atStart => exact ⟨0, Nat.zero_le _, rfl, hcut.out⟩
    case round =>
      obtain ⟨i, hi, rfl, HI⟩ := hrel
      have d0 : wr.cell? ⟨N, 0, none⟩ = some (.int .i64 (m : Int)) := HI.out.2.2.cell 0
      by_cases h1 : i < m
      · have q1 : decide ((i : Int) < (m : Int)) = true := by simp; omega
        obtain ⟨a5, cap5, c5, o5, n5⟩ := rin_rowSeen HI.out.1
        have hl5 : (RS.upTo m room key i).seen.length = i := by simp [RS.upTo]
        rw [hl5] at c5 o5 n5
        have f5 := HI.out.1.frozen 5
        have lb := HI.out.1.lt
        have O5 := hid o5
        have N5 := hid n5
        have C5 := hid c5
        have F5 := hid f5
        have LB := hid lb
        clear o5 n5
        go_upto_region 9 with (at_builtin; refine wpList_append_mine _ rfl (.tmp 56) (.tmp 57) 63 rfl 3 _ 1 8 Tryz.underlying63 info3 rfl (by omega) (.slice a5 i cap5) i _ rfl (O5.out.alloc _) ⟨wr.heap.size, 0, none⟩ 1 1 (one 0) rfl rfl (by exact news_new wr (one 0) 3) (by simp [one, Value.oneCell']) ⟨by omega, by omega⟩ ?_; intro v' w1 o1 k1 p1; obtain ⟨a', cap', rfl, _, _⟩ := ownsRow_view o1; have O1 := hid o1; have K1 := hid k1; have P1 := hid p1; have c5w := kept_cell k1 LB.out N5.out C5.out; have f5w := kept_frozen k1 LB.out N5.out F5.out; clear o1 k1 p1)
        go_name_world W2 hW2
        obtain ⟨r1, k1⟩ := rin_appSeen HI.out.1 C5.out K1.out 0 (by rw [hl5]; exact O1.out) P1.out
        rw [hW2] at r1 k1
        have hs1 := K1.out.size
        have r2 : RIn W2 (fun k => N + 1 ≤ k ∧ k < W2.heap.size) (N + 1) { RS.upTo m room key i with seen := (RS.upTo m room key i).seen ++ [0] } := RIn.more r1 (fun k hk => by
          have := k1.size
          rcases hk with hk | hk
          · exact ⟨hk.1, by omega⟩
          · exact ⟨by have := HI.out.1.lt; omega, hk.2⟩) (fun k hk => hk.2)
        have k2 : Low N w W2 := ⟨k1.os.trans HI.out.2.1.os, k1.output.trans HI.out.2.1.output, Nat.le_trans HI.out.2.1.size k1.size, fun k hk => (k1.block k (by have := HI.out.1.lt; omega) (by omega)).trans (HI.out.2.1.block k hk)⟩
        have b2 : Blk W2 N 23 (cfgL m room key) := HI.out.2.2.kept k1 (by omega)
        have HR2 := hid r2
        have HK2 := hid k2
        have HB2 := hid b2
        obtain ⟨a6, cap6, c6x, o6x, n6x⟩ := rin_rowOp r2
        have hl6 : (RS.upTo m room key i).ops.length = i := by simp [RS.upTo]
        have c6 : W2.cell? ⟨N + 1, 6, none⟩ = some (.slice a6 (RS.upTo m room key i).ops.length cap6) := c6x
        have o6 : W2.ownsRow 0 72 9 (.slice a6 (RS.upTo m room key i).ops.length cap6) (RS.upTo m room key i).ops.length ((RS.upTo m room key i).ops.flatMap RUnd.cells) := o6x
        have n6 : (Value.slice a6 (RS.upTo m room key i).ops.length cap6).ownBlock ≠ some (N + 1) := n6x
        clear c6x o6x n6x
        rw [hl6] at c6 o6 n6
        have f6 := r2.frozen 6
        have lb2 := r2.lt
        have O6 := hid o6
        have N6 := hid n6
        have C6 := hid c6
        have F6 := hid f6
        have LB2 := hid lb2
        have HL6 := hid hl6
        clear r1 k1 r2 k2 b2 o6 n6 hW2 c5 f5 lb hl5 O5 N5 C5 F5 LB c5w f5w O1 K1 P1 hs1 d0 hl6
        go_wp2_with (at_builtin; refine wpList_append_mine _ rfl (.tmp 65) (.tmp 67) 64 rfl 72 _ 9 88 Tryz.underlying64 info72 rfl (by omega) (.slice a6 i cap6) i _ rfl (O6.out.alloc _) ⟨W2.heap.size, 0, none⟩ 1 1 RUnd.zero.cells rfl rfl (by exact news_new W2 RUnd.zero.cells 72) (RUnd.one _) ⟨by omega, by omega⟩ ?_; intro v' w1 o1 k1 p1; obtain ⟨a', cap', rfl, _, _⟩ := ownsRow_view o1; have O1 := hid o1; have K1 := hid k1; have P1 := hid p1; have c6w := kept_cell k1 LB2.out N6.out C6.out; have f6w := kept_frozen k1 LB2.out N6.out F6.out; clear o1 k1 p1)
        go_roundw
        case rel =>
          obtain ⟨r1, k1⟩ := rin_appOp HR2.out C6.out K1.out RUnd.zero (v' := .slice a' (i + 1) cap') (by show World.ownsRow _ 0 72 9 _ ((RS.upTo m room key i).ops.length + 1) _; rw [HL6.out]; exact O1.out) P1.out
          have hs1 := K1.out.size
          refine ⟨i + 1, by omega, by simp, ?_, ?_, ?_⟩
          · have e : ({ RS.upTo m room key i with seen := (RS.upTo m room key i).seen ++ [0], ops := (RS.upTo m room key i).ops ++ [RUnd.zero] } : RS) = RS.upTo m room key (i + 1) := by
              simp [RS.upTo, List.replicate_succ']
            rw [← e]
            exact RIn.more r1 (fun k hk => by
              have := k1.size
              rcases hk with hk | hk
              · exact ⟨hk.1, by omega⟩
              · exact ⟨by have := HR2.out.lt; omega, hk.2⟩) (fun k hk => hk.2)
          · exact ⟨k1.os.trans HK2.out.os, k1.output.trans HK2.out.output, Nat.le_trans HK2.out.size k1.size, fun k hk => (k1.block k (by have := HR2.out.lt; omega) (by omega)).trans (HK2.out.block k hk)⟩
          · exact HB2.out.kept k1 (by omega)
        case measure => simp [intOf]; omega
      · have q1 : decide ((i : Int) < (m : Int)) = false := by simp; omega
        obtain rfl : i = m := by omega
        go_wp2_with fail
        clear d0
        go_loopw [6] (fun pv wx => ∃ p : Nat, p ≤ 8 ∧ pv = .int .i64 (p : Int) ∧ Hid (RIn wx (fun k => N + 1 ≤ k ∧ k < wx.heap.size) (N + 1) { RS.upTo i room key i with node := List.replicate p (-1) ++ List.replicate (8 - p) 0 } ∧ Low N w wx)) (fun pv _ => 8 - (intOf pv).toNat)
        case atStart => exact ⟨0, by omega, rfl, HI.out.1, HI.out.2.1⟩
        case round =>
          obtain ⟨p, hp, rfl, HP⟩ := hrel
          by_cases h2 : p < 8
          · have q2 : decide ((p : Int) < 8) = true := by simp; omega
            have np := rin_node HP.out.1 p 0 (by
              show (List.replicate p (-1) ++ List.replicate (8 - p) (0 : Int))[p]? = some 0
              rw [List.getElem?_append_right (by simp), List.length_replicate, Nat.sub_self, List.getElem?_replicate, if_pos (by omega)])
            have fp := HP.out.1.frozen (11 + p)
            have R1 := hid (rin_setNode HP.out.1 p h2 (-1))
            go_wp2_with fail
            go_roundw
            case rel =>
              refine ⟨p + 1, by omega, by simp, ?_, HP.out.2.setCell (by show N ≤ N + 1; omega) _⟩
              have e : (List.replicate p (-1) ++ List.replicate (8 - p) (0 : Int)).set p (-1) = List.replicate (p + 1) (-1) ++ List.replicate (8 - (p + 1)) 0 := by
                rw [List.set_append_right _ _ (by simp), List.length_replicate, Nat.sub_self, show 8 - p = (8 - (p + 1)) + 1 by omega, List.replicate_succ (n := 8 - (p + 1))]
                rw [List.set_cons_zero, List.replicate_succ', List.append_assoc]
                rfl
              have r := R1.out
              rw [show ({ RS.upTo i room key i with node := List.replicate p (-1) ++ List.replicate (8 - p) 0 } : RS).node.set p (-1) = List.replicate (p + 1) (-1) ++ List.replicate (8 - (p + 1)) 0 from e] at r
              exact RIn.more r (fun k hk => ⟨hk.1, by simpa using hk.2⟩) (fun k hk => hk.2)
            case measure => simp [intOf]; omega
          · have q2 : decide ((p : Int) < 8) = false := by simp; omega
            obtain rfl : p = 8 := by omega
            go_wp2_with fail
            go_ret2
            exact ⟨rfl, HP.out.1, HP.out.2⟩
end Go.Proofs.YtggbjffmclpmgaaGreatDoor
namespace Go.Proofs.YtggbjffmclpmgaaGreatDoor
open Go.RowKit

theorem marks_step (i : Nat) (k : Int) (l : List Ent) (h : i < l.length) : (marks i k ++ l.drop i).set i (markE k) = marks (i + 1) k ++ l.drop (i + 1) := by
  have hm : (marks i k).length = i := by simp [marks]
  rw [List.drop_eq_getElem_cons h, List.set_append_right _ _ (by omega), hm, Nat.sub_self, List.set_cons_zero]
  have : marks (i + 1) k = marks i k ++ [markE k] := by simp [marks, List.replicate_succ']
  rw [this, List.append_assoc]
  rfl
theorem marks_len (n : Nat) (k : Int) : (marks n k).length = n := by simp [marks]
theorem marks_snoc (n : Nat) (k : Int) : marks (n + 1) k = marks n k ++ [markE k] := by simp [marks, List.replicate_succ']
theorem out_append {w w' : World} {H : Nat → Prop} {o : LOut} {v : Value} {m : Nat} {k : Int} (h : OutOk w H o) (hs : (∀ g, H g → v.ownBlock ≠ some g) ∨ (o.mark = k ∧ lenOf o.l ≤ m)) (ho : w'.ownsRow 0 50 6 v m ((marks m k).flatMap Ent.cells)) (k0 : 0 ≤ k) (k1 : k ≤ 1000000000) (hm : m ≤ 1000000)
    (K : Kept (fun q => v.ownBlock = some q) w w') : OutOk w' H o := by
  obtain ⟨m0, m1, a, n, cap, hl, hn, hg⟩ := h
  refine ⟨m0, m1, a, n, cap, hl, hn, fun h0 => ?_⟩
  obtain ⟨g, ha, hH, hlt, hr⟩ := hg h0
  refine ⟨g, ha, hH, Nat.lt_of_lt_of_le hlt K.size, fun j hj q u hu => ?_⟩
  by_cases e : v.ownBlock = some g
  · rcases hs with hs | hs
    · exact absurd e (hs g hH)
    · obtain ⟨_, _, a2, n2, cap2, hl2, _, hg2⟩ := out_marks (H := fun _ => True) ho (fun _ _ => trivial) k0 k1 hm
      have hnm : n ≤ m := by have := hs.2; rw [hl] at this; exact this
      have hl3 : v = .slice a2 n2 cap2 := hl2
      have hn2 : n2 = m := by
        obtain ⟨a3, cap3, e3, _⟩ := ownsRow_view ho
        rw [hl3] at e3
        injection e3
      obtain ⟨g2, ha2, _, _, hr2⟩ := hg2 (by omega)
      have hgg : g2 = g := by
        rw [hl3, ha2] at e
        exact Option.some.inj e
      subst hgg
      rw [hs.1] at hu
      exact hr2 j (by omega) q u hu
  · exact K.cell (hr j hj q u hu) e
/-- How far the caller's writing is. -/
def OwnSt (w : World) (F H : Nat → Prop) (b bx r : Nat) (outs : List LOut) (v0 : Value) (kk : Int) (V : World) (v : Value) (m : Nat) (os : List LOut) : Prop :=
  ∃ F1 H1 : Nat → Prop, WIn V F1 b bx r os ∧ (∀ o ∈ os, OutOk V H1 o ∧ ((o ∈ outs ∧ OutOk V H o) ∨ (o.mark = kk ∧ lenOf o.l ≤ m))) ∧ (∀ g, H1 g → ¬ F1 g) ∧ (∀ q, F1 q → F q ∨ w.heap.size ≤ q) ∧ (∀ q, H1 q → H q ∨ v0.ownBlock = some q ∨ w.heap.size ≤ q) ∧ (∀ q, H1 q → q < V.heap.size) ∧
    Kept (fun q => F q ∨ v0.ownBlock = some q) w V ∧ V.ownsRow 0 50 6 v m ((marks m kk).flatMap Ent.cells) ∧ (∀ g, v.ownBlock = some g → H1 g ∧ ¬ H g) ∧ (∀ g, H g → H1 g)
theorem st_low {w : World} {F H : Nat → Prop} {b bx r : Nat} {outs os : List LOut} {v0 v : Value} {kk : Int} {V V2 : World} {m : Nat} (h : OwnSt w F H b bx r outs v0 kk V v m os) (k : Low V.heap.size V V2) : OwnSt w F H b bx r outs v0 kk V2 v m os := by
  obtain ⟨F1, H1, a1, a2, a3, a4, a5, a6, a7, a8, a9, a10⟩ := h
  exact ⟨F1, H1, win_low a1 k, fun o ho => ⟨out_low (a2 o ho).1 k, (a2 o ho).2.imp (fun x => ⟨x.1, out_low x.2 k⟩) id⟩, a3, a4, a5, fun q hq => Nat.lt_of_lt_of_le (a6 q hq) k.size, a7.trans k.kept (fun _ f => f) (fun _ _ f => f.elim), ownsRow_at a8 (fun q hq => k.block q (a8.lt q hq).2), a9, a10⟩
theorem st_append {w : World} {F H : Nat → Prop} {b bx r : Nat} {outs os : List LOut} {v0 v v' : Value} {kk : Int} {V V2 : World} {m : Nat} {ob : Obj} (h : OwnSt w F H b bx r outs v0 kk V v m os) (hH : ∀ g, H g → g < w.heap.size) (k0 : 0 ≤ kk) (k1 : kk ≤ 1000000000) (hm : m ≤ 1000)
    (K : Kept (fun q => v.ownBlock = some q) (V.alloc ob) V2) (ho : V2.ownsRow 0 50 6 v' (m + 1) ((marks m kk).flatMap Ent.cells ++ (markE kk).cells)) (P : v'.ownBlock = v.ownBlock ∨ v'.ownBlock = some (V.alloc ob).heap.size) (hold : V2.ownsRow 0 50 6 v m ((marks m kk).flatMap Ent.cells)) :
    OwnSt w F H b bx r outs v0 kk V2 v' (m + 1) os := by
  obtain ⟨F1, H1, a1, a2, a3, a4, a5, a6, a7, a8, a9, a10⟩ := st_low h ((Low.refl _ V).alloc (Nat.le_refl _) ob)
  have hF1 : ∀ q, F1 q → q < (V.alloc ob).heap.size := by
    obtain ⟨u, hO⟩ := a1
    exact hO.below
  have hsz := a7.size
  have hnew : ∀ g, v'.ownBlock = some g → v.ownBlock = some g ∨ (V.alloc ob).heap.size ≤ g := fun g e => by
    rcases P with q | q
    · exact Or.inl (by rw [← q]; exact e)
    · rw [q] at e; exact Or.inr (Nat.le_of_eq (Option.some.inj e))
  refine ⟨F1, fun g => H1 g ∨ v'.ownBlock = some g, ?_, fun o hom => ?_, fun g hg => ?_, a4, fun q hq => ?_, fun q hq => ?_, ?_, ?_, fun g e => ⟨Or.inr e, ?_⟩, fun g e => Or.inl (a10 g e)⟩
  · obtain ⟨u, hO⟩ := a1
    exact ⟨u, hO.kept K (fun q hq e => a3 q (a9 q e).1 hq)⟩
  · obtain ⟨b1, b2⟩ := a2 o hom
    rcases b2 with b2 | b2
    · have q : OutOk V2 H o := out_append b2.2 (Or.inl (fun g hg e => (a9 g e).2 hg)) hold k0 k1 (by omega) K
      exact ⟨out_more q (fun g hg => Or.inl (a10 g hg)), Or.inl ⟨b2.1, q⟩⟩
    · have q : OutOk V2 H1 o := out_append b1 (Or.inr b2) hold k0 k1 (by omega) K
      exact ⟨out_more q (fun g hg => Or.inl hg), Or.inr ⟨b2.1, by omega⟩⟩
  · rcases hg with hg | hg
    · exact a3 g hg
    · rcases hnew g hg with e | e
      · exact a3 g (a9 g e).1
      · intro f; have := hF1 g f; omega
  · rcases hq with hq | hq
    · exact a5 q hq
    · rcases hnew q hq with e | e
      · exact a5 q (a9 q e).1
      · exact Or.inr (Or.inr (by omega))
  · rcases hq with hq | hq
    · exact Nat.lt_of_lt_of_le (a6 q hq) K.size
    · exact (ho.lt q hq).2
  · refine a7.trans K (fun _ f => f) (fun q hq e => ?_)
    rcases a5 q (a9 q e).1 with x | x | x
    · exact absurd x (a9 q e).2
    · exact Or.inr x
    · omega
  · rw [marks_snoc, flat_snoc]; exact ho
  · rcases hnew g e with x | x
    · exact (a9 g x).2
    · intro f; have := hH g f; omega
theorem st_tell {w : World} {F H : Nat → Prop} {b bx r : Nat} {outs os : List LOut} {v0 v u u' : Value} {kk : Int} {V V2 : World} {m : Nat} {ob : Obj} (h : OwnSt w F H b bx r outs v0 kk V v m os) (k0 : 0 ≤ kk) (k1 : kk ≤ 1000000000) (hm : m ≤ 1000)
    (hu : V.cell? ⟨b, 2, none⟩ = some u) (K : Kept (fun q => u.ownBlock = some q) (V.alloc ob) V2) (ho : V2.ownsRow 0 48 2 u' (os.length + 1) (os.flatMap LOut.cells ++ (LOut.mk v kk).cells)) (P : u'.ownBlock = u.ownBlock ∨ u'.ownBlock = some (V.alloc ob).heap.size) :
    OwnSt w F H b bx r outs v0 kk (V2.setCell ⟨b, 2, none⟩ u') v m (os ++ [⟨v, kk⟩]) := by
  obtain ⟨F1, H1, a1, a2, a3, a4, a5, a6, a7, a8, a9, a10⟩ := h
  obtain ⟨w2, k2, p2⟩ := win_app a1 hu K ⟨v, kk⟩ ho P
  have hsz := a7.size
  have hlen : ∃ a cap, v = .slice a m cap := by
    obtain ⟨a, cap, e, _⟩ := ownsRow_view a8
    exact ⟨a, cap, e⟩
  have h8 : (V2.setCell ⟨b, 2, none⟩ u').ownsRow 0 50 6 v m ((marks m kk).flatMap Ent.cells) := ownsRow_at a8 (fun q hq => k2.block q (a8.lt q hq).2 (a3 q (a9 q hq).1))
  refine ⟨_, H1, w2, fun o hom => ?_, fun g hg hf => ?_, fun q hq => ?_, a5, fun q hq => Nat.lt_of_lt_of_le (a6 q hq) k2.size, ?_, h8, a9, a10⟩
  · rcases List.mem_append.1 hom with hom | hom
    · obtain ⟨b1, b2⟩ := a2 o hom
      exact ⟨out_kept b1 k2 a3, b2.imp (fun x => ⟨x.1, out_kept x.2 k2 (fun g hg => a3 g (a10 g hg))⟩) id⟩
    · obtain rfl : o = ⟨v, kk⟩ := by simpa using hom
      refine ⟨out_marks h8 (fun g e => (a9 g e).1) k0 k1 (by omega), Or.inr ⟨rfl, ?_⟩⟩
      obtain ⟨a, cap, rfl⟩ := hlen
      exact Nat.le_refl _
  · rcases hf with hf | hf
    · exact a3 g hg hf
    · rcases p2 g hf with x | x
      · exact a3 g hg x
      · have := a6 g hg; omega
  · rcases hq with hq | hq
    · exact a4 q hq
    · exact (p2 q hq).elim (a4 q) (fun e => Or.inr (Nat.le_trans hsz e))
  · refine a7.trans k2 (fun _ f => f) (fun q hq f => ?_)
    rcases a4 q f with x | x
    · exact Or.inl x
    · omega
/-- An element written whole, in a slice that is owned. -/
theorem own_elem50 {w : World} {g n cap : Nat} {l : List Ent} (h : w.ownsRow 0 50 6 (.slice (some ⟨g, 0, none⟩) n cap) n (l.flatMap Ent.cells)) (hn : n = l.length) (i : Nat) (hi : i < l.length) (e : Ent) :
    (w.setCells g (i * 6) e.cells).ownsRow 0 50 6 (.slice (some ⟨g, 0, none⟩) n cap) n ((l.set i e).flatMap Ent.cells) ∧ w.there g (i * 6) 6 := by
  have h2 := ownsRow_over e.cells (i * 6) h
  rw [flat_set 6 Ent.cells Ent.len l i e hi] at h2
  exact ⟨h2, ownsRow_there h (by omega)⟩
theorem stE50 {ops : Array Oper} {rest : List Oper} {d : Option Tmp} {t0 : TypeId} {pos : String} {after : Array Edge} {a : Act} {w : World} {Q : Exit → Act → World → Prop} (x y : Operand) (g o : Nat) (u : Ent)
    (hx : a.eval x = .pointer (some ⟨g, o, none⟩)) (hy : a.eval y = .agg u.cells.toArray) (ht : w.there g o 6)
    (h : wpList Tryz.prog ops Q rest (a.put d undef) (w.setCells g o u.cells)) :
    wpList Tryz.prog ops Q ({ dst := d, op := .store 50 x y, type := t0, pos := pos, after := after, guard := none } :: rest) a w :=
  stAny 50 x y g o u.cells hx hy ht (sz50 u) u.one h
set_option maxRecDepth 100000 in
set_option maxHeartbeats 2000000 in
theorem own_any (w : World) (F H : Nat → Prop) (b bx r : Nat) (outs : List LOut) (v : Value) (l : List Ent) (h : WIn w F b bx r outs) (ho : ∀ o ∈ outs, OutOk w H o) (hd : ∀ g, H g → ¬ F g) (hv : w.ownsRow 0 50 6 v l.length (l.flatMap Ent.cells))
    (hvF : ∀ g, v.ownBlock = some g → ¬ F g ∧ ¬ H g) (hH : ∀ g, H g → g < w.heap.size) (hl : l.length ≤ 100) (hn : outs.length ≤ 100000000) :
    Calls Tryz.prog 58 #[.pointer (some ⟨b, 0, none⟩), v] w fun e w' => e = .returned (.tuple #[]) ∧ ∃ outs' F' H', outs'.length = outs.length + 4 ∧ WIn w' F' b bx r outs' ∧ (∀ o ∈ outs', OutOk w' H' o) ∧ (∀ g, H' g → ¬ F' g) ∧
      (∀ q, F' q → F q ∨ w.heap.size ≤ q) ∧ (∀ q, H' q → H q ∨ v.ownBlock = some q ∨ w.heap.size ≤ q) ∧ (∀ q, H' q → q < w'.heap.size) ∧ Kept (fun q => F q ∨ v.ownBlock = some q) w w' := by
  obtain ⟨a2, cap2, c2, o2, n2, f2, F2⟩ := win_row h
  obtain ⟨a, cap, rfl, hnc, hgs⟩ := ownsRow_view hv
  have HW := hid h
  have HO := hid ho
  have HD := hid hd
  have HV := hid hv
  have HVF := hid hvF
  have HGS := hid hgs
  clear h ho hd hv hvF o2 n2 f2 F2 hgs
  go_enter Tryz.func58, Tryz.ntmps58
  go_wp2
  obtain ⟨kk, hkk⟩ : ∃ kk : Int, kk = (outs.length : Int) := ⟨_, rfl⟩
  rw [← hkk]
  go_loopg [5] l.length (fun left iv wr => ∃ i : Nat, left = l.length - i ∧ i ≤ l.length ∧ iv = .int .i64 (i : Int) ∧ Hid (Kept (fun q => (Value.slice a l.length cap).ownBlock = some q) w wr ∧ wr.ownsRow 0 50 6 (.slice a l.length cap) l.length ((marks i kk ++ l.drop i).flatMap Ent.cells)))
  case atStart => exact ⟨0, rfl, Nat.zero_le _, rfl, Kept.refl _ _, by simpa [marks] using HV.out⟩
  case round =>
    obtain ⟨i, hgk, hi, rfl, HI⟩ := hrel
    have HGK := hid hgk
    clear hgk
    by_cases h1 : i < l.length
    · have q1 : decide ((i : Int) < (l.length : Int)) = true := by simp; omega
      obtain ⟨g, rfl, _, _, _⟩ := HGS.out (by omega)
      have k0 : 0 ≤ kk := by omega
      have k1 : kk ≤ 1000000000 := by omega
      have hLl : (marks i kk ++ l.drop i).length = l.length := by rw [List.length_append, marks_len, List.length_drop]; omega
      have HLl := hid hLl
      have HK := hid hkk
      clear hkk hLl
      have i1 : (i : Int) < (l.length : Int) := by omega
      go_wp2_with (first | (go_at_call 20; refine (lmark_any _ _ k0 k1).mono ?_; rintro e y1 ⟨rfl, l1⟩; have o1 : y1.ownsRow 0 50 6 (.slice (some ⟨g, 0, none⟩) l.length cap) l.length ((marks i kk ++ l.drop i).flatMap Ent.cells) := ownsRow_at HI.out.2 (fun q hq => l1.block q (HI.out.2.lt q hq).2); have E1 := hid (own_elem50 o1 HLl.out.symm i (by rw [HLl.out]; exact h1) (markE kk)); have L1 := hid l1; clear l1 o1) | ((with_reducible refine stE50 (.tmp 22) (.tmp 21) g (i * 6) (markE kk) ?_ ?_ E1.out.2 ?_); rfl; rfl))
      go_roundg (l.length - (i + 1))
      case rel =>
        refine ⟨i + 1, rfl, by omega, by simp, ?_, ?_⟩
        · exact (HI.out.1.trans L1.out.kept (H := fun q => (Value.slice (some ⟨g, 0, none⟩) l.length cap).ownBlock = some q) (fun _ f => f) (fun _ _ f => f.elim)).trans (setCells_kept g _ _ y1) (fun _ f => f) (fun q _ (e : q = g) => by rw [e]; rfl)
        · have q := E1.out.1
          rw [marks_step i kk l h1] at q
          exact q
      case measure => have := HGK.out; omega
    · have q1 : decide ((i : Int) < (l.length : Int)) = false := by simp; omega
      obtain rfl : i = l.length := by omega
      have hd0 : marks l.length kk ++ l.drop l.length = marks l.length kk := by rw [List.drop_length, List.append_nil]
      rw [hd0] at HI
      have hW1 : WIn wr F b bx r outs := by
        obtain ⟨u, hO⟩ := HW.out
        exact ⟨u, hO.kept HI.out.1 (fun q hq e => (HVF.out q e).1 hq)⟩
      obtain ⟨a3, cap3, c3, o3, n3, f3, F3⟩ := win_row hW1
      have lb : b < wr.heap.size := by obtain ⟨u, hO⟩ := hW1; exact hO.lt
      have k0 : 0 ≤ kk := by omega
      have k1 : kk ≤ 1000000000 := by omega
      have C3 := hid c3
      have O3 := hid o3
      have N3 := hid n3
      have F3' := hid f3
      have LB := hid lb
      have HW1 := hid hW1
      have HKK := hid hkk
      clear o3 n3 F3 hW1 c2 hkk hd0
      go_upto_region 6 with (at_builtin; refine wpList_append_mine _ rfl (.tmp 27) (.tmp 31) 43 rfl 48 _ 2 32 Tryz.underlying43 info48 rfl (by omega) (.slice a3 outs.length cap3) outs.length _ rfl (O3.out.alloc _) ⟨wr.heap.size, 0, none⟩ 1 1 (LOut.mk (.slice a l.length cap) kk).cells rfl rfl (by exact news_new wr (LOut.mk (.slice a l.length cap) kk).cells 48) (by simp [LOut.cells, Value.oneCell']) ⟨by omega, by omega⟩ ?_; intro v' w1 o1 k1' p1; obtain ⟨a', cap', rfl, _, _⟩ := ownsRow_view o1; have O1 := hid o1; have K1 := hid k1'; have P1 := hid p1; have c3w := kept_cell k1' LB.out N3.out C3.out; have f3w := kept_frozen k1' LB.out N3.out F3'.out; clear o1 k1' p1)
      obtain ⟨w2, k2, p2⟩ := win_app HW1.out C3.out K1.out ⟨.slice a l.length cap, kk⟩ O1.out P1.out
      go_name_world V hV
      rw [hV] at w2 k2
      -- what holds of the lists from now on
      have base : Hid (OwnSt w F H b bx r outs (.slice a l.length cap) kk V (.slice a l.length cap) l.length (outs ++ [⟨.slice a l.length cap, kk⟩])) := by
        have hsz := HI.out.1.size
        have hvlt : ∀ g, (Value.slice a l.length cap).ownBlock = some g → g < w.heap.size := fun g e => (HV.out.lt g e).2
        have hoV : V.ownsRow 0 50 6 (.slice a l.length cap) l.length ((marks l.length kk).flatMap Ent.cells) := ownsRow_at HI.out.2 (fun q hq => k2.block q (HI.out.2.lt q hq).2 (HVF.out q hq).1)
        have hKV : Kept (fun q => F q ∨ (Value.slice a l.length cap).ownBlock = some q) w V := HI.out.1.trans k2 (fun _ e => Or.inr e) (fun _ _ f => Or.inl f)
        refine ⟨_, fun g => H g ∨ (Value.slice a l.length cap).ownBlock = some g, w2, fun o ho => ?_, fun g hg hf => ?_, fun q hq => ?_, fun q hq => hq.elim Or.inl (fun e => Or.inr (Or.inl e)), fun q hq => ?_, hKV, hoV, fun g e => ⟨Or.inr e, (HVF.out g e).2⟩, fun g e => Or.inl e⟩
        · rcases List.mem_append.1 ho with ho | ho
          · have h1 : OutOk wr H o := out_kept (HO.out o ho) HI.out.1 (fun g hg e => (HVF.out g e).2 hg)
            have h2 : OutOk V H o := out_kept h1 k2 (fun g hg => HD.out g hg)
            exact ⟨out_more h2 (fun g hg => Or.inl hg), Or.inl ⟨ho, h2⟩⟩
          · obtain rfl : o = ⟨.slice a l.length cap, kk⟩ := by simpa using ho
            exact ⟨out_marks hoV (fun g e => Or.inr e) k0 k1 (by omega), Or.inr ⟨rfl, Nat.le_refl _⟩⟩
        · rcases hf with hf | hf
          · rcases hg with hg | hg
            · exact HD.out g hg hf
            · exact (HVF.out g hg).1 hf
          · have hlt : g < w.heap.size := hg.elim (hH g) (hvlt g)
            rcases p2 g hf with h3 | h3
            · rcases hg with hg | hg
              · exact HD.out g hg h3
              · exact (HVF.out g hg).1 h3
            · omega
        · rcases hq with hq | hq
          · exact Or.inl hq
          · exact (p2 q hq).imp id (fun e => Nat.le_trans hsz e)
        · have h3 : q < w.heap.size := hq.elim (hH q) (hvlt q)
          exact Nat.lt_of_lt_of_le h3 hKV.size
      clear w2 k2 p2 hV O1 K1 P1 c3w f3w c3 f3 lb C3 O3 N3 F3' LB HW1 HI HGK HGS
      go_wp2_with fail
      go_loopg [1, 6] 3 (fun left lv iv wr => ∃ (j : Nat) (a1 : Option Addr) (cap1 : Nat) (os : List LOut), left = 3 - j ∧ j ≤ 3 ∧ lv = .slice a1 (l.length + j) cap1 ∧ iv = .int .i64 (j : Int) ∧ Hid (os.length = outs.length + 1 + j ∧ OwnSt w F H b bx r outs (.slice a l.length cap) kk wr (.slice a1 (l.length + j) cap1) (l.length + j) os))
      case atStart => exact ⟨0, a, cap, outs ++ [⟨.slice a l.length cap, kk⟩], rfl, by omega, rfl, rfl, by simp, base.out⟩
      case round =>
        obtain ⟨j, a1, cap1, os, hgk, hj, rfl, rfl, HJ⟩ := hrel
        have HGK := hid hgk
        clear hgk base
        by_cases h3 : j < 3
        · have q3 : decide ((j : Int) < 3) = true := by simp; omega
          go_upto_region 10 with (first | (go_at_call 20; refine (lmark_any _ _ k0 k1).mono ?_; rintro e y1 ⟨rfl, l1⟩; have S1 := hid (st_low HJ.out.2 l1); clear l1) | (at_builtin; refine wpList_append_both _ rfl (.tmp 39) (.tmp 42) 46 rfl 50 _ 6 64 Tryz.underlying46 info50 rfl (by omega) (.slice a1 (l.length + j) cap1) (l.length + j) ((marks (l.length + j) kk).flatMap Ent.cells) rfl (by obtain ⟨_, _, _, _, _, _, _, _, _, q, _, _⟩ := S1.out; exact q.alloc _) ⟨y1.heap.size, 0, none⟩ 1 1 (markE kk).cells rfl rfl (by exact news_new y1 (markE kk).cells 50) (Ent.one _) ⟨by omega, by omega⟩ ?_; intro v' w1 o1 k1' p1 old1; obtain ⟨a', cap', rfl, _, _⟩ := ownsRow_view o1; have S2 := hid (st_append S1.out hH k0 k1 (by omega) k1' o1 p1 old1); clear o1 k1' p1 old1))
          obtain ⟨F2, H2, w2, _⟩ := S2.out
          obtain ⟨a3, cap3, c3, o3, n3, f3, _⟩ := win_row w2
          have lb : b < w1.heap.size := by obtain ⟨u, hO⟩ := w2; exact hO.lt
          have hol := HJ.out.1
          have HOL := hid hol
          have C3 := hid c3
          have O3 := hid o3
          have N3 := hid n3
          have F3' := hid f3
          have LB := hid lb
          have hob : os.length + 1 ≤ 1000000000 := by omega
          have HOB := hid hob
          clear o3 n3 w2 hol hob
          go_wp2_with (at_builtin; refine wpList_append_mine _ rfl (.tmp 48) (.tmp 52) 43 rfl 48 _ 2 32 Tryz.underlying43 info48 rfl (by omega) (.slice a3 os.length cap3) os.length _ rfl (O3.out.alloc _) ⟨w1.heap.size, 0, none⟩ 1 1 (LOut.mk (.slice a' (l.length + j + 1) cap') kk).cells rfl rfl (by exact news_new w1 (LOut.mk (.slice a' (l.length + j + 1) cap') kk).cells 48) (by simp [LOut.cells, Value.oneCell']) ⟨HOB.out, by omega⟩ ?_; intro v' w3 o1 k1' p1; obtain ⟨a4, cap4, rfl, _, _⟩ := ownsRow_view o1; have S3 := hid (st_tell S2.out k0 k1 (by omega) C3.out k1' o1 p1); have c3w := kept_cell k1' LB.out N3.out C3.out; have f3w := kept_frozen k1' LB.out N3.out F3'.out; clear o1 k1' p1)
          go_roundg (3 - (j + 1))
          case rel => exact ⟨j + 1, a', cap', os ++ [⟨.slice a' (l.length + j + 1) cap', kk⟩], rfl, by omega, rfl, by simp, by simp [HOL.out]; omega, S3.out⟩
          case measure => have := HGK.out; omega
        · have q3 : decide ((j : Int) < 3) = false := by simp; omega
          obtain rfl : j = 3 := by omega
          go_wp2_with fail
          go_end0
          obtain ⟨e1, F1, H1, a1', a2', a3', a4', a5', a6', a7', _, _, _⟩ := HJ.out
          exact ⟨rfl, os, F1, H1, by omega, a1', fun o ho => (a2' o ho).1, a3', a4', a5', a6', a7'⟩
end Go.Proofs.YtggbjffmclpmgaaGreatDoor
namespace Go.Proofs.YtggbjffmclpmgaaGreatDoor
open Go.RowKit

/-! The program's coffer as plain data, and how it lies in memory. -/

structure PKey where
  text : ByteArray
  came : Int
  wrote : Int
def PKey.cells (k : PKey) : List Value := [.string k.text, .int .i64 k.came, .int .i64 k.wrote]
structure PSrv where
  seen : Int
  busy : Bool
  epoch : Int
  rev : Int
  e : Ent
def PSrv.zero : PSrv := ⟨0, false, 0, 0, Ent.zero⟩
def PSrv.cells (s : PSrv) : List Value := [.int .i64 s.seen, .bool s.busy, .int .i64 s.epoch, .int .i64 s.rev, .string s.e.path, .int .i64 s.e.rev, .int .i64 s.e.key, .int .i64 s.e.draw, .string s.e.sealed, .bool s.e.gone]
structure PS where
  rev : Int
  floor : Int
  epoch : Int
  write : Int
  turn : Int
  room : Int
  draws : Int
  keys : List PKey
  servers : List PSrv
  entries : List Ent
def PS.cells (X : PS) (vK vS vE : Value) : List Value := [.int .i64 X.rev, .int .i64 X.floor, .int .i64 X.epoch, .int .i64 X.write, .int .i64 X.turn, .int .i64 X.room, .int .i64 X.draws, vK, vS, vE]
def PS.rows (X : PS) : List Row := [⟨7, 56, 3, X.keys.length, X.keys.flatMap PKey.cells⟩, ⟨8, 96, 10, X.servers.length, X.servers.flatMap PSrv.cells⟩, ⟨9, 50, 6, X.entries.length, X.entries.flatMap Ent.cells⟩]
/-- The program's coffer X lies at block b, in blocks of F. -/
def XIn (w : World) (F : Nat → Prop) (b : Nat) (X : PS) : Prop := ∃ vK vS vE, Own w F b 60 (X.cells vK vS vE) X.rows
theorem PKey.len (e : PKey) : e.cells.length = 3 := rfl
theorem PSrv.len (e : PSrv) : e.cells.length = 10 := rfl
theorem sz56 (e : PKey) : (Tryz.prog.info? 56).map (·.size) = some e.cells.length := show _ = some 3 by kernel_rfl
theorem sz96 (e : PSrv) : (Tryz.prog.info? 96).map (·.size) = some e.cells.length := show _ = some 10 by kernel_rfl
theorem PKey.one (e : PKey) : ∀ v ∈ e.cells, v.oneCell' = true := by simp [PKey.cells, Value.oneCell']
theorem PSrv.one (e : PSrv) : ∀ v ∈ e.cells, v.oneCell' = true := by simp [PSrv.cells, Value.oneCell']
theorem PS.offs (X : PS) (j : Nat) {r : Row} (hj : X.rows[j]? = some r) : ∀ i s, X.rows[i]? = some s → i ≠ j → s.off ≠ r.off := by
  intro i s hi hne e
  have hm : X.rows.map Row.off = [7, 8, 9] := rfl
  have a1 : ([7, 8, 9] : List Nat)[i]? = some s.off := by rw [← hm, List.getElem?_map, hi]; rfl
  have a2 : ([7, 8, 9] : List Nat)[j]? = some r.off := by rw [← hm, List.getElem?_map, hj]; rfl
  rw [e] at a1
  exact hne ((List.getElem?_inj (List.getElem?_eq_some_iff.1 a1).1 (by decide)).1 (a1.trans a2.symm))
variable {w w' : World} {F G : Nat → Prop} {b : Nat} {X : PS}
theorem XIn.kept (h : XIn w F b X) (k : Kept G w w') (hd : ∀ i, F i → ¬ G i) : XIn w' F b X := by
  obtain ⟨vK, vS, vE, h⟩ := h
  exact ⟨vK, vS, vE, h.kept k hd⟩
theorem XIn.low (h : XIn w F b X) (k : Low w.heap.size w w') : XIn w' F b X := h.kept k.kept (fun _ _ f => f)
theorem XIn.alloc (h : XIn w F b X) (o : Obj) : XIn (w.alloc o) F b X := h.low ((Low.refl _ w).alloc (Nat.le_refl _) o)
theorem XIn.drew (h : XIn w F b X) : XIn w.drew F b X := h.low (Low.refl _ w).drew
theorem XIn.lt (h : XIn w F b X) : b < w.heap.size := by
  obtain ⟨vK, vS, vE, h⟩ := h
  exact h.lt
theorem XIn.below (h : XIn w F b X) : ∀ k, F k → k < w.heap.size := by
  obtain ⟨vK, vS, vE, h⟩ := h
  exact h.below
theorem XIn.inF (h : XIn w F b X) : F b := by
  obtain ⟨vK, vS, vE, h⟩ := h
  exact h.inF
theorem XIn.frozen (h : XIn w F b X) (i : Nat) : w.frozen? ⟨b, i, none⟩ = false := by
  obtain ⟨vK, vS, vE, h⟩ := h
  exact h.frozen i
theorem XIn.more (h : XIn w F b X) (hs : ∀ k, F k → G k) (hb : ∀ k, G k → k < w.heap.size) : XIn w G b X := by
  obtain ⟨vK, vS, vE, h⟩ := h
  exact ⟨vK, vS, vE, h.more hs hb⟩
theorem xin_keys (h : XIn w F b X) : Sl w b 7 3 (X.keys.map PKey.cells) := by
  obtain ⟨vK, vS, vE, h⟩ := h
  exact h.sl 0 PKey.len rfl
theorem xin_servers (h : XIn w F b X) : Sl w b 8 10 (X.servers.map PSrv.cells) := by
  obtain ⟨vK, vS, vE, h⟩ := h
  exact h.sl 1 PSrv.len rfl
theorem xin_entries (h : XIn w F b X) : Sl w b 9 6 (X.entries.map Ent.cells) := by
  obtain ⟨vK, vS, vE, h⟩ := h
  exact h.sl 2 Ent.len rfl
theorem xin_rev (h : XIn w F b X) : w.cell? ⟨b, 0, none⟩ = some (.int .i64 X.rev) := by
  obtain ⟨vK, vS, vE, h⟩ := h
  exact h.cell 0
theorem xin_set_rev (h : XIn w F b X) (n : Int) : XIn (w.setCell ⟨b, 0, none⟩ (.int .i64 n)) F b { X with rev := n } := by
  obtain ⟨vK, vS, vE, h⟩ := h
  exact ⟨vK, vS, vE, (h.set 0 (.int .i64 n) (by simp [PS.rows])).cast rfl rfl⟩
theorem xin_floor (h : XIn w F b X) : w.cell? ⟨b, 1, none⟩ = some (.int .i64 X.floor) := by
  obtain ⟨vK, vS, vE, h⟩ := h
  exact h.cell 1
theorem xin_set_floor (h : XIn w F b X) (n : Int) : XIn (w.setCell ⟨b, 1, none⟩ (.int .i64 n)) F b { X with floor := n } := by
  obtain ⟨vK, vS, vE, h⟩ := h
  exact ⟨vK, vS, vE, (h.set 1 (.int .i64 n) (by simp [PS.rows])).cast rfl rfl⟩
theorem xin_epoch (h : XIn w F b X) : w.cell? ⟨b, 2, none⟩ = some (.int .i64 X.epoch) := by
  obtain ⟨vK, vS, vE, h⟩ := h
  exact h.cell 2
theorem xin_set_epoch (h : XIn w F b X) (n : Int) : XIn (w.setCell ⟨b, 2, none⟩ (.int .i64 n)) F b { X with epoch := n } := by
  obtain ⟨vK, vS, vE, h⟩ := h
  exact ⟨vK, vS, vE, (h.set 2 (.int .i64 n) (by simp [PS.rows])).cast rfl rfl⟩
theorem xin_write (h : XIn w F b X) : w.cell? ⟨b, 3, none⟩ = some (.int .i64 X.write) := by
  obtain ⟨vK, vS, vE, h⟩ := h
  exact h.cell 3
theorem xin_set_write (h : XIn w F b X) (n : Int) : XIn (w.setCell ⟨b, 3, none⟩ (.int .i64 n)) F b { X with write := n } := by
  obtain ⟨vK, vS, vE, h⟩ := h
  exact ⟨vK, vS, vE, (h.set 3 (.int .i64 n) (by simp [PS.rows])).cast rfl rfl⟩
theorem xin_turn (h : XIn w F b X) : w.cell? ⟨b, 4, none⟩ = some (.int .i64 X.turn) := by
  obtain ⟨vK, vS, vE, h⟩ := h
  exact h.cell 4
theorem xin_set_turn (h : XIn w F b X) (n : Int) : XIn (w.setCell ⟨b, 4, none⟩ (.int .i64 n)) F b { X with turn := n } := by
  obtain ⟨vK, vS, vE, h⟩ := h
  exact ⟨vK, vS, vE, (h.set 4 (.int .i64 n) (by simp [PS.rows])).cast rfl rfl⟩
theorem xin_room (h : XIn w F b X) : w.cell? ⟨b, 5, none⟩ = some (.int .i64 X.room) := by
  obtain ⟨vK, vS, vE, h⟩ := h
  exact h.cell 5
theorem xin_set_room (h : XIn w F b X) (n : Int) : XIn (w.setCell ⟨b, 5, none⟩ (.int .i64 n)) F b { X with room := n } := by
  obtain ⟨vK, vS, vE, h⟩ := h
  exact ⟨vK, vS, vE, (h.set 5 (.int .i64 n) (by simp [PS.rows])).cast rfl rfl⟩
theorem xin_draws (h : XIn w F b X) : w.cell? ⟨b, 6, none⟩ = some (.int .i64 X.draws) := by
  obtain ⟨vK, vS, vE, h⟩ := h
  exact h.cell 6
theorem xin_set_draws (h : XIn w F b X) (n : Int) : XIn (w.setCell ⟨b, 6, none⟩ (.int .i64 n)) F b { X with draws := n } := by
  obtain ⟨vK, vS, vE, h⟩ := h
  exact ⟨vK, vS, vE, (h.set 6 (.int .i64 n) (by simp [PS.rows])).cast rfl rfl⟩
theorem xin_srvAt {i : Nat} {s : PSrv} (h : XIn w F b X) (ha : X.servers[i]? = some s) : ∃ g cap, w.cell? ⟨b, 8, none⟩ = some (.slice (some ⟨g, 0, none⟩) X.servers.length cap) ∧ g < w.heap.size ∧ (∀ j, j < 10 → w.cell? ⟨g, i * 10 + j, none⟩ = s.cells[j]?) ∧ ∀ j, w.frozen? ⟨g, j, none⟩ = false := by
  obtain ⟨a, cap, hc, hel⟩ := xin_servers h
  rw [List.length_map] at hc
  obtain ⟨g, rfl, hg, hcs, hf⟩ := hel i s.cells (by rw [List.getElem?_map, ha]; rfl)
  exact ⟨g, cap, hc, hg, hcs, hf⟩
theorem xin_keyAt {i : Nat} {K : PKey} (h : XIn w F b X) (hk : X.keys[i]? = some K) : ∃ g cap, w.cell? ⟨b, 7, none⟩ = some (.slice (some ⟨g, 0, none⟩) X.keys.length cap) ∧ g < w.heap.size ∧ (∀ j, j < 3 → w.cell? ⟨g, i * 3 + j, none⟩ = K.cells[j]?) := by
  obtain ⟨a, cap, hc, hel⟩ := xin_keys h
  rw [List.length_map] at hc
  obtain ⟨g, rfl, hg, hcs, _⟩ := hel i K.cells (by rw [List.getElem?_map, hk]; rfl)
  exact ⟨g, cap, hc, hg, hcs⟩
theorem xin_putSrv (h : XIn w F b X) {g cap : Nat} (hc : w.cell? ⟨b, 8, none⟩ = some (.slice (some ⟨g, 0, none⟩) X.servers.length cap)) (i : Nat) (hi : i < X.servers.length) (u : PSrv) :
    XIn (w.setCells g (i * 10) u.cells) F b { X with servers := X.servers.set i u } ∧ Kept F w (w.setCells g (i * 10) u.cells) ∧ w.there g (i * 10) 10 := by
  obtain ⟨vK, vS, vE, hO⟩ := h
  obtain rfl : vS = _ := Option.some.inj ((hO.cell 8).symm.trans hc)
  obtain ⟨q1, q2, q3⟩ := hO.elem 1 PSrv.len rfl rfl i hi u
  exact ⟨⟨vK, _, vE, q1.cast rfl (by simp [PS.rows])⟩, q2, q3⟩
theorem xin_setSeen (h : XIn w F b X) {g cap : Nat} (hc : w.cell? ⟨b, 8, none⟩ = some (.slice (some ⟨g, 0, none⟩) X.servers.length cap)) (i : Nat) (s : PSrv) (hs : X.servers[i]? = some s) (v : Int) :
    XIn (w.setCell ⟨g, i * 10, none⟩ (.int .i64 v)) F b { X with servers := X.servers.set i { s with seen := v } } ∧ Kept F w (w.setCell ⟨g, i * 10, none⟩ (.int .i64 v)) := by
  obtain ⟨vK, vS, vE, hO⟩ := h
  obtain rfl : vS = _ := Option.some.inj ((hO.cell 8).symm.trans hc)
  obtain ⟨q1, q2⟩ := own_cellSet hO 1 PSrv.len rfl rfl i s { s with seen := v } hs 0 (by omega) (.int .i64 v) rfl
  exact ⟨⟨vK, _, vE, q1.cast rfl (by simp [PS.rows])⟩, q2⟩
theorem st96 {ops : Array Oper} {rest : List Oper} {d : Option Tmp} {t0 : TypeId} {pos : String} {after : Array Edge} {a : Act} {w : World} {Q : Exit → Act → World → Prop} (x y : Operand) (g o : Nat) (u : PSrv)
    (hx : a.eval x = .pointer (some ⟨g, o, none⟩)) (hy : a.eval y = .agg u.cells.toArray) (ht : w.there g o 10)
    (h : wpList Tryz.prog ops Q rest (a.put d undef) (w.setCells g o u.cells)) :
    wpList Tryz.prog ops Q ({ dst := d, op := .store 96 x y, type := t0, pos := pos, after := after, guard := none } :: rest) a w :=
  stAny 96 x y g o u.cells hx hy ht (sz96 u) u.one h
theorem ld56 {ops : Array Oper} {rest : List Oper} {d : Option Tmp} {t0 : TypeId} {pos : String} {after : Array Edge} {a : Act} {w : World} {Q : Exit → Act → World → Prop} (x : Operand) (b o : Nat) (e : PKey)
    (hx : a.eval x = .pointer (some ⟨b, o, none⟩)) (hc : w.rangeAt b o e.cells) (h : wpList Tryz.prog ops Q rest (a.put d (.agg e.cells.toArray)) w) :
    wpList Tryz.prog ops Q ({ dst := d, op := .load 56 x, type := t0, pos := pos, after := after, guard := none } :: rest) a w :=
  ldAny 56 x b o e.cells _ hx hc Tryz.underlying56 rfl (sz56 e) h

/-! Readers. -/
set_option maxRecDepth 100000 in
theorem isServer_any (w : World) (s : Int) (h : XIn w F b X) :
    Calls Tryz.prog 59 #[.pointer (some ⟨b, 0, none⟩), .int .i64 s] w fun e w' => e = .returned (.bool (isSrv X.servers.length s)) ∧ w' = w := by
  obtain ⟨a, cap, hc, _⟩ := xin_servers h
  rw [List.length_map] at hc
  by_cases h1 : 0 ≤ s
  · have q1 : decide (0 ≤ s) = true := by simp; omega
    go_enter Tryz.func59, Tryz.ntmps59
    go_wp2
    go_ret
    exact ⟨by simp [isSrv, q1], rfl⟩
  · have q1 : decide (0 ≤ s) = false := by simp; omega
    go_enter Tryz.func59, Tryz.ntmps59
    go_wp2
    go_ret
    exact ⟨by simp [isSrv, q1], rfl⟩
/-- The newest entry of a path, of at most a revision. -/
def newestOf (l : List Ent) (p : ByteArray) (rev : Int) : Ent := (l.reverse.find? (fun e => decide (e.rev ≤ rev) && (e.path.toList == p.toList))).getD Ent.zero
theorem newestOf_snoc (l : List Ent) (e : Ent) (p : ByteArray) (rev : Int) : newestOf (l ++ [e]) p rev = if decide (e.rev ≤ rev) && (e.path.toList == p.toList) then e else newestOf l p rev := by
  unfold newestOf
  rw [List.reverse_append]
  simp only [List.reverse_cons, List.reverse_nil, List.nil_append, List.singleton_append, List.find?_cons]
  cases decide (e.rev ≤ rev) && (e.path.toList == p.toList) <;> rfl
set_option maxRecDepth 100000 in
set_option maxHeartbeats 400000 in
theorem newest_any (w : World) (p : ByteArray) (rev : Int) (h : XIn w F b X) (hn : X.entries.length ≤ 1000) :
    Calls Tryz.prog 97 #[.pointer (some ⟨b, 0, none⟩), .string p, .int .i64 rev] w fun e w' =>
      e = .returned (.agg (newestOf X.entries p rev).cells.toArray) ∧ Low w.heap.size w w' := by
  have HR := hid h
  clear h
  go_enter Tryz.func97, Tryz.ntmps97
  go_wp2
  go_loopw [8] (fun iv wr => ∃ (i : Nat), i ≤ X.entries.length ∧ iv = .int .i64 (i : Int) ∧ Hid (Low w.heap.size w wr ∧ wr.heap.size = w.heap.size + 2 ∧ Blk wr w.heap.size 50 Ent.zero.cells ∧ Blk wr (w.heap.size + 1) 50 (newestOf (X.entries.take i) p rev).cells)) (fun iv _ => X.entries.length - (intOf iv).toNat)
  case atStart =>
    refine ⟨0, Nat.zero_le _, rfl, ?_, by simp, (Blk.new w 50 Ent.zero.cells).alloc _, ?_⟩
    · exact ((Low.refl _ w).alloc (Nat.le_refl _) _).alloc (by simp) _
    · have := Blk.new (w.alloc (.cells Ent.zero.cells.toArray 50)) 50 Ent.zero.cells
      rw [World.size_alloc] at this
      exact this
  case round =>
    obtain ⟨i, hi, rfl, HI⟩ := hrel
    obtain ⟨a, cap, hc, hel⟩ := xin_entries (HR.out.low HI.out.1)
    rw [List.length_map] at hc
    by_cases h1 : i < X.entries.length
    · have q1 : decide ((i : Int) < (X.entries.length : Int)) = true := by simp; omega
      obtain ⟨k, hk2⟩ : ∃ k, X.entries[i]? = some k := ⟨_, List.getElem?_eq_getElem h1⟩
      obtain ⟨g, rfl, hg, hcs, _⟩ := hel i k.cells (by rw [List.getElem?_map, hk2]; rfl)
      have c1 : wr.cell? ⟨g, i * 6 + 1, none⟩ = some (.int .i64 k.rev) := hcs 1 (by omega)
      have c0 : wr.cell? ⟨g, i * 6, none⟩ = some (.string k.path) := hcs 0 (by omega)
      have HC : Hid (wr.rangeAt g (i * 6) k.cells) := range_of hcs (fun _ _ e => ⟨(List.getElem?_eq_some_iff.1 e).1, e⟩)
      have HS := hid (newestOf_snoc (X.entries.take i) k p rev)
      have HT := hid (take_snoc hk2)
      clear hcs hk2 hel
      cases q3 : decide (k.rev ≤ rev)
      · go_wp2_with fail
        go_roundw
        case rel => exact ⟨i + 1, by omega, by simp, by rw [HT.out, HS.out, q3]; exact HI.out⟩
        case measure => simp [intOf]; omega
      · cases q4 : (k.path.toList == p.toList)
        · go_wp2_with fail
          go_roundw
          case rel => exact ⟨i + 1, by omega, by simp, by rw [HT.out, HS.out, q3, q4]; exact HI.out⟩
          case measure => simp [intOf]; omega
        · go_wp2_with (first | ((with_reducible refine ld50 (.tmp 46) g (i * 6) k ?_ HC.out ?_); rfl) | ((with_reducible refine st50 (.tmp 7) (.tmp 47) (w.heap.size + 1) _ k ?_ ?_ HI.out.2.2.2 ?_); rfl; rfl; intro w1 b1 k1 s1; have B1 := hid b1; have K1 := hid k1; have S1 := hid s1; clear b1 k1 s1))
          go_roundw
          case rel =>
            have hE : newestOf (X.entries.take (i + 1)) p rev = k := by rw [HT.out, HS.out, q3, q4]; rfl
            obtain ⟨l0, s0, z0, e0⟩ := HI.out
            exact ⟨i + 1, by omega, by simp, low_set l0 K1.out (by omega) l0.size, S1.out.trans s0, z0.kept K1.out (by omega), by rw [hE]; exact B1.out⟩
          case measure => simp [intOf]; omega
    · have q1 : decide ((i : Int) < (X.entries.length : Int)) = false := by simp; omega
      obtain rfl : i = X.entries.length := by omega
      rw [List.take_length] at HI
      clear hel
      go_wp2_with (first | ((with_reducible refine ld50 (.tmp 7) (w.heap.size + 1) 0 (newestOf X.entries p rev) ?_ HI.out.2.2.2.whole ?_); rfl) | ((with_reducible refine st50 (.tmp 6) (.tmp 48) w.heap.size Ent.zero (newestOf X.entries p rev) ?_ ?_ HI.out.2.2.1 ?_); rfl; rfl; intro w1 b1 k1 s1; have B1 := hid b1; have K1 := hid k1; clear b1 k1 s1))
      (try simp only [Exit.inBlock, Exit.then])
      refine bodyPost_ret (results_cell rfl w.heap.size (newestOf X.entries p rev).cells _ rfl B1.out.whole Tryz.underlying50 rfl (sz50 _)) rfl ?_
      exact ⟨rfl, low_set HI.out.1 K1.out (Nat.le_refl _) HI.out.1.size⟩
end Go.Proofs.YtggbjffmclpmgaaGreatDoor
