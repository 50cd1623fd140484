import Derived.Test.YtnjkpghchgjbaaaGreatDoorObj
namespace Go.Proofs.YtnjkpghchgjbaaaGreatDoor
open Go.RowKit

/-! The document's coffer as plain data, and how it lies in memory. -/

structure Ent where
  path : ByteArray
  rev : Int
  key : Int
  draw : Int
  sealed : ByteArray
  gone : Bool
def Ent.cells (e : Ent) : List Value := [.string e.path, .int .i64 e.rev, .int .i64 e.key, .int .i64 e.draw, .string e.sealed, .bool e.gone]
def Ent.zero : Ent := ⟨⟨#[]⟩, 0, 0, 0, ⟨#[]⟩, false⟩
structure RKept where
  e : Ent
  out : Bool
def RKept.cells (k : RKept) : List Value := [.string k.e.path, .int .i64 k.e.rev, .int .i64 k.e.key, .int .i64 k.e.draw, .string k.e.sealed, .bool k.e.gone, .bool k.out]
structure RKey where
  text : ByteArray
  came : Int
  writes : Int
  gone : Bool
def RKey.cells (k : RKey) : List Value := [.string k.text, .int .i64 k.came, .int .i64 k.writes, .bool k.gone]
structure RUnd where
  on : Bool
  e : Ent
  epoch : Int
  want : Int
def RUnd.zero : RUnd := ⟨false, Ent.zero, 0, 0⟩
def RUnd.cells (u : RUnd) : List Value := [.bool u.on, .string u.e.path, .int .i64 u.e.rev, .int .i64 u.e.key, .int .i64 u.e.draw, .string u.e.sealed, .bool u.e.gone, .int .i64 u.epoch, .int .i64 u.want]
structure RS where
  servers : Int
  room : Int
  key : ByteArray
  all : List RKept
  keys : List RKey
  seen : List Int
  ops : List RUnd
  epoch : Int
  floor : Int
  draws : Int
  turn : Int
  node : List Int
  needs : List (ByteArray × ByteArray)
def one (i : Int) : List Value := [.int .i64 i]
def two (p : ByteArray × ByteArray) : List Value := [.string p.1, .string p.2]
def RS.cells (Y : RS) (vA vK vS vO vN : Value) : List Value :=
  .int .i64 Y.servers :: .int .i64 Y.room :: .string Y.key :: vA :: vK :: vS :: vO :: .int .i64 Y.epoch :: .int .i64 Y.floor :: .int .i64 Y.draws :: .int .i64 Y.turn :: (Y.node.map (Value.int .i64) ++ [vN])
def RS.rows (Y : RS) : List Row := [⟨3, 113, 7, Y.all.length, Y.all.flatMap RKept.cells⟩, ⟨4, 70, 4, Y.keys.length, Y.keys.flatMap RKey.cells⟩, ⟨5, 3, 1, Y.seen.length, Y.seen.flatMap one⟩, ⟨6, 72, 9, Y.ops.length, Y.ops.flatMap RUnd.cells⟩, ⟨19, 109, 2, Y.needs.length, Y.needs.flatMap two⟩]
/-- The document's coffer Y lies at block b, in blocks of F. -/
def RIn (w : World) (F : Nat → Prop) (b : Nat) (Y : RS) : Prop := Y.node.length = 8 ∧ ∃ vA vK vS vO vN, Own w F b 68 (Y.cells vA vK vS vO vN) Y.rows

theorem Ent.len (e : Ent) : e.cells.length = 6 := rfl
theorem RKept.len (e : RKept) : e.cells.length = 7 := rfl
theorem RKey.len (e : RKey) : e.cells.length = 4 := rfl
theorem RUnd.len (e : RUnd) : e.cells.length = 9 := rfl
theorem one_len (i : Int) : (one i).length = 1 := rfl
theorem two_len (i : ByteArray × ByteArray) : (two i).length = 2 := rfl
theorem sz50 (e : Ent) : (Tryz.prog.info? 50).map (·.size) = some e.cells.length := show _ = some 6 by kernel_rfl
theorem sz113 (e : RKept) : (Tryz.prog.info? 113).map (·.size) = some e.cells.length := show _ = some 7 by kernel_rfl
theorem sz70 (e : RKey) : (Tryz.prog.info? 70).map (·.size) = some e.cells.length := show _ = some 4 by kernel_rfl
theorem sz72 (e : RUnd) : (Tryz.prog.info? 72).map (·.size) = some e.cells.length := show _ = some 9 by kernel_rfl
theorem Ent.one (e : Ent) : ∀ v ∈ e.cells, v.oneCell' = true := by simp [Ent.cells, Value.oneCell']
theorem RKept.one (e : RKept) : ∀ v ∈ e.cells, v.oneCell' = true := by simp [RKept.cells, Value.oneCell']
theorem RKey.one (e : RKey) : ∀ v ∈ e.cells, v.oneCell' = true := by simp [RKey.cells, Value.oneCell']
theorem RUnd.one (e : RUnd) : ∀ v ∈ e.cells, v.oneCell' = true := by simp [RUnd.cells, Value.oneCell']

variable {w w' : World} {F G : Nat → Prop} {b : Nat} {Y : RS}
theorem RIn.kept (h : RIn w F b Y) (k : Kept G w w') (hd : ∀ i, F i → ¬ G i) : RIn w' F b Y := by
  obtain ⟨h8, vA, vK, vS, vO, vN, h⟩ := h
  exact ⟨h8, vA, vK, vS, vO, vN, h.kept k hd⟩
theorem RIn.low (h : RIn w F b Y) (k : Low w.heap.size w w') : RIn w' F b Y := h.kept k.kept (fun _ _ f => f)
theorem RIn.alloc (h : RIn w F b Y) (o : Obj) : RIn (w.alloc o) F b Y := h.low ((Low.refl _ w).alloc (Nat.le_refl _) o)
theorem RIn.drew (h : RIn w F b Y) : RIn w.drew F b Y := h.low (Low.refl _ w).drew
theorem RIn.lt (h : RIn w F b Y) : b < w.heap.size := by
  obtain ⟨h8, vA, vK, vS, vO, vN, h⟩ := h
  exact h.lt
theorem RIn.below (h : RIn w F b Y) : ∀ k, F k → k < w.heap.size := by
  obtain ⟨h8, vA, vK, vS, vO, vN, h⟩ := h
  exact h.below

/-- A slice of the struct: what its cell tells, and where its elements lie. -/
def Sl (w : World) (b off k : Nat) (ls : List (List Value)) : Prop :=
  ∃ a cap, w.cell? ⟨b, off, none⟩ = some (.slice a ls.length cap) ∧ ∀ i cs, ls[i]? = some cs → ∃ g, a = some ⟨g, 0, none⟩ ∧ g < w.heap.size ∧ (∀ j, j < k → w.cell? ⟨g, i * k + j, none⟩ = cs[j]?) ∧ ∀ j, w.frozen? ⟨g, j, none⟩ = false
theorem Own.sl {t : TypeId} {C : List Value} {R : List Row} (h : Own w F b t C R) (j : Nat) {off : Nat} {e : TypeId} {k : Nat} {α : Type} {l : List α} {f : α → List Value} (hf : ∀ x, (f x).length = k)
    (hj : R[j]? = some ⟨off, e, k, l.length, l.flatMap f⟩) : Sl w b off k (l.map f) := by
  obtain ⟨v, hv, ho, _⟩ := h.row j hj
  obtain ⟨a, cap, rfl, _, hg⟩ := ownsRow_view ho
  refine ⟨a, cap, by rw [h.cell]; simpa using hv, fun i cs hi => ?_⟩
  obtain ⟨x, hx, rfl⟩ : ∃ x, l[i]? = some x ∧ f x = cs := by simpa using hi
  have hil : i < l.length := (List.getElem?_eq_some_iff.1 hx).1
  obtain ⟨g, rfl, hlt, hc, hfz⟩ := hg (Nat.zero_lt_of_lt hil)
  refine ⟨g, rfl, hlt, fun q hq => ?_, hfz⟩
  have : (i + 1) * k ≤ l.length * k := Nat.mul_le_mul_right _ hil
  rw [Nat.add_mul] at this
  rw [hc (i * k + q) (show i * k + q < l.length * k by omega)]
  exact flat_at k f hf l i q x hx hq
theorem RIn.all (h : RIn w F b Y) : Sl w b 3 7 (Y.all.map RKept.cells) := by
  obtain ⟨h8, vA, vK, vS, vO, vN, h⟩ := h
  exact h.sl 0 RKept.len rfl
theorem RIn.keys (h : RIn w F b Y) : Sl w b 4 4 (Y.keys.map RKey.cells) := by
  obtain ⟨h8, vA, vK, vS, vO, vN, h⟩ := h
  exact h.sl 1 RKey.len rfl
theorem RIn.seen (h : RIn w F b Y) : Sl w b 5 1 (Y.seen.map YtnjkpghchgjbaaaGreatDoor.one) := by
  obtain ⟨h8, vA, vK, vS, vO, vN, h⟩ := h
  exact h.sl 2 one_len rfl
theorem RIn.ops (h : RIn w F b Y) : Sl w b 6 9 (Y.ops.map RUnd.cells) := by
  obtain ⟨h8, vA, vK, vS, vO, vN, h⟩ := h
  exact h.sl 3 RUnd.len rfl
theorem RIn.needs (h : RIn w F b Y) : Sl w b 19 2 (Y.needs.map two) := by
  obtain ⟨h8, vA, vK, vS, vO, vN, h⟩ := h
  exact h.sl 4 two_len rfl
theorem RIn.room (h : RIn w F b Y) : w.cell? ⟨b, 1, none⟩ = some (.int .i64 Y.room) := by
  obtain ⟨h8, vA, vK, vS, vO, vN, h⟩ := h
  exact h.cell 1
theorem RIn.epoch (h : RIn w F b Y) : w.cell? ⟨b, 7, none⟩ = some (.int .i64 Y.epoch) := by
  obtain ⟨h8, vA, vK, vS, vO, vN, h⟩ := h
  exact h.cell 7
theorem RIn.floor (h : RIn w F b Y) : w.cell? ⟨b, 8, none⟩ = some (.int .i64 Y.floor) := by
  obtain ⟨h8, vA, vK, vS, vO, vN, h⟩ := h
  exact h.cell 8
theorem RIn.draws (h : RIn w F b Y) : w.cell? ⟨b, 9, none⟩ = some (.int .i64 Y.draws) := by
  obtain ⟨h8, vA, vK, vS, vO, vN, h⟩ := h
  exact h.cell 9
theorem RIn.turn (h : RIn w F b Y) : w.cell? ⟨b, 10, none⟩ = some (.int .i64 Y.turn) := by
  obtain ⟨h8, vA, vK, vS, vO, vN, h⟩ := h
  exact h.cell 10
theorem range_of {w : World} {g o k : Nat} {cs vs : List Value} (hc : ∀ j, j < k → w.cell? ⟨g, o + j, none⟩ = cs[j]?) (hv : ∀ j v, vs[j]? = some v → j < k ∧ cs[j]? = some v) : w.rangeAt g o vs := fun j v e => by
  rw [hc j (hv j v e).1]; exact (hv j v e).2
theorem RKept.entry {w : World} {g o : Nat} {k : RKept} (hc : ∀ j, j < 7 → w.cell? ⟨g, o + j, none⟩ = k.cells[j]?) : w.rangeAt g o k.e.cells := range_of hc (fun j v e => by
  have hj : j < 6 := (List.getElem?_eq_some_iff.1 e).1
  refine ⟨by omega, ?_⟩
  have : j = 0 ∨ j = 1 ∨ j = 2 ∨ j = 3 ∨ j = 4 ∨ j = 5 := by omega
  rcases this with rfl | rfl | rfl | rfl | rfl | rfl <;> exact e)

/-! Loads and stores of the structs, whole. -/
theorem ld50 {ops : Array Oper} {rest : List Oper} {d : Option Tmp} {t0 : TypeId} {pos : String} {after : Array Edge} {a : Act} {w : World} {Q : Exit → Act → World → Prop} (x : Operand) (b o : Nat) (e : Ent)
    (hx : a.eval x = .pointer (some ⟨b, o, none⟩)) (hc : w.rangeAt b o e.cells) (h : wpList Tryz.prog ops Q rest (a.put d (.agg e.cells.toArray)) w) :
    wpList Tryz.prog ops Q ({ dst := d, op := .load 50 x, type := t0, pos := pos, after := after, guard := none } :: rest) a w :=
  ldAny 50 x b o e.cells _ hx hc Tryz.underlying50 rfl (sz50 e) h
theorem st50 {ops : Array Oper} {rest : List Oper} {d : Option Tmp} {t0 : TypeId} {pos : String} {after : Array Edge} {a : Act} {w : World} {Q : Exit → Act → World → Prop} (x y : Operand) (b : Nat) (old e : Ent)
    (hx : a.eval x = .pointer (some ⟨b, 0, none⟩)) (hy : a.eval y = .agg e.cells.toArray) (hB : Blk w b 50 old.cells)
    (h : ∀ w', Blk w' b 50 e.cells → Kept (fun k => k = b) w w' → w'.heap.size = w.heap.size → wpList Tryz.prog ops Q rest (a.put d undef) w') :
    wpList Tryz.prog ops Q ({ dst := d, op := .store 50 x y, type := t0, pos := pos, after := after, guard := none } :: rest) a w :=
  stBlk 50 x y b 50 old.cells e.cells hx hy hB rfl (sz50 e) e.one h

theorem RS.offs (Y : RS) (j : Nat) {r : Row} (hj : Y.rows[j]? = some r) : ∀ i s, Y.rows[i]? = some s → i ≠ j → s.off ≠ r.off := by
  intro i s hi hne e
  have hm : Y.rows.map Row.off = [3, 4, 5, 6, 19] := rfl
  have a1 : ([3, 4, 5, 6, 19] : List Nat)[i]? = some s.off := by rw [← hm, List.getElem?_map, hi]; rfl
  have a2 : ([3, 4, 5, 6, 19] : List Nat)[j]? = some r.off := by rw [← hm, List.getElem?_map, hj]; rfl
  rw [e] at a1
  exact hne ((List.getElem?_inj (List.getElem?_eq_some_iff.1 a1).1 (by decide)).1 (a1.trans a2.symm))

theorem RIn.vals (h : RIn w F b Y) : ∃ vA vK vS vO vN, Own w F b 68 (Y.cells vA vK vS vO vN) Y.rows ∧ w.cell? ⟨b, 3, none⟩ = some vA ∧ w.cell? ⟨b, 4, none⟩ = some vK ∧ w.cell? ⟨b, 5, none⟩ = some vS ∧ w.cell? ⟨b, 6, none⟩ = some vO := by
  obtain ⟨h8, vA, vK, vS, vO, vN, h⟩ := h
  exact ⟨vA, vK, vS, vO, vN, h, h.cell 3, h.cell 4, h.cell 5, h.cell 6⟩
theorem RIn.putSeen (h : RIn w F b Y) {g cap : Nat} (hc : w.cell? ⟨b, 5, none⟩ = some (.slice (some ⟨g, 0, none⟩) Y.seen.length cap)) (i : Nat) (hi : i < Y.seen.length) (v : Int) :
    RIn (w.setCell ⟨g, i, none⟩ (.int .i64 v)) F b { Y with seen := Y.seen.set i v } ∧ Kept F w (w.setCell ⟨g, i, none⟩ (.int .i64 v)) ∧ w.there g i 1 := by
  obtain ⟨vA, vK, vS, vO, vN, hO, c3, c4, c5, c6⟩ := h.vals
  obtain rfl : vS = _ := Option.some.inj (c5.symm.trans hc)
  obtain ⟨q1, q2, q3⟩ := hO.elem 2 one_len rfl rfl i hi v
  rw [Nat.mul_one] at q1 q2 q3
  exact ⟨⟨h.1, vA, vK, _, vO, vN, q1.cast rfl (by simp [RS.rows])⟩, q2, q3⟩
theorem RIn.putOp (h : RIn w F b Y) {g cap : Nat} (hc : w.cell? ⟨b, 6, none⟩ = some (.slice (some ⟨g, 0, none⟩) Y.ops.length cap)) (i : Nat) (hi : i < Y.ops.length) (u : RUnd) :
    RIn (w.setCells g (i * 9) u.cells) F b { Y with ops := Y.ops.set i u } ∧ Kept F w (w.setCells g (i * 9) u.cells) ∧ w.there g (i * 9) 9 := by
  obtain ⟨vA, vK, vS, vO, vN, hO, c3, c4, c5, c6⟩ := h.vals
  obtain rfl : vO = _ := Option.some.inj (c6.symm.trans hc)
  obtain ⟨q1, q2, q3⟩ := hO.elem 3 RUnd.len rfl rfl i hi u
  exact ⟨⟨h.1, vA, vK, vS, _, vN, q1.cast rfl (by simp [RS.rows])⟩, q2, q3⟩
theorem st72 {ops : Array Oper} {rest : List Oper} {d : Option Tmp} {t0 : TypeId} {pos : String} {after : Array Edge} {a : Act} {w : World} {Q : Exit → Act → World → Prop} (x y : Operand) (g o : Nat) (u : RUnd)
    (hx : a.eval x = .pointer (some ⟨g, o, none⟩)) (hy : a.eval y = .agg u.cells.toArray) (ht : w.there g o 9)
    (h : wpList Tryz.prog ops Q rest (a.put d undef) (w.setCells g o u.cells)) :
    wpList Tryz.prog ops Q ({ dst := d, op := .store 72 x y, type := t0, pos := pos, after := after, guard := none } :: rest) a w :=
  stAny 72 x y g o u.cells hx hy ht (sz72 u) u.one h
theorem ld72 {ops : Array Oper} {rest : List Oper} {d : Option Tmp} {t0 : TypeId} {pos : String} {after : Array Edge} {a : Act} {w : World} {Q : Exit → Act → World → Prop} (x : Operand) (b o : Nat) (e : RUnd)
    (hx : a.eval x = .pointer (some ⟨b, o, none⟩)) (hc : w.rangeAt b o e.cells) (h : wpList Tryz.prog ops Q rest (a.put d (.agg e.cells.toArray)) w) :
    wpList Tryz.prog ops Q ({ dst := d, op := .load 72 x, type := t0, pos := pos, after := after, guard := none } :: rest) a w :=
  ldAny 72 x b o e.cells _ hx hc Tryz.underlying72 rfl (sz72 e) h
end Go.Proofs.YtnjkpghchgjbaaaGreatDoor
namespace Go.Proofs.YtnjkpghchgjbaaaGreatDoor
open Go.RowKit

variable {F : Nat → Prop} {b : Nat} {Y : RS}

def isSrv (n : Nat) (s : Int) : Bool := decide (0 ≤ s) && decide (s < (n : Int))
theorem server_any (w : World) (s : Int) (h : RIn w F b Y) :
    Calls Tryz.prog 60 #[.pointer (some ⟨b, 0, none⟩), .int .i64 s] w fun e w' => e = .returned (.bool (isSrv Y.seen.length s)) ∧ w' = w := by
  obtain ⟨a, cap, hc, _⟩ := h.seen
  rw [List.length_map] at hc
  by_cases h1 : 0 ≤ s
  · have q1 : decide (0 ≤ s) = true := by simp; omega
    go_enter Tryz.func60, Tryz.ntmps60
    go_wp2
    go_ret
    exact ⟨by simp [isSrv, q1], rfl⟩
  · have q1 : decide (0 ≤ s) = false := by simp; omega
    go_enter Tryz.func60, Tryz.ntmps60
    go_wp2
    go_ret
    exact ⟨by simp [isSrv, q1], rfl⟩

/-- The number of the last key that wrote in an epoch. -/
def writesR (ks : List RKey) (ep : Int) : Int := match ks with
  | [] => 0
  | k :: r => if decide (0 < k.writes) && decide (k.writes ≤ ep) then (r.length + 1 : Int) else writesR r ep
def writesOf (ks : List RKey) (ep : Int) : Int := writesR ks.reverse ep
theorem writesOf_snoc (l : List RKey) (k : RKey) (ep : Int) : writesOf (l ++ [k]) ep = if decide (0 < k.writes) && decide (k.writes ≤ ep) then (l.length + 1 : Int) else writesOf l ep := by
  simp [writesOf, writesR]
theorem take_snoc {α : Type} {l : List α} {i : Nat} {x : α} (h : l[i]? = some x) : l.take (i + 1) = l.take i ++ [x] := by
  rw [List.take_add_one, h]; rfl
set_option maxHeartbeats 400000 in
theorem writes_any (w : World) (ep : Int) (h : RIn w F b Y) (hk : Y.keys.length ≤ 6) :
    Calls Tryz.prog 64 #[.pointer (some ⟨b, 0, none⟩), .int .i64 ep] w fun e w' => e = .returned (.int .i64 (writesOf Y.keys ep)) ∧ w' = w := by
  obtain ⟨a, cap, hc, hel⟩ := h.keys
  rw [List.length_map] at hc
  have HEL := hid hel
  clear hel
  go_enter Tryz.func64, Tryz.ntmps64
  go_wp2
  go_loopw [5, 6] (fun kv iv wr => ∃ i : Nat, i ≤ Y.keys.length ∧ kv = .int .i64 (writesOf (Y.keys.take i) ep) ∧ iv = .int .i64 (i : Int) ∧ w = wr) (fun _ iv _ => Y.keys.length - (intOf iv).toNat)
  case atStart => exact ⟨0, Nat.zero_le _, rfl, rfl, rfl⟩
  case round =>
    obtain ⟨i, hi, rfl, rfl, rfl⟩ := hrel
    by_cases h1 : i < Y.keys.length
    · have q1 : decide ((i : Int) < (Y.keys.length : Int)) = true := by simp; omega
      obtain ⟨k, hk2⟩ : ∃ k, Y.keys[i]? = some k := ⟨_, List.getElem?_eq_getElem h1⟩
      obtain ⟨g, rfl, hg, hcs, _⟩ := HEL.out i k.cells (by simp [hk2])
      have c2 : w.cell? ⟨g, i * 4 + 2, none⟩ = some (.int .i64 k.writes) := hcs 2 (by omega)
      have HS := hid (writesOf_snoc (Y.keys.take i) k ep)
      have HT := hid (take_snoc hk2)
      have hlt : (Y.keys.take i).length = i := by simp; omega
      have HL := hid hlt
      clear hcs hk2 hlt
      cases q3 : decide (0 < k.writes)
      · go_wp2_with fail
        go_roundw
        case rel => exact ⟨i + 1, by omega, by rw [HT.out, HS.out, q3]; rfl, by simp, by trivial⟩
        case measure => simp [intOf]; omega
      · cases q4 : decide (k.writes ≤ ep)
        · go_wp2_with fail
          go_roundw
          case rel => exact ⟨i + 1, by omega, by rw [HT.out, HS.out, q3, q4]; rfl, by simp, by trivial⟩
          case measure => simp [intOf]; omega
        · go_wp2_with fail
          go_roundw
          case rel => exact ⟨i + 1, by omega, by rw [HT.out, HS.out, q3, q4, HL.out]; rfl, by simp, by trivial⟩
          case measure => simp [intOf]; omega
    · have q1 : decide ((i : Int) < (Y.keys.length : Int)) = false := by simp; omega
      obtain rfl : i = Y.keys.length := by omega
      go_wp2_with fail
      go_ret
      exact ⟨by rw [List.take_length]; rfl, rfl⟩

/-- The greatest of the epochs in which a key but the first began to write. -/
def promR (ks : List RKey) : Int := match ks with
  | [] => 0
  | k :: r => if decide (promR r < k.writes) then k.writes else promR r
def promOf (ks : List RKey) : Int := promR (ks.drop 1).reverse
theorem promR_snoc (l : List RKey) (k : RKey) : promR (l ++ [k]).reverse = if decide (promR l.reverse < k.writes) then k.writes else promR l.reverse := by
  simp [promR]
set_option maxHeartbeats 400000 in
theorem promoted_any (w : World) (h : RIn w F b Y) (hk : Y.keys.length ≤ 6) (hk1 : 1 ≤ Y.keys.length) :
    Calls Tryz.prog 68 #[.pointer (some ⟨b, 0, none⟩)] w fun e w' => e = .returned (.int .i64 (promOf Y.keys)) ∧ w' = w := by
  obtain ⟨a, cap, hc, hel⟩ := h.keys
  rw [List.length_map] at hc
  have HEL := hid hel
  clear hel
  go_enter Tryz.func68, Tryz.ntmps68
  go_wp2
  go_loopw [3, 4] (fun kv iv wr => ∃ i : Nat, i + 1 ≤ Y.keys.length ∧ kv = .int .i64 (promR ((Y.keys.drop 1).take i).reverse) ∧ iv = .int .i64 ((i : Int) + 1) ∧ w = wr) (fun _ iv _ => Y.keys.length - (intOf iv).toNat)
  case atStart => exact ⟨0, by omega, rfl, rfl, rfl⟩
  case round =>
    obtain ⟨i, hi, rfl, rfl, rfl⟩ := hrel
    generalize hM : promR ((Y.keys.drop 1).take i).reverse = M
    have HM := hid hM
    clear hM
    by_cases h1 : i + 1 < Y.keys.length
    · have q1 : decide ((i : Int) + 1 < (Y.keys.length : Int)) = true := by simp; omega
      obtain ⟨k, hk2⟩ : ∃ k, Y.keys[i + 1]? = some k := ⟨_, List.getElem?_eq_getElem h1⟩
      obtain ⟨g, rfl, hg, hcs, _⟩ := HEL.out (i + 1) k.cells (by simp [hk2])
      have c2 : w.cell? ⟨g, (i + 1) * 4 + 2, none⟩ = some (.int .i64 k.writes) := hcs 2 (by omega)
      have HS := hid (promR_snoc ((Y.keys.drop 1).take i) k)
      have HT := hid (take_snoc (l := Y.keys.drop 1) (i := i) (x := k) (by rw [List.getElem?_drop, Nat.add_comm]; exact hk2))
      clear hcs hk2
      cases q3 : decide (M < k.writes)
      · go_wp2_with fail
        go_roundw
        case rel => exact ⟨i + 1, by omega, by rw [HT.out, HS.out, HM.out, q3]; rfl, by simp, by trivial⟩
        case measure => simp [intOf]; omega
      · go_wp2_with fail
        go_roundw
        case rel => exact ⟨i + 1, by omega, by rw [HT.out, HS.out, HM.out, q3]; rfl, by simp, by trivial⟩
        case measure => simp [intOf]; omega
    · have q1 : decide ((i : Int) + 1 < (Y.keys.length : Int)) = false := by simp; omega
      have hE : Hid (promOf Y.keys = M) := by
        show promOf Y.keys = M
        rw [← HM.out, promOf, List.take_of_length_le (by simp; omega)]
      go_wp2_with fail
      go_ret
      exact ⟨by rw [hE.out]; rfl, rfl⟩
end Go.Proofs.YtnjkpghchgjbaaaGreatDoor
