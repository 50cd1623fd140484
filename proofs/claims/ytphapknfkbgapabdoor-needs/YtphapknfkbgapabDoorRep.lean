import Derived.Test.YtphapknfkbgapabDoorObj
namespace Go.Proofs.YtphapknfkbgapabDoor
open Go.RowKit

/-! The document's coffer as plain data, and how it lies in memory. -/

structure Ent where
  path : ByteArray
  rev : Int
  key : Int
  draw : Int
  sealed : ByteArray
  gone : Bool
def Ent.cells (e : Ent) : List Value := [.string e.path, .int .i64 e.rev, .int .i64 e.key, .int .i64 e.draw, .string e.sealed, .bool e.gone]
def Ent.zero : Ent := ⟨⟨#[]⟩, 0, 0, 0, ⟨#[]⟩, false⟩
structure RKept where
  e : Ent
  out : Bool
def RKept.cells (k : RKept) : List Value := [.string k.e.path, .int .i64 k.e.rev, .int .i64 k.e.key, .int .i64 k.e.draw, .string k.e.sealed, .bool k.e.gone, .bool k.out]
structure RKey where
  text : ByteArray
  came : Int
  writes : Int
  gone : Bool
def RKey.cells (k : RKey) : List Value := [.string k.text, .int .i64 k.came, .int .i64 k.writes, .bool k.gone]
structure RUnd where
  on : Bool
  e : Ent
  epoch : Int
  want : Int
def RUnd.zero : RUnd := ⟨false, Ent.zero, 0, 0⟩
def RUnd.cells (u : RUnd) : List Value := [.bool u.on, .string u.e.path, .int .i64 u.e.rev, .int .i64 u.e.key, .int .i64 u.e.draw, .string u.e.sealed, .bool u.e.gone, .int .i64 u.epoch, .int .i64 u.want]
structure RS where
  servers : Int
  room : Int
  key : ByteArray
  all : List RKept
  keys : List RKey
  seen : List Int
  ops : List RUnd
  epoch : Int
  floor : Int
  draws : Int
  turn : Int
  node : List Int
  needs : List (ByteArray × ByteArray)
def one (i : Int) : List Value := [.int .i64 i]
def two (p : ByteArray × ByteArray) : List Value := [.string p.1, .string p.2]
def RS.cells (Y : RS) (vA vK vS vO vN : Value) : List Value :=
  .int .i64 Y.servers :: .int .i64 Y.room :: .string Y.key :: vA :: vK :: vS :: vO :: .int .i64 Y.epoch :: .int .i64 Y.floor :: .int .i64 Y.draws :: .int .i64 Y.turn :: (Y.node.map (Value.int .i64) ++ [vN])
theorem Ent.len (e : Ent) : e.cells.length = 6 := rfl
theorem RKept.len (e : RKept) : e.cells.length = 7 := rfl
theorem RKey.len (e : RKey) : e.cells.length = 4 := rfl
theorem RUnd.len (e : RUnd) : e.cells.length = 9 := rfl
theorem one_len (i : Int) : (one i).length = 1 := rfl
theorem two_len (i : ByteArray × ByteArray) : (two i).length = 2 := rfl
theorem sz50 (e : Ent) : (Tryd.prog.info? 65).map (·.size) = some e.cells.length := show _ = some 6 by kernel_rfl
theorem Ent.one (e : Ent) : ∀ v ∈ e.cells, v.oneCell' = true := by simp [Ent.cells, Value.oneCell']
theorem RKept.one (e : RKept) : ∀ v ∈ e.cells, v.oneCell' = true := by simp [RKept.cells, Value.oneCell']
theorem RKey.one (e : RKey) : ∀ v ∈ e.cells, v.oneCell' = true := by simp [RKey.cells, Value.oneCell']
theorem RUnd.one (e : RUnd) : ∀ v ∈ e.cells, v.oneCell' = true := by simp [RUnd.cells, Value.oneCell']

variable {w w' : World} {F G : Nat → Prop} {b : Nat} {Y : RS}
/-- A slice of the struct: what its cell tells, and where its elements lie. -/
def Sl (w : World) (b off k : Nat) (ls : List (List Value)) : Prop :=
  ∃ a cap, w.cell? ⟨b, off, none⟩ = some (.slice a ls.length cap) ∧ ∀ i cs, ls[i]? = some cs → ∃ g, a = some ⟨g, 0, none⟩ ∧ g < w.heap.size ∧ (∀ j, j < k → w.cell? ⟨g, i * k + j, none⟩ = cs[j]?) ∧ ∀ j, w.frozen? ⟨g, j, none⟩ = false
theorem Own.sl {t : TypeId} {C : List Value} {R : List Row} (h : Own w F b t C R) (j : Nat) {off : Nat} {e : TypeId} {k : Nat} {α : Type} {l : List α} {f : α → List Value} (hf : ∀ x, (f x).length = k)
    (hj : R[j]? = some ⟨off, e, k, l.length, l.flatMap f⟩) : Sl w b off k (l.map f) := by
  obtain ⟨v, hv, ho, _⟩ := h.row j hj
  obtain ⟨a, cap, rfl, _, hg⟩ := ownsRow_view ho
  refine ⟨a, cap, by rw [h.cell]; simpa using hv, fun i cs hi => ?_⟩
  obtain ⟨x, hx, rfl⟩ : ∃ x, l[i]? = some x ∧ f x = cs := by simpa using hi
  have hil : i < l.length := (List.getElem?_eq_some_iff.1 hx).1
  obtain ⟨g, rfl, hlt, hc, hfz⟩ := hg (Nat.zero_lt_of_lt hil)
  refine ⟨g, rfl, hlt, fun q hq => ?_, hfz⟩
  have : (i + 1) * k ≤ l.length * k := Nat.mul_le_mul_right _ hil
  rw [Nat.add_mul] at this
  rw [hc (i * k + q) (show i * k + q < l.length * k by omega)]
  exact flat_at k f hf l i q x hx hq
theorem range_of {w : World} {g o k : Nat} {cs vs : List Value} (hc : ∀ j, j < k → w.cell? ⟨g, o + j, none⟩ = cs[j]?) (hv : ∀ j v, vs[j]? = some v → j < k ∧ cs[j]? = some v) : w.rangeAt g o vs := fun j v e => by
  rw [hc j (hv j v e).1]; exact (hv j v e).2
theorem RKept.entry {w : World} {g o : Nat} {k : RKept} (hc : ∀ j, j < 7 → w.cell? ⟨g, o + j, none⟩ = k.cells[j]?) : w.rangeAt g o k.e.cells := range_of hc (fun j v e => by
  have hj : j < 6 := (List.getElem?_eq_some_iff.1 e).1
  refine ⟨by omega, ?_⟩
  have : j = 0 ∨ j = 1 ∨ j = 2 ∨ j = 3 ∨ j = 4 ∨ j = 5 := by omega
  rcases this with rfl | rfl | rfl | rfl | rfl | rfl <;> exact e)

/-! Loads and stores of the structs, whole. -/
theorem ld50 {ops : Array Oper} {rest : List Oper} {d : Option Tmp} {t0 : TypeId} {pos : String} {after : Array Edge} {a : Act} {w : World} {Q : Exit → Act → World → Prop} (x : Operand) (b o : Nat) (e : Ent)
    (hx : a.eval x = .pointer (some ⟨b, o, none⟩)) (hc : w.rangeAt b o e.cells) (h : wpList Tryd.prog ops Q rest (a.put d (.agg e.cells.toArray)) w) :
    wpList Tryd.prog ops Q ({ dst := d, op := .load 65 x, type := t0, pos := pos, after := after, guard := none } :: rest) a w :=
  ldAny 65 x b o e.cells _ hx hc Tryd.underlying65 rfl (sz50 e) h
theorem st50 {ops : Array Oper} {rest : List Oper} {d : Option Tmp} {t0 : TypeId} {pos : String} {after : Array Edge} {a : Act} {w : World} {Q : Exit → Act → World → Prop} (x y : Operand) (b : Nat) (old e : Ent)
    (hx : a.eval x = .pointer (some ⟨b, 0, none⟩)) (hy : a.eval y = .agg e.cells.toArray) (hB : Blk w b 65 old.cells)
    (h : ∀ w', Blk w' b 65 e.cells → Kept (fun k => k = b) w w' → w'.heap.size = w.heap.size → wpList Tryd.prog ops Q rest (a.put d undef) w') :
    wpList Tryd.prog ops Q ({ dst := d, op := .store 65 x y, type := t0, pos := pos, after := after, guard := none } :: rest) a w :=
  stBlk 65 x y b 65 old.cells e.cells hx hy hB rfl (sz50 e) e.one h

end Go.Proofs.YtphapknfkbgapabDoor
