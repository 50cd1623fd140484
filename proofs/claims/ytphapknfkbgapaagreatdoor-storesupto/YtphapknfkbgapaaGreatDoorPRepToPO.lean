import Derived.Test.YtphapknfkbgapaaGreatDoorRefIToLawC
import Derived.Test.YtphapknfkbgapaaGreatDoorRefNToLawD
import Derived.Deep.RegionHeld3
namespace Go.Proofs.YtphapknfkbgapaaGreatDoor
open Go.RowKit

/-! The program's coffer as plain data, and how it lies in memory. -/

structure PKey where
  text : ByteArray
  came : Int
  wrote : Int
def PKey.cells (k : PKey) : List Value := [.string k.text, .int .i64 k.came, .int .i64 k.wrote]
structure PSrv where
  seen : Int
  busy : Bool
  epoch : Int
  rev : Int
  e : Ent
def PSrv.zero : PSrv := ⟨0, false, 0, 0, Ent.zero⟩
def PSrv.cells (s : PSrv) : List Value := [.int .i64 s.seen, .bool s.busy, .int .i64 s.epoch, .int .i64 s.rev, .string s.e.path, .int .i64 s.e.rev, .int .i64 s.e.key, .int .i64 s.e.draw, .string s.e.sealed, .bool s.e.gone]
structure PPod where
  node : Int
  needs : List ByteArray
def str (p : ByteArray) : List Value := [.string p]
theorem str_len (p : ByteArray) : (str p).length = 1 := rfl
structure PS where
  rev : Int
  floor : Int
  epoch : Int
  write : Int
  turn : Int
  room : Int
  draws : Int
  keys : List PKey
  servers : List PSrv
  entries : List Ent
  pods : Nat → PPod
def PS.cells (X : PS) (vK vS vE : Value) (vN : Nat → Value) : List Value := [.int .i64 X.rev, .int .i64 X.floor, .int .i64 X.epoch, .int .i64 X.write, .int .i64 X.turn, .int .i64 X.room, .int .i64 X.draws, vK, vS, vE, .int .i64 (X.pods 0).node, vN 0, .int .i64 (X.pods 1).node, vN 1, .int .i64 (X.pods 2).node, vN 2, .int .i64 (X.pods 3).node, vN 3, .int .i64 (X.pods 4).node, vN 4, .int .i64 (X.pods 5).node, vN 5, .int .i64 (X.pods 6).node, vN 6, .int .i64 (X.pods 7).node, vN 7]
def PS.rows (X : PS) : List Row := [⟨7, 56, 3, X.keys.length, X.keys.flatMap PKey.cells⟩, ⟨8, 101, 10, X.servers.length, X.servers.flatMap PSrv.cells⟩, ⟨9, 50, 6, X.entries.length, X.entries.flatMap Ent.cells⟩, ⟨11, 9, 1, (X.pods 0).needs.length, (X.pods 0).needs.flatMap str⟩, ⟨13, 9, 1, (X.pods 1).needs.length, (X.pods 1).needs.flatMap str⟩, ⟨15, 9, 1, (X.pods 2).needs.length, (X.pods 2).needs.flatMap str⟩, ⟨17, 9, 1, (X.pods 3).needs.length, (X.pods 3).needs.flatMap str⟩, ⟨19, 9, 1, (X.pods 4).needs.length, (X.pods 4).needs.flatMap str⟩, ⟨21, 9, 1, (X.pods 5).needs.length, (X.pods 5).needs.flatMap str⟩, ⟨23, 9, 1, (X.pods 6).needs.length, (X.pods 6).needs.flatMap str⟩, ⟨25, 9, 1, (X.pods 7).needs.length, (X.pods 7).needs.flatMap str⟩]
/-- The program's coffer X lies at block b, in blocks of F. -/
def XIn (w : World) (F : Nat → Prop) (b : Nat) (X : PS) : Prop := ∃ vK vS vE vN, (∀ i, (vN i : Value).ownBlock ≠ some 0) ∧ Own w F b 65 (X.cells vK vS vE vN) X.rows
theorem PKey.len (e : PKey) : e.cells.length = 3 := rfl
theorem PSrv.len (e : PSrv) : e.cells.length = 10 := rfl
theorem sz56 (e : PKey) : (Tryz.prog.info? 56).map (·.size) = some e.cells.length := show _ = some 3 by kernel_rfl
theorem sz96 (e : PSrv) : (Tryz.prog.info? 101).map (·.size) = some e.cells.length := show _ = some 10 by kernel_rfl
theorem PKey.one (e : PKey) : ∀ v ∈ e.cells, v.oneCell' = true := by simp [PKey.cells, Value.oneCell']
theorem PSrv.one (e : PSrv) : ∀ v ∈ e.cells, v.oneCell' = true := by simp [PSrv.cells, Value.oneCell']
theorem PS.offs (X : PS) (j : Nat) {r : Row} (hj : X.rows[j]? = some r) : ∀ i s, X.rows[i]? = some s → i ≠ j → s.off ≠ r.off := by
  intro i s hi hne e
  have hm : X.rows.map Row.off = [7, 8, 9, 11, 13, 15, 17, 19, 21, 23, 25] := rfl
  have a1 : ([7, 8, 9, 11, 13, 15, 17, 19, 21, 23, 25] : List Nat)[i]? = some s.off := by rw [← hm, List.getElem?_map, hi]; rfl
  have a2 : ([7, 8, 9, 11, 13, 15, 17, 19, 21, 23, 25] : List Nat)[j]? = some r.off := by rw [← hm, List.getElem?_map, hj]; rfl
  rw [e] at a1
  exact hne ((List.getElem?_inj (List.getElem?_eq_some_iff.1 a1).1 (by decide)).1 (a1.trans a2.symm))
variable {w w' : World} {F G : Nat → Prop} {b : Nat} {X : PS}
theorem XIn.kept (h : XIn w F b X) (k : Kept G w w') (hd : ∀ i, F i → ¬ G i) : XIn w' F b X := by
  obtain ⟨vK, vS, vE, vN, hN, h⟩ := h
  exact ⟨vK, vS, vE, vN, hN, h.kept k hd⟩
theorem XIn.low (h : XIn w F b X) (k : Low w.heap.size w w') : XIn w' F b X := h.kept k.kept (fun _ _ f => f)
theorem XIn.alloc (h : XIn w F b X) (o : Obj) : XIn (w.alloc o) F b X := h.low ((Low.refl _ w).alloc (Nat.le_refl _) o)
theorem XIn.drew (h : XIn w F b X) : XIn w.drew F b X := h.low (Low.refl _ w).drew
theorem XIn.lt (h : XIn w F b X) : b < w.heap.size := by
  obtain ⟨vK, vS, vE, vN, hN, h⟩ := h
  exact h.lt
theorem XIn.below (h : XIn w F b X) : ∀ k, F k → k < w.heap.size := by
  obtain ⟨vK, vS, vE, vN, hN, h⟩ := h
  exact h.below
theorem XIn.inF (h : XIn w F b X) : F b := by
  obtain ⟨vK, vS, vE, vN, hN, h⟩ := h
  exact h.inF
theorem XIn.frozen (h : XIn w F b X) (i : Nat) : w.frozen? ⟨b, i, none⟩ = false := by
  obtain ⟨vK, vS, vE, vN, hN, h⟩ := h
  exact h.frozen i
theorem XIn.more (h : XIn w F b X) (hs : ∀ k, F k → G k) (hb : ∀ k, G k → k < w.heap.size) : XIn w G b X := by
  obtain ⟨vK, vS, vE, vN, hN, h⟩ := h
  exact ⟨vK, vS, vE, vN, hN, h.more hs hb⟩
theorem xin_keys (h : XIn w F b X) : Sl w b 7 3 (X.keys.map PKey.cells) := by
  obtain ⟨vK, vS, vE, vN, hN, h⟩ := h
  exact h.sl 0 PKey.len rfl
theorem xin_servers (h : XIn w F b X) : Sl w b 8 10 (X.servers.map PSrv.cells) := by
  obtain ⟨vK, vS, vE, vN, hN, h⟩ := h
  exact h.sl 1 PSrv.len rfl
theorem xin_entries (h : XIn w F b X) : Sl w b 9 6 (X.entries.map Ent.cells) := by
  obtain ⟨vK, vS, vE, vN, hN, h⟩ := h
  exact h.sl 2 Ent.len rfl
theorem xin_rev (h : XIn w F b X) : w.cell? ⟨b, 0, none⟩ = some (.int .i64 X.rev) := by
  obtain ⟨vK, vS, vE, vN, hN, h⟩ := h
  exact h.cell 0
theorem xin_set_rev (h : XIn w F b X) (n : Int) : XIn (w.setCell ⟨b, 0, none⟩ (.int .i64 n)) F b { X with rev := n } := by
  obtain ⟨vK, vS, vE, vN, hN, h⟩ := h
  exact ⟨vK, vS, vE, vN, hN, (h.set 0 (.int .i64 n) (by simp [PS.rows])).cast rfl rfl⟩
theorem xin_floor (h : XIn w F b X) : w.cell? ⟨b, 1, none⟩ = some (.int .i64 X.floor) := by
  obtain ⟨vK, vS, vE, vN, hN, h⟩ := h
  exact h.cell 1
theorem xin_set_floor (h : XIn w F b X) (n : Int) : XIn (w.setCell ⟨b, 1, none⟩ (.int .i64 n)) F b { X with floor := n } := by
  obtain ⟨vK, vS, vE, vN, hN, h⟩ := h
  exact ⟨vK, vS, vE, vN, hN, (h.set 1 (.int .i64 n) (by simp [PS.rows])).cast rfl rfl⟩
theorem xin_epoch (h : XIn w F b X) : w.cell? ⟨b, 2, none⟩ = some (.int .i64 X.epoch) := by
  obtain ⟨vK, vS, vE, vN, hN, h⟩ := h
  exact h.cell 2
theorem xin_set_epoch (h : XIn w F b X) (n : Int) : XIn (w.setCell ⟨b, 2, none⟩ (.int .i64 n)) F b { X with epoch := n } := by
  obtain ⟨vK, vS, vE, vN, hN, h⟩ := h
  exact ⟨vK, vS, vE, vN, hN, (h.set 2 (.int .i64 n) (by simp [PS.rows])).cast rfl rfl⟩
theorem xin_write (h : XIn w F b X) : w.cell? ⟨b, 3, none⟩ = some (.int .i64 X.write) := by
  obtain ⟨vK, vS, vE, vN, hN, h⟩ := h
  exact h.cell 3
theorem xin_set_write (h : XIn w F b X) (n : Int) : XIn (w.setCell ⟨b, 3, none⟩ (.int .i64 n)) F b { X with write := n } := by
  obtain ⟨vK, vS, vE, vN, hN, h⟩ := h
  exact ⟨vK, vS, vE, vN, hN, (h.set 3 (.int .i64 n) (by simp [PS.rows])).cast rfl rfl⟩
theorem xin_turn (h : XIn w F b X) : w.cell? ⟨b, 4, none⟩ = some (.int .i64 X.turn) := by
  obtain ⟨vK, vS, vE, vN, hN, h⟩ := h
  exact h.cell 4
theorem xin_set_turn (h : XIn w F b X) (n : Int) : XIn (w.setCell ⟨b, 4, none⟩ (.int .i64 n)) F b { X with turn := n } := by
  obtain ⟨vK, vS, vE, vN, hN, h⟩ := h
  exact ⟨vK, vS, vE, vN, hN, (h.set 4 (.int .i64 n) (by simp [PS.rows])).cast rfl rfl⟩
theorem xin_room (h : XIn w F b X) : w.cell? ⟨b, 5, none⟩ = some (.int .i64 X.room) := by
  obtain ⟨vK, vS, vE, vN, hN, h⟩ := h
  exact h.cell 5
theorem xin_set_room (h : XIn w F b X) (n : Int) : XIn (w.setCell ⟨b, 5, none⟩ (.int .i64 n)) F b { X with room := n } := by
  obtain ⟨vK, vS, vE, vN, hN, h⟩ := h
  exact ⟨vK, vS, vE, vN, hN, (h.set 5 (.int .i64 n) (by simp [PS.rows])).cast rfl rfl⟩
theorem xin_draws (h : XIn w F b X) : w.cell? ⟨b, 6, none⟩ = some (.int .i64 X.draws) := by
  obtain ⟨vK, vS, vE, vN, hN, h⟩ := h
  exact h.cell 6
theorem xin_set_draws (h : XIn w F b X) (n : Int) : XIn (w.setCell ⟨b, 6, none⟩ (.int .i64 n)) F b { X with draws := n } := by
  obtain ⟨vK, vS, vE, vN, hN, h⟩ := h
  exact ⟨vK, vS, vE, vN, hN, (h.set 6 (.int .i64 n) (by simp [PS.rows])).cast rfl rfl⟩
theorem xin_srvAt {i : Nat} {s : PSrv} (h : XIn w F b X) (ha : X.servers[i]? = some s) : ∃ g cap, w.cell? ⟨b, 8, none⟩ = some (.slice (some ⟨g, 0, none⟩) X.servers.length cap) ∧ g < w.heap.size ∧ (∀ j, j < 10 → w.cell? ⟨g, i * 10 + j, none⟩ = s.cells[j]?) ∧ ∀ j, w.frozen? ⟨g, j, none⟩ = false := by
  obtain ⟨a, cap, hc, hel⟩ := xin_servers h
  rw [List.length_map] at hc
  obtain ⟨g, rfl, hg, hcs, hf⟩ := hel i s.cells (by rw [List.getElem?_map, ha]; rfl)
  exact ⟨g, cap, hc, hg, hcs, hf⟩
theorem xin_keyAt {i : Nat} {K : PKey} (h : XIn w F b X) (hk : X.keys[i]? = some K) : ∃ g cap, w.cell? ⟨b, 7, none⟩ = some (.slice (some ⟨g, 0, none⟩) X.keys.length cap) ∧ g < w.heap.size ∧ (∀ j, j < 3 → w.cell? ⟨g, i * 3 + j, none⟩ = K.cells[j]?) := by
  obtain ⟨a, cap, hc, hel⟩ := xin_keys h
  rw [List.length_map] at hc
  obtain ⟨g, rfl, hg, hcs, _⟩ := hel i K.cells (by rw [List.getElem?_map, hk]; rfl)
  exact ⟨g, cap, hc, hg, hcs⟩
theorem xin_putSrv (h : XIn w F b X) {g cap : Nat} (hc : w.cell? ⟨b, 8, none⟩ = some (.slice (some ⟨g, 0, none⟩) X.servers.length cap)) (i : Nat) (hi : i < X.servers.length) (u : PSrv) :
    XIn (w.setCells g (i * 10) u.cells) F b { X with servers := X.servers.set i u } ∧ Kept F w (w.setCells g (i * 10) u.cells) ∧ w.there g (i * 10) 10 := by
  obtain ⟨vK, vS, vE, vN, hN, hO⟩ := h
  obtain rfl : vS = _ := Option.some.inj ((hO.cell 8).symm.trans hc)
  obtain ⟨q1, q2, q3⟩ := hO.elem 1 PSrv.len rfl rfl i hi u
  exact ⟨⟨vK, _, vE, vN, hN, q1.cast rfl (by simp [PS.rows])⟩, q2, q3⟩
theorem xin_setSeen (h : XIn w F b X) {g cap : Nat} (hc : w.cell? ⟨b, 8, none⟩ = some (.slice (some ⟨g, 0, none⟩) X.servers.length cap)) (i : Nat) (s : PSrv) (hs : X.servers[i]? = some s) (v : Int) :
    XIn (w.setCell ⟨g, i * 10, none⟩ (.int .i64 v)) F b { X with servers := X.servers.set i { s with seen := v } } ∧ Kept F w (w.setCell ⟨g, i * 10, none⟩ (.int .i64 v)) := by
  obtain ⟨vK, vS, vE, vN, hN, hO⟩ := h
  obtain rfl : vS = _ := Option.some.inj ((hO.cell 8).symm.trans hc)
  obtain ⟨q1, q2⟩ := own_cellSet hO 1 PSrv.len rfl rfl i s { s with seen := v } hs 0 (by omega) (.int .i64 v) rfl
  exact ⟨⟨vK, _, vE, vN, hN, q1.cast rfl (by simp [PS.rows])⟩, q2⟩
theorem st96 {ops : Array Oper} {rest : List Oper} {d : Option Tmp} {t0 : TypeId} {pos : String} {after : Array Edge} {a : Act} {w : World} {Q : Exit → Act → World → Prop} (x y : Operand) (g o : Nat) (u : PSrv)
    (hx : a.eval x = .pointer (some ⟨g, o, none⟩)) (hy : a.eval y = .agg u.cells.toArray) (ht : w.there g o 10)
    (h : wpList Tryz.prog ops Q rest (a.put d undef) (w.setCells g o u.cells)) :
    wpList Tryz.prog ops Q ({ dst := d, op := .store 101 x y, type := t0, pos := pos, after := after, guard := none } :: rest) a w :=
  stAny 101 x y g o u.cells hx hy ht (sz96 u) u.one h
theorem ld56 {ops : Array Oper} {rest : List Oper} {d : Option Tmp} {t0 : TypeId} {pos : String} {after : Array Edge} {a : Act} {w : World} {Q : Exit → Act → World → Prop} (x : Operand) (b o : Nat) (e : PKey)
    (hx : a.eval x = .pointer (some ⟨b, o, none⟩)) (hc : w.rangeAt b o e.cells) (h : wpList Tryz.prog ops Q rest (a.put d (.agg e.cells.toArray)) w) :
    wpList Tryz.prog ops Q ({ dst := d, op := .load 56 x, type := t0, pos := pos, after := after, guard := none } :: rest) a w :=
  ldAny 56 x b o e.cells _ hx hc Tryz.underlying56 rfl (sz56 e) h

/-! The pods, in memory. -/
def setPod (p : Nat → PPod) (i : Nat) (q : PPod) : Nat → PPod := fun j => if j = i then q else p j
theorem setPod_same (p : Nat → PPod) (i : Nat) (q : PPod) : setPod p i q i = q := by simp [setPod]
theorem setPod_ne {p : Nat → PPod} {i j : Nat} {q : PPod} (h : j ≠ i) : setPod p i q j = p j := by simp [setPod, h]
theorem eight {i : Nat} (h : i < 8) : i = 0 ∨ i = 1 ∨ i = 2 ∨ i = 3 ∨ i = 4 ∨ i = 5 ∨ i = 6 ∨ i = 7 := by omega
theorem xin_node {i : Nat} (h : XIn w F b X) (hi : i < 8) : w.cell? ⟨b, 10 + i * 2, none⟩ = some (.int .i64 (X.pods i).node) := by
  obtain ⟨vK, vS, vE, vN, hN, h⟩ := h
  rw [h.cell]
  rcases eight hi with rfl | rfl | rfl | rfl | rfl | rfl | rfl | rfl <;> rfl
theorem xin_setNode {i : Nat} (h : XIn w F b X) (hi : i < 8) (n : Int) : XIn (w.setCell ⟨b, 10 + i * 2, none⟩ (.int .i64 n)) F b { X with pods := setPod X.pods i { X.pods i with node := n } } := by
  obtain ⟨vK, vS, vE, vN, hN, h⟩ := h
  rcases eight hi with rfl | rfl | rfl | rfl | rfl | rfl | rfl | rfl <;>
    exact ⟨vK, vS, vE, vN, hN, (h.set _ (.int .i64 n) (by simp [PS.rows])).cast rfl rfl⟩
theorem xin_needs {i : Nat} (h : XIn w F b X) (hi : i < 8) : Sl w b (11 + i * 2) 1 ((X.pods i).needs.map str) := by
  obtain ⟨vK, vS, vE, vN, hN, h⟩ := h
  rcases eight hi with rfl | rfl | rfl | rfl | rfl | rfl | rfl | rfl
  · exact h.sl 3 str_len rfl
  · exact h.sl 4 str_len rfl
  · exact h.sl 5 str_len rfl
  · exact h.sl 6 str_len rfl
  · exact h.sl 7 str_len rfl
  · exact h.sl 8 str_len rfl
  · exact h.sl 9 str_len rfl
  · exact h.sl 10 str_len rfl
theorem xin_needsRow {i : Nat} (h : XIn w F b X) (hi : i < 8) : ∃ v, w.cell? ⟨b, 11 + i * 2, none⟩ = some v ∧ w.ownsRow 0 9 1 v (X.pods i).needs.length ((X.pods i).needs.flatMap str) := by
  obtain ⟨vK, vS, vE, vN, hN, h⟩ := h
  rw [h.cell]
  rcases eight hi with rfl | rfl | rfl | rfl | rfl | rfl | rfl | rfl
  · obtain ⟨v, hv, ho, _⟩ := h.row 3 rfl; exact ⟨v, hv, ho⟩
  · obtain ⟨v, hv, ho, _⟩ := h.row 4 rfl; exact ⟨v, hv, ho⟩
  · obtain ⟨v, hv, ho, _⟩ := h.row 5 rfl; exact ⟨v, hv, ho⟩
  · obtain ⟨v, hv, ho, _⟩ := h.row 6 rfl; exact ⟨v, hv, ho⟩
  · obtain ⟨v, hv, ho, _⟩ := h.row 7 rfl; exact ⟨v, hv, ho⟩
  · obtain ⟨v, hv, ho, _⟩ := h.row 8 rfl; exact ⟨v, hv, ho⟩
  · obtain ⟨v, hv, ho, _⟩ := h.row 9 rfl; exact ⟨v, hv, ho⟩
  · obtain ⟨v, hv, ho, _⟩ := h.row 10 rfl; exact ⟨v, hv, ho⟩
def setVal (p : Nat → Value) (i : Nat) (q : Value) : Nat → Value := fun j => if j = i then q else p j
theorem xin_setNeeds {i : Nat} {w1 : World} {v' : Value} {l : List ByteArray} (h : XIn w F b X) (hi : i < 8) (k : Low w.heap.size w w1) (ho : w1.ownsRow 0 9 1 v' l.length (l.flatMap str)) (hw : ∀ q, v'.ownBlock = some q → w.heap.size ≤ q) :
    XIn (w1.setCell ⟨b, 11 + i * 2, none⟩ v') (grow F w w1) b { X with pods := setPod X.pods i { X.pods i with needs := l } } ∧ Kept F w (w1.setCell ⟨b, 11 + i * 2, none⟩ v') := by
  obtain ⟨vK, vS, vE, vN, hN, hO⟩ := h
  have hpos : 0 < w.heap.size := Nat.lt_of_le_of_lt (Nat.zero_le _) hO.lt
  have hN2 : ∀ j, (setVal vN i v' j).ownBlock ≠ some 0 := fun j => by
    unfold setVal
    split
    · exact fun e => by have := hw 0 e; omega
    · exact hN j
  refine ⟨?_, k.kept.trans (setCell_kept w1 ⟨b, 11 + i * 2, none⟩ v') (fun _ f => f.elim) (fun q _ e => by rw [show q = b from e]; exact hO.inF)⟩
  rcases eight hi with rfl | rfl | rfl | rfl | rfl | rfl | rfl | rfl
  · exact ⟨vK, vS, vE, setVal vN 0 v', hN2, (hO.rowNew 3 rfl rfl (k.kept.mono (fun _ _ f => f.elim)) ho (Or.inr hw) (X.offs 3 rfl)).cast rfl rfl⟩
  · exact ⟨vK, vS, vE, setVal vN 1 v', hN2, (hO.rowNew 4 rfl rfl (k.kept.mono (fun _ _ f => f.elim)) ho (Or.inr hw) (X.offs 4 rfl)).cast rfl rfl⟩
  · exact ⟨vK, vS, vE, setVal vN 2 v', hN2, (hO.rowNew 5 rfl rfl (k.kept.mono (fun _ _ f => f.elim)) ho (Or.inr hw) (X.offs 5 rfl)).cast rfl rfl⟩
  · exact ⟨vK, vS, vE, setVal vN 3 v', hN2, (hO.rowNew 6 rfl rfl (k.kept.mono (fun _ _ f => f.elim)) ho (Or.inr hw) (X.offs 6 rfl)).cast rfl rfl⟩
  · exact ⟨vK, vS, vE, setVal vN 4 v', hN2, (hO.rowNew 7 rfl rfl (k.kept.mono (fun _ _ f => f.elim)) ho (Or.inr hw) (X.offs 7 rfl)).cast rfl rfl⟩
  · exact ⟨vK, vS, vE, setVal vN 5 v', hN2, (hO.rowNew 8 rfl rfl (k.kept.mono (fun _ _ f => f.elim)) ho (Or.inr hw) (X.offs 8 rfl)).cast rfl rfl⟩
  · exact ⟨vK, vS, vE, setVal vN 6 v', hN2, (hO.rowNew 9 rfl rfl (k.kept.mono (fun _ _ f => f.elim)) ho (Or.inr hw) (X.offs 9 rfl)).cast rfl rfl⟩
  · exact ⟨vK, vS, vE, setVal vN 7 v', hN2, (hO.rowNew 10 rfl rfl (k.kept.mono (fun _ _ f => f.elim)) ho (Or.inr hw) (X.offs 10 rfl)).cast rfl rfl⟩

/-! Readers. -/
set_option maxRecDepth 100000 in
theorem isServer_any (w : World) (s : Int) (h : XIn w F b X) :
    Calls Tryz.prog 60 #[.pointer (some ⟨b, 0, none⟩), .int .i64 s] w fun e w' => e = .returned (.bool (isSrv X.servers.length s)) ∧ w' = w := by
  obtain ⟨a, cap, hc, _⟩ := xin_servers h
  rw [List.length_map] at hc
  by_cases h1 : 0 ≤ s
  · have q1 : decide (0 ≤ s) = true := by simp; omega
    go_enter Tryz.func60, Tryz.ntmps60
    go_wp2
    go_ret
    exact ⟨by simp [isSrv, q1], rfl⟩
  · have q1 : decide (0 ≤ s) = false := by simp; omega
    go_enter Tryz.func60, Tryz.ntmps60
    go_wp2
    go_ret
    exact ⟨by simp [isSrv, q1], rfl⟩
/-- The newest entry of a path, of at most a revision. -/
def newestOf (l : List Ent) (p : ByteArray) (rev : Int) : Ent := (l.reverse.find? (fun e => decide (e.rev ≤ rev) && (e.path.toList == p.toList))).getD Ent.zero
theorem newestOf_snoc (l : List Ent) (e : Ent) (p : ByteArray) (rev : Int) : newestOf (l ++ [e]) p rev = if decide (e.rev ≤ rev) && (e.path.toList == p.toList) then e else newestOf l p rev := by
  unfold newestOf
  rw [List.reverse_append]
  simp only [List.reverse_cons, List.reverse_nil, List.nil_append, List.singleton_append, List.find?_cons]
  cases decide (e.rev ≤ rev) && (e.path.toList == p.toList) <;> rfl
set_option maxRecDepth 100000 in
set_option maxHeartbeats 400000 in
theorem newest_any (w : World) (p : ByteArray) (rev : Int) (h : XIn w F b X) (hn : X.entries.length ≤ 1000) :
    Calls Tryz.prog 78 #[.pointer (some ⟨b, 0, none⟩), .string p, .int .i64 rev] w fun e w' =>
      e = .returned (.agg (newestOf X.entries p rev).cells.toArray) ∧ Low w.heap.size w w' := by
  have HR := hid h
  clear h
  go_enter Tryz.func78, Tryz.ntmps78
  go_wp2
  go_loopw [8] (fun iv wr => ∃ (i : Nat), i ≤ X.entries.length ∧ iv = .int .i64 (i : Int) ∧ Hid (Low w.heap.size w wr ∧ wr.heap.size = w.heap.size + 2 ∧ Blk wr w.heap.size 50 Ent.zero.cells ∧ Blk wr (w.heap.size + 1) 50 (newestOf (X.entries.take i) p rev).cells)) (fun iv _ => X.entries.length - (intOf iv).toNat)
  case atStart =>
    refine ⟨0, Nat.zero_le _, rfl, ?_, by simp, (Blk.new w 50 Ent.zero.cells).alloc _, ?_⟩
    · exact ((Low.refl _ w).alloc (Nat.le_refl _) _).alloc (by simp) _
    · have := Blk.new (w.alloc (.cells Ent.zero.cells.toArray 50)) 50 Ent.zero.cells
      rw [World.size_alloc] at this
      exact this
  case round =>
    obtain ⟨i, hi, rfl, HI⟩ := hrel
    obtain ⟨a, cap, hc, hel⟩ := xin_entries (HR.out.low HI.out.1)
    rw [List.length_map] at hc
    by_cases h1 : i < X.entries.length
    · have q1 : decide ((i : Int) < (X.entries.length : Int)) = true := by simp; omega
      obtain ⟨k, hk2⟩ : ∃ k, X.entries[i]? = some k := ⟨_, List.getElem?_eq_getElem h1⟩
      obtain ⟨g, rfl, hg, hcs, _⟩ := hel i k.cells (by rw [List.getElem?_map, hk2]; rfl)
      have c1 : wr.cell? ⟨g, i * 6 + 1, none⟩ = some (.int .i64 k.rev) := hcs 1 (by omega)
      have c0 : wr.cell? ⟨g, i * 6, none⟩ = some (.string k.path) := hcs 0 (by omega)
      have HC : Hid (wr.rangeAt g (i * 6) k.cells) := range_of hcs (fun _ _ e => ⟨(List.getElem?_eq_some_iff.1 e).1, e⟩)
      have HS := hid (newestOf_snoc (X.entries.take i) k p rev)
      have HT := hid (take_snoc hk2)
      clear hcs hk2 hel
      cases q3 : decide (k.rev ≤ rev)
      · go_wp2_with fail
        go_roundw
        case rel => exact ⟨i + 1, by omega, by simp, by rw [HT.out, HS.out, q3]; exact HI.out⟩
        case measure => simp [intOf]; omega
      · cases q4 : (k.path.toList == p.toList)
        · go_wp2_with fail
          go_roundw
          case rel => exact ⟨i + 1, by omega, by simp, by rw [HT.out, HS.out, q3, q4]; exact HI.out⟩
          case measure => simp [intOf]; omega
        · go_wp2_with (first | ((with_reducible refine ld50 (.tmp 46) g (i * 6) k ?_ HC.out ?_); rfl) | ((with_reducible refine st50 (.tmp 7) (.tmp 47) (w.heap.size + 1) _ k ?_ ?_ HI.out.2.2.2 ?_); rfl; rfl; intro w1 b1 k1 s1; have B1 := hid b1; have K1 := hid k1; have S1 := hid s1; clear b1 k1 s1))
          go_roundw
          case rel =>
            have hE : newestOf (X.entries.take (i + 1)) p rev = k := by rw [HT.out, HS.out, q3, q4]; rfl
            obtain ⟨l0, s0, z0, e0⟩ := HI.out
            exact ⟨i + 1, by omega, by simp, low_set l0 K1.out (by omega) l0.size, S1.out.trans s0, z0.kept K1.out (by omega), by rw [hE]; exact B1.out⟩
          case measure => simp [intOf]; omega
    · have q1 : decide ((i : Int) < (X.entries.length : Int)) = false := by simp; omega
      obtain rfl : i = X.entries.length := by omega
      rw [List.take_length] at HI
      clear hel
      go_wp2_with (first | ((with_reducible refine ld50 (.tmp 7) (w.heap.size + 1) 0 (newestOf X.entries p rev) ?_ HI.out.2.2.2.whole ?_); rfl) | ((with_reducible refine st50 (.tmp 6) (.tmp 48) w.heap.size Ent.zero (newestOf X.entries p rev) ?_ ?_ HI.out.2.2.1 ?_); rfl; rfl; intro w1 b1 k1 s1; have B1 := hid b1; have K1 := hid k1; clear b1 k1 s1))
      (try simp only [Exit.inBlock, Exit.then])
      refine bodyPost_ret (results_cell rfl w.heap.size (newestOf X.entries p rev).cells _ rfl B1.out.whole Tryz.underlying50 rfl (sz50 _)) rfl ?_
      exact ⟨rfl, low_set HI.out.1 K1.out (Nat.le_refl _) HI.out.1.size⟩
end Go.Proofs.YtphapknfkbgapaaGreatDoor
namespace Go.Proofs.YtphapknfkbgapaaGreatDoor
open Go.RowKit

variable {F : Nat → Prop} {b : Nat} {X : PS}

def pFull (X : PS) : Bool := decide (X.room ≤ (X.entries.length : Int))
set_option maxRecDepth 100000 in
theorem pfull_any (w : World) (h : XIn w F b X) :
    Calls Tryz.prog 86 #[.pointer (some ⟨b, 0, none⟩)] w fun e w' => e = .returned (.bool (pFull X)) ∧ Low w.heap.size w w' := by
  obtain ⟨a, cap, hc, _⟩ := xin_entries h
  rw [List.length_map] at hc
  have c5 := xin_room h
  clear h
  go_enter Tryz.func86, Tryz.ntmps86
  go_upto_region 1 with fail
  go_region
  all_goals go_wp2_with fail
  all_goals go_ret
  all_goals exact ⟨by simp [pFull], (Low.refl _ _).drew⟩
def pRevOf (X : PS) (p : ByteArray) : Int := if (newestOf X.entries p X.rev).gone then 0 else (newestOf X.entries p X.rev).rev
set_option maxRecDepth 100000 in
set_option maxHeartbeats 400000 in
theorem revOf_any (w : World) (p : ByteArray) (h : XIn w F b X) (hn : X.entries.length ≤ 1000) :
    Calls Tryz.prog 104 #[.pointer (some ⟨b, 0, none⟩), .string p] w fun e w' => e = .returned (.int .i64 (pRevOf X p)) ∧ Low w.heap.size w w' := by
  have HR := hid h
  have c0 := xin_rev h
  obtain ⟨E, hE⟩ : ∃ E, newestOf X.entries p X.rev = E := ⟨_, rfl⟩
  have HE := hid hE
  clear h hE
  cases hg : E.gone
  all_goals
    go_enter Tryz.func104, Tryz.ntmps104
    go_wp2_with (first | (go_at_call 78; refine (newest_any _ _ _ HR.out hn).mono ?_; rw [HE.out]; rintro e y1 ⟨rfl, l1⟩; have L1 := hid l1; clear l1) | ((with_reducible refine st50 (.tmp 5) (.tmp 13) y1.heap.size Ent.zero E ?_ ?_ ?_ ?_); rfl; rfl; exact (Blk.new y1 50 Ent.zero.cells); intro W b2 k2 s2; have m5 : W.cell? ⟨y1.heap.size, 5, none⟩ = some (.bool E.gone) := b2.cell 5; have m1 : W.cell? ⟨y1.heap.size, 1, none⟩ = some (.int .i64 E.rev) := b2.cell 1; have LW : Hid (Low w.heap.size w W) := low_set (L1.out.alloc L1.out.size _) k2 L1.out.size (by have := L1.out.size; simp; omega); clear b2 k2 s2))
    go_ret
    exact ⟨by simp [pRevOf, HE.out, hg], LW.out⟩
set_option maxRecDepth 100000 in
theorem key_any (w : World) (i : Nat) (K : PKey) (h : XIn w F b X) (hk : X.keys[i]? = some K) (hi : i ≤ 100) :
    Calls Tryz.prog 103 #[.pointer (some ⟨b, 0, none⟩), .int .i64 ((i : Int) + 1)] w fun e w' => e = .returned (.agg #[.string K.text, .int .i64 K.came, .int .i64 K.wrote]) ∧ Low w.heap.size w w' := by
  obtain ⟨g, cap, hc, hg, hcs⟩ := xin_keyAt h hk
  have c0 : w.cell? ⟨g, i * 3, none⟩ = some (.string K.text) := hcs 0 (by omega)
  have c1 : w.cell? ⟨g, i * 3 + 1, none⟩ = some (.int .i64 K.came) := hcs 1 (by omega)
  have c2 : w.cell? ⟨g, i * 3 + 2, none⟩ = some (.int .i64 K.wrote) := hcs 2 (by omega)
  have hb := h.lt
  have hl : (i : Int) < (X.keys.length : Int) := by have := (List.getElem?_eq_some_iff.1 hk).1; omega
  have hz : (i : Int) + 1 - 1 = (i : Int) := by omega
  clear hcs h hk
  go_enter Tryz.func103, Tryz.ntmps103
  go_wp2
  (try simp only [Exit.inBlock, Exit.then])
  refine bodyPost_ret (results_cell rfl w.heap.size K.cells _ rfl (by exact (Blk.new w 56 K.cells).whole) Tryz.underlying56 rfl (sz56 _)) rfl ?_
  exact ⟨rfl, (Low.refl _ w).alloc (Nat.le_refl _) _⟩
def keyGone (K : PKey) : Bool := K.text.toList == (⟨#[]⟩ : ByteArray).toList
theorem destroyed_any (w : World) (K : PKey) :
    Calls Tryz.prog 91 #[.agg #[.string K.text, .int .i64 K.came, .int .i64 K.wrote]] w fun e w' => e = .returned (.bool (keyGone K)) ∧ Low w.heap.size w w' := by
  go_enter Tryz.func91, Tryz.ntmps91
  go_wp2
  go_ret
  exact ⟨by simp [keyGone], (Low.refl _ w).alloc (Nat.le_refl _) _⟩
theorem pisPath_any (w : World) (p : ByteArray) (hp : p.size ≤ maxLen) :
    Calls Tryz.prog 93 #[.string p] w fun e w' => e = .returned (.bool (isPath p)) ∧ w' = w := by
  unfold maxLen at hp
  by_cases h1 : 1 ≤ p.size
  · have q1 : decide ((1 : Int) ≤ (p.size : Int)) = true := by simp; omega
    by_cases h2 : p.size ≤ 16
    · have q2 : decide ((p.size : Int) ≤ 16) = true := by simp; omega
      have HE : Hid (isPath p = true) := by show _ = _; simp [isPath]; omega
      go_enter Tryz.func93, Tryz.ntmps93
      go_wp2
      go_ret
      exact ⟨by rw [HE.out]; simp, rfl⟩
    · have q2 : decide ((p.size : Int) ≤ 16) = false := by simp; omega
      have HE : Hid (isPath p = false) := by show _ = _; simp [isPath]; omega
      go_enter Tryz.func93, Tryz.ntmps93
      go_wp2
      go_ret
      exact ⟨by rw [HE.out]; simp, rfl⟩
  · have q1 : decide ((1 : Int) ≤ (p.size : Int)) = false := by rw [decide_eq_false_iff_not]; omega
    have HE : Hid (isPath p = false) := by show _ = _; simp [isPath]; omega
    go_enter Tryz.func93, Tryz.ntmps93
    go_wp2
    go_ret
    exact ⟨by rw [HE.out]; simp, rfl⟩
theorem isSecret_any (w : World) (p : ByteArray) (hp : p.size ≤ maxLen) :
    Calls Tryz.prog 99 #[.string p] w fun e w' => e = .returned (.bool (decide (p.size ≤ 64))) ∧ w' = w := by
  unfold maxLen at hp
  go_enter Tryz.func99, Tryz.ntmps99
  go_wp2
  go_ret
  exact ⟨by simp; omega, rfl⟩
theorem beq48 (n : Nat) : ((n : Int) == 48) = (n == 48) := by
  rw [Bool.eq_iff_iff]
  simp only [beq_iff_eq]
  omega
theorem isKey_any (w : World) (p : ByteArray) :
    Calls Tryz.prog 21 #[.string p] w fun e w' => e = .returned (.bool (p.size == 48)) ∧ w' = w := by
  go_enter Tryz.func21, Tryz.ntmps21
  go_wp2
  go_ret
  exact ⟨by simp [beq48], rfl⟩
/-- The number of the key that wrote when an epoch came. -/
def writerR (ks : List PKey) (ep : Int) : Int := match ks with
  | [] => 1
  | k :: r => if (k.wrote != 0) && decide (k.wrote ≤ ep) then (r.length + 2 : Int) else writerR r ep
def writerOf (ks : List PKey) (ep : Int) : Int := writerR (ks.drop 1).reverse ep
theorem writerR_snoc (l : List PKey) (k : PKey) (ep : Int) : writerR (l ++ [k]).reverse ep = if (k.wrote != 0) && decide (k.wrote ≤ ep) then (l.length + 2 : Int) else writerR l.reverse ep := by
  simp [writerR]
set_option maxHeartbeats 400000 in
theorem writer_any (w : World) (ep : Int) (h : XIn w F b X) (hk : X.keys.length ≤ 6) (hk1 : 1 ≤ X.keys.length) :
    Calls Tryz.prog 100 #[.pointer (some ⟨b, 0, none⟩), .int .i64 ep] w fun e w' => e = .returned (.int .i64 (writerOf X.keys ep)) ∧ w' = w := by
  obtain ⟨a, cap, hc, hel⟩ := xin_keys h
  rw [List.length_map] at hc
  have HEL := hid hel
  clear hel
  go_enter Tryz.func100, Tryz.ntmps100
  go_wp2
  go_loopw [5, 6] (fun kv iv wr => ∃ i : Nat, i + 1 ≤ X.keys.length ∧ kv = .int .i64 (writerR ((X.keys.drop 1).take i).reverse ep) ∧ iv = .int .i64 ((i : Int) + 1) ∧ w = wr) (fun _ iv _ => X.keys.length - (intOf iv).toNat)
  case atStart => exact ⟨0, by omega, rfl, rfl, rfl⟩
  case round =>
    obtain ⟨i, hi, rfl, rfl, rfl⟩ := hrel
    generalize hM : writerR ((X.keys.drop 1).take i).reverse ep = M
    have HM := hid hM
    clear hM
    by_cases h1 : i + 1 < X.keys.length
    · have q1 : decide ((i : Int) + 1 < (X.keys.length : Int)) = true := by simp; omega
      obtain ⟨k, hk2⟩ : ∃ k, X.keys[i + 1]? = some k := ⟨_, List.getElem?_eq_getElem h1⟩
      obtain ⟨g, rfl, hg, hcs, _⟩ := HEL.out (i + 1) k.cells (by rw [List.getElem?_map, hk2]; rfl)
      have c2 : w.cell? ⟨g, (i + 1) * 3 + 2, none⟩ = some (.int .i64 k.wrote) := hcs 2 (by omega)
      have HS := hid (writerR_snoc ((X.keys.drop 1).take i) k ep)
      have HT := hid (take_snoc (l := X.keys.drop 1) (i := i) (x := k) (by rw [List.getElem?_drop, Nat.add_comm]; exact hk2))
      have HL : Hid (((X.keys.drop 1).take i).length = i) := by show _ = _; simp; omega
      clear hcs hk2
      cases q3 : (k.wrote != 0)
      · go_wp2_with fail
        go_roundw
        case rel => exact ⟨i + 1, by omega, by rw [HT.out, HS.out, HM.out, q3]; rfl, by simp, by trivial⟩
        case measure => simp [intOf]; omega
      · cases q4 : decide (k.wrote ≤ ep)
        · go_wp2_with fail
          go_roundw
          case rel => exact ⟨i + 1, by omega, by rw [HT.out, HS.out, HM.out, q3, q4]; rfl, by simp, by trivial⟩
          case measure => simp [intOf]; omega
        · go_wp2_with fail
          go_roundw
          case rel => exact ⟨i + 1, by omega, by rw [HT.out, HS.out, q3, q4, HL.out]; simp; omega, by simp, by trivial⟩
          case measure => simp [intOf]; omega
    · have q1 : decide ((i : Int) + 1 < (X.keys.length : Int)) = false := by simp; omega
      have hE : Hid (writerOf X.keys ep = M) := by
        show writerOf X.keys ep = M
        rw [← HM.out, writerOf, List.take_of_length_le (by simp; omega)]
      go_wp2_with fail
      go_ret
      exact ⟨by rw [hE.out]; rfl, rfl⟩
end Go.Proofs.YtphapknfkbgapaaGreatDoor
namespace Go.Proofs.YtphapknfkbgapaaGreatDoor
open Go.RowKit

variable {F : Nat → Prop} {b : Nat} {X : PS}

set_option maxRecDepth 100000 in
theorem pState_any (w : World) (h : XIn w F b X) :
    Calls Tryz.prog 55 #[.pointer (some ⟨b, 0, none⟩)] w fun e w' => e = .returned (.agg (stCells X.rev X.floor X.epoch X.write X.turn).toArray) ∧ Low w.heap.size w w' := by
  have c0 := xin_rev h
  have c1 := xin_floor h
  have c2 := xin_epoch h
  have c3 := xin_write h
  have c4 := xin_turn h
  have hb := h.lt
  clear h
  go_enter Tryz.func55, Tryz.ntmps55
  go_wp2
  (try simp only [Exit.inBlock, Exit.then])
  refine bodyPost_ret (results_cell rfl w.heap.size (stCells X.rev X.floor X.epoch X.write X.turn) _ rfl (by exact (Blk.new w 54 (stCells X.rev X.floor X.epoch X.write X.turn)).whole) Tryz.underlying54 rfl (sz54 _ _ _ _ _)) rfl ?_
  exact ⟨rfl, (Low.refl _ w).alloc (Nat.le_refl _) _⟩
theorem psrv {i : Nat} {s : PSrv} (ha : X.servers[i]? = some s) : isSrv X.servers.length (i : Int) = true ∧ (i : Int) < (X.servers.length : Int) := by
  have := (List.getElem?_eq_some_iff.1 ha).1
  rw [isSrv_iff]; omega
theorem mayRead_srv (w : World) (s : Int) (h : XIn w F b X) (hs : isSrv X.servers.length s = false) :
    Calls Tryz.prog 73 #[.pointer (some ⟨b, 0, none⟩), .int .i64 s] w fun e w' => e = .returned (.int .i64 4) ∧ w' = w := by
  have HR := hid h
  have HS := hid hs
  clear h hs
  go_enter Tryz.func73, Tryz.ntmps73
  go_wp2_with (go_at_call 60; refine (isServer_any _ _ HR.out).mono ?_; rw [HS.out]; rintro e y1 ⟨rfl, hy⟩; obtain rfl := hy.symm)
  go_ret
  exact ⟨rfl, rfl⟩
def readErr (s : PSrv) : Int := if s.seen == 0 then 6 else 0
set_option maxRecDepth 100000 in
theorem mayRead_any (w : World) (i : Nat) (s : PSrv) (h : XIn w F b X) (ha : X.servers[i]? = some s) :
    Calls Tryz.prog 73 #[.pointer (some ⟨b, 0, none⟩), .int .i64 (i : Int)] w fun e w' => e = .returned (.int .i64 (readErr s)) ∧ w' = w := by
  obtain ⟨g, cap, hc, hg, hcs, _⟩ := xin_srvAt h ha
  have c0 : w.cell? ⟨g, i * 10, none⟩ = some (.int .i64 s.seen) := hcs 0 (by omega)
  have hl := (psrv ha).2
  have HS := hid (psrv ha).1
  have HR := hid h
  clear h ha hcs
  cases hz : (s.seen == 0)
  all_goals
    have HE := hid (show readErr s = _ from by unfold readErr; rw [hz])
    go_enter Tryz.func73, Tryz.ntmps73
    go_wp2_with (go_at_call 60; refine (isServer_any _ _ HR.out).mono ?_; rw [HS.out]; rintro e y1 ⟨rfl, hy⟩; obtain rfl := hy.symm)
    go_ret
    exact ⟨by rw [HE.out]; rfl, rfl⟩
def PS.refresh (X : PS) (i : Nat) (s : PSrv) : PS := { X with servers := X.servers.set i { s with seen := X.epoch } }
def PS.crash (X : PS) (i : Nat) : PS := { X with servers := X.servers.set i PSrv.zero }
theorem pRefresh_no (w : World) (s : Int) (h : XIn w F b X) (hs : isSrv X.servers.length s = false) :
    Calls Tryz.prog 23 #[.pointer (some ⟨b, 0, none⟩), .int .i64 s] w fun e w' => e = .returned (.int .i64 4) ∧ w' = w := by
  have HR := hid h
  have HS := hid hs
  clear h hs
  go_enter Tryz.func23, Tryz.ntmps23
  go_wp2_with (go_at_call 60; refine (isServer_any _ _ HR.out).mono ?_; rw [HS.out]; rintro e y1 ⟨rfl, hy⟩; obtain rfl := hy.symm)
  go_ret
  exact ⟨rfl, rfl⟩
set_option maxRecDepth 100000 in
set_option maxHeartbeats 1000000 in
theorem pRefresh_yes (w : World) (i : Nat) (s : PSrv) (h : XIn w F b X) (ha : X.servers[i]? = some s) :
    Calls Tryz.prog 23 #[.pointer (some ⟨b, 0, none⟩), .int .i64 (i : Int)] w fun e w' => e = .returned (.int .i64 0) ∧ XIn w' F b (X.refresh i s) ∧ Kept F w w' := by
  obtain ⟨g, cap, hc, hg, hcs, hf⟩ := xin_srvAt h ha
  have c0 : w.cell? ⟨g, i * 10, none⟩ = some (.int .i64 s.seen) := hcs 0 (by omega)
  have f0 := hf (i * 10)
  have c2 := xin_epoch h
  have hl := (psrv ha).2
  have HS := hid (psrv ha).1
  have HR := hid h
  obtain ⟨p1, p2⟩ := xin_setSeen h hc i s ha X.epoch
  have P1 := hid p1
  have P2 := hid p2
  clear h ha hcs hf p1 p2
  go_enter Tryz.func23, Tryz.ntmps23
  go_upto_region 3 with (go_at_call 60; refine (isServer_any _ _ HR.out).mono ?_; rw [HS.out]; rintro e y1 ⟨rfl, hy⟩; obtain rfl := hy.symm)
  go_region
  all_goals go_wp2_with fail
  all_goals go_ret
  all_goals exact ⟨rfl, P1.out.drew, P2.out.drew⟩
theorem pCrash_no (w : World) (s : Int) (h : XIn w F b X) (hs : isSrv X.servers.length s = false) :
    Calls Tryz.prog 25 #[.pointer (some ⟨b, 0, none⟩), .int .i64 s] w fun e w' => e = .returned (.int .i64 4) ∧ w' = w := by
  have HR := hid h
  have HS := hid hs
  clear h hs
  go_enter Tryz.func25, Tryz.ntmps25
  go_wp2_with (go_at_call 60; refine (isServer_any _ _ HR.out).mono ?_; rw [HS.out]; rintro e y1 ⟨rfl, hy⟩; obtain rfl := hy.symm)
  go_ret
  exact ⟨rfl, rfl⟩
set_option maxRecDepth 100000 in
set_option maxHeartbeats 1000000 in
theorem pCrash_yes (w : World) (i : Nat) (s : PSrv) (h : XIn w F b X) (ha : X.servers[i]? = some s) :
    Calls Tryz.prog 25 #[.pointer (some ⟨b, 0, none⟩), .int .i64 (i : Int)] w fun e w' => e = .returned (.int .i64 0) ∧ XIn w' F b (X.crash i) ∧ Kept F w w' := by
  obtain ⟨g, cap, hc, hg, hcs, hf⟩ := xin_srvAt h ha
  have hl := (psrv ha).2
  have HS := hid (psrv ha).1
  have HR := hid h
  obtain ⟨p1, p2, p3⟩ := xin_putSrv h hc i (List.getElem?_eq_some_iff.1 ha).1 PSrv.zero
  have P1 := hid p1
  have P2 := hid p2
  have P3 := hid p3
  clear h ha hcs hf p1 p2 p3
  go_enter Tryz.func25, Tryz.ntmps25
  go_wp2_with (first | (go_at_call 60; refine (isServer_any _ _ HR.out).mono ?_; rw [HS.out]; rintro e y1 ⟨rfl, hy⟩; obtain rfl := hy.symm) | ((with_reducible refine st96 (.tmp 15) (.tmp 14) g (i * 10) PSrv.zero ?_ ?_ P3.out ?_); rfl; rfl))
  go_ret
  exact ⟨rfl, P1.out, P2.out⟩
end Go.Proofs.YtphapknfkbgapaaGreatDoor
namespace Go.Proofs.YtphapknfkbgapaaGreatDoor
open Go.RowKit

/-! The pods as they are at first. -/
variable {F : Nat → Prop} {b : Nat} {X : PS}
def podV (j i : Nat) : Value := .int .i64 (if j < i then -1 else 0)
def podL (i : Nat) : List Value := [podV 0 i, .slice none 0 0, podV 1 i, .slice none 0 0, podV 2 i, .slice none 0 0, podV 3 i, .slice none 0 0, podV 4 i, .slice none 0 0, podV 5 i, .slice none 0 0, podV 6 i, .slice none 0 0, podV 7 i, .slice none 0 0]
theorem podL_cell {i : Nat} (hi : i < 8) : (podL i)[i * 2]? = some (.int .i64 0) := by
  rcases eight hi with rfl | rfl | rfl | rfl | rfl | rfl | rfl | rfl <;> rfl
theorem podL_set {i : Nat} (hi : i < 8) : (podL i).set (i * 2) (.int .i64 (-1)) = podL (i + 1) := by
  rcases eight hi with rfl | rfl | rfl | rfl | rfl | rfl | rfl | rfl <;> rfl
theorem sz62 (i : Nat) : (Tryz.prog.info? 62).map (·.size) = some (podL i).length := show _ = some 16 by kernel_rfl
theorem podL_one (i : Nat) : ∀ v ∈ podL i, v.oneCell' = true := by simp [podL, podV, Value.oneCell']
set_option maxRecDepth 100000 in
set_option maxHeartbeats 400000 in
theorem unplaced_any (w : World) :
    Calls Tryz.prog 22 #[] w fun e w' => e = .returned (.agg (podL 8).toArray) ∧ Low w.heap.size w w' ∧ w'.heap.size = w.heap.size + 2 := by
  go_enter Tryz.func22, Tryz.ntmps22
  go_wp2
  go_loopw [2] (fun iv wr => ∃ (i : Nat), i ≤ 8 ∧ iv = .int .i64 (i : Int) ∧ Hid (Low w.heap.size w wr ∧ wr.heap.size = w.heap.size + 2 ∧ Blk wr w.heap.size 62 (podL 0) ∧ Blk wr (w.heap.size + 1) 62 (podL i))) (fun iv _ => 8 - (intOf iv).toNat)
  case atStart =>
    refine ⟨0, Nat.zero_le _, rfl, ?_, by simp, (Blk.new w 62 (podL 0)).alloc _, ?_⟩
    · exact ((Low.refl _ w).alloc (Nat.le_refl _) _).alloc (by simp) _
    · have := Blk.new (w.alloc (.cells (podL 0).toArray 62)) 62 (podL 0)
      rw [World.size_alloc] at this
      exact this
  case round =>
    obtain ⟨i, hi, rfl, HI⟩ := hrel
    by_cases h1 : i < 8
    · have q1 : decide ((i : Int) < 8) = true := by simp; omega
      have c0 : wr.cell? ⟨w.heap.size + 1, i * 2, none⟩ = some (.int .i64 0) := by rw [HI.out.2.2.2.cell, podL_cell h1]
      have f0 := HI.out.2.2.2.frozen (i * 2)
      have lb := HI.out.2.2.2.lt
      have il : (i : Int) < 8 := by omega
      go_wp2_with fail
      go_roundw
      case rel =>
        obtain ⟨l0, s0, z0, e0⟩ := HI.out
        have e1 := e0.set (i * 2) (.int .i64 (-1))
        rw [podL_set h1] at e1
        exact ⟨i + 1, by omega, by simp, l0.setCell (by show w.heap.size ≤ w.heap.size + 1; omega) _, by simpa using s0, z0.setOther (by show w.heap.size ≠ w.heap.size + 1; omega) _, e1⟩
      case measure => simp [intOf]; omega
    · have q1 : decide ((i : Int) < 8) = false := by simp; omega
      obtain rfl : i = 8 := by omega
      go_wp2_with (first | ((with_reducible refine ldAny 62 (.tmp 1) (w.heap.size + 1) 0 (podL 8) _ ?_ HI.out.2.2.2.whole Tryz.underlying62 rfl (sz62 8) ?_); rfl) | ((with_reducible refine stBlk 62 (.tmp 0) (.tmp 11) w.heap.size 62 (podL 0) (podL 8) ?_ ?_ HI.out.2.2.1 rfl (sz62 8) (podL_one 8) ?_); rfl; rfl; intro w1 b1 k1 s1; have B1 := hid b1; have K1 := hid k1; have S1 := hid s1; clear b1 k1 s1))
      (try simp only [Exit.inBlock, Exit.then])
      refine bodyPost_ret (results_cell rfl w.heap.size (podL 8) _ rfl B1.out.whole Tryz.underlying62 rfl (sz62 8)) rfl ?_
      exact ⟨rfl, low_set HI.out.1 K1.out (Nat.le_refl _) HI.out.1.size, S1.out.trans HI.out.2.1⟩
end Go.Proofs.YtphapknfkbgapaaGreatDoor
namespace Go.Proofs.YtphapknfkbgapaaGreatDoor
open Go.RowKit

variable {F : Nat → Prop} {b : Nat} {X : PS}

theorem info96 : (Tryz.prog.info? 101).map (fun i => (i.zero, i.size, i.bytes)) = some (some (.agg #[.int .i64 0, .bool false, .int .i64 0, .int .i64 0, .string ⟨#[]⟩, .int .i64 0, .int .i64 0, .int .i64 0, .string ⟨#[]⟩, .bool false]), 10, 96) := by kernel_rfl
def srvZeros (m : Nat) : List Value := (List.replicate m PSrv.zero).flatMap PSrv.cells
theorem made_srv1 : madeCells (Value.agg #[.int .i64 0, .bool false, .int .i64 0, .int .i64 0, .string ⟨#[]⟩, .int .i64 0, .int .i64 0, .int .i64 0, .string ⟨#[]⟩, .bool false]).cells (1 * 10) = (srvZeros 1).toArray := by kernel_rfl
theorem made_srv2 : madeCells (Value.agg #[.int .i64 0, .bool false, .int .i64 0, .int .i64 0, .string ⟨#[]⟩, .int .i64 0, .int .i64 0, .int .i64 0, .string ⟨#[]⟩, .bool false]).cells (2 * 10) = (srvZeros 2).toArray := by kernel_rfl
theorem made_srv3 : madeCells (Value.agg #[.int .i64 0, .bool false, .int .i64 0, .int .i64 0, .string ⟨#[]⟩, .int .i64 0, .int .i64 0, .int .i64 0, .string ⟨#[]⟩, .bool false]).cells (3 * 10) = (srvZeros 3).toArray := by kernel_rfl
theorem made_srv4 : madeCells (Value.agg #[.int .i64 0, .bool false, .int .i64 0, .int .i64 0, .string ⟨#[]⟩, .int .i64 0, .int .i64 0, .int .i64 0, .string ⟨#[]⟩, .bool false]).cells (4 * 10) = (srvZeros 4).toArray := by kernel_rfl
theorem make_srv (m : Nat) (h1 : 1 ≤ m) (h4 : m ≤ 4) (w : World) : (Instr.makeSlice 58 (.int .i64 (m : Int)) (.int .i64 (m : Int))).run Tryz.prog w = .ok (.slice (some ⟨w.heap.size, 0, none⟩) m m) (w.alloc (.cells (srvZeros m).toArray 101)) := by
  obtain ⟨i, hi, hz0, hz1, hz2⟩ := info_parts info96
  have hr := run_make (P := Tryz.prog) w 58 101 i _ Tryz.underlying58 hi hz0 .i64 .i64 m m (by omega) (Int.le_refl _) (by rw [hz2]; omega) (by omega)
  simp only [Int.toNat_natCast, hz1] at hr
  rw [hr]
  have : m = 1 ∨ m = 2 ∨ m = 3 ∨ m = 4 := by omega
  rcases this with rfl | rfl | rfl | rfl
  · rw [made_srv1]
  · rw [made_srv2]
  · rw [made_srv3]
  · rw [made_srv4]
def PKey.first (key : ByteArray) : PKey := ⟨key, 1, 1⟩
def PS.new (m : Nat) (room : Int) (key : ByteArray) : PS := ⟨0, 0, 1, 1, 0, room, 0, [PKey.first key], List.replicate m PSrv.zero, [], fun _ => ⟨-1, []⟩⟩
abbrev newL (room : Int) (m : Nat) (kb sb : Nat) : List Value := [.int .i64 0, .int .i64 0, .int .i64 1, .int .i64 1, .int .i64 0, .int .i64 room, .int .i64 0, .slice (some ⟨kb, 0, none⟩) 1 1, .slice (some ⟨sb, 0, none⟩) m m, .slice none 0 0, .int .i64 (-1), .slice none 0 0, .int .i64 (-1), .slice none 0 0, .int .i64 (-1), .slice none 0 0, .int .i64 (-1), .slice none 0 0, .int .i64 (-1), .slice none 0 0, .int .i64 (-1), .slice none 0 0, .int .i64 (-1), .slice none 0 0, .int .i64 (-1), .slice none 0 0]
theorem xin_new {w : World} {kb sb n : Nat} {m : Nat} {room : Int} {key : ByteArray} (hb : Blk w n 65 (newL room m kb sb))
    (hk : Blk w kb 56 (PKey.first key).cells) (hs : Blk w sb 101 (srvZeros m)) (h1 : kb ≠ n) (h2 : sb ≠ n) (h3 : kb ≠ sb) (hm : m ≤ 4) (F : Nat → Prop) (f1 : F n) (f2 : F kb) (f3 : F sb) (hF : ∀ k, F k → k < w.heap.size) : XIn w F n (PS.new m room key) := by
  have hml : (m : Nat) ≤ maxLen := by unfold maxLen; omega
  have hlen : (srvZeros m).length = m * 10 := by
    unfold srvZeros
    rw [flat_length 10 PSrv.cells PSrv.len, List.length_replicate]
  refine ⟨.slice (some ⟨kb, 0, none⟩) 1 1, .slice (some ⟨sb, 0, none⟩) m m, .slice none 0 0, fun _ => .slice none 0 0, fun _ => by simp [Value.ownBlock], hb, f1, hF, fun k => if k = n then 0 else if k = kb then 1 else 2, by simp, fun j r hj => ?_⟩
  have hj3 : j = 0 ∨ j = 1 ∨ j = 2 ∨ j = 3 ∨ j = 4 ∨ j = 5 ∨ j = 6 ∨ j = 7 ∨ j = 8 ∨ j = 9 ∨ j = 10 ∨ 11 ≤ j := by omega
  rcases hj3 with rfl | rfl | rfl | rfl | rfl | rfl | rfl | rfl | rfl | rfl | rfl | h5
  · obtain rfl := (Option.some.inj hj).symm
    refine ⟨_, rfl, ⟨rfl, Or.inr ⟨kb, 1, _, rfl, Nat.zero_le _, hk, Nat.le_refl _, by decide, rfl, rfl⟩⟩, fun k hk2 => ?_⟩
    obtain rfl : kb = k := Option.some.inj hk2
    exact ⟨f2, by simp [h1]⟩
  · obtain rfl := (Option.some.inj hj).symm
    refine ⟨_, rfl, ⟨by rw [show (PS.new m room key).servers = List.replicate m PSrv.zero from rfl, List.length_replicate]; exact hlen, Or.inr ⟨sb, m, _, by rw [show (PS.new m room key).servers = List.replicate m PSrv.zero from rfl, List.length_replicate], Nat.zero_le _, hs, by rw [show (PS.new m room key).servers = List.replicate m PSrv.zero from rfl, List.length_replicate]; exact Nat.le_refl _, hml, by simpa using hlen, ?_⟩⟩, fun k hk2 => ?_⟩
    · rw [show (PS.new m room key).servers = List.replicate m PSrv.zero from rfl, List.length_replicate, List.toList_toArray]
      exact List.take_of_length_le (by rw [hlen]; exact Nat.le_refl _)
    · obtain rfl : sb = k := Option.some.inj hk2
      refine ⟨f3, ?_⟩
      show (if sb = n then 0 else if sb = kb then 1 else 2) = 2
      rw [if_neg h2, if_neg (fun e => h3 e.symm)]
  · obtain rfl := (Option.some.inj hj).symm
    exact ⟨.slice none 0 0, rfl, World.ownsRow_nil _ _ _ _, fun k hk2 => by cases hk2⟩
  · obtain rfl := (Option.some.inj hj).symm
    exact ⟨.slice none 0 0, rfl, World.ownsRow_nil _ _ _ _, fun k hk2 => by cases hk2⟩
  · obtain rfl := (Option.some.inj hj).symm
    exact ⟨.slice none 0 0, rfl, World.ownsRow_nil _ _ _ _, fun k hk2 => by cases hk2⟩
  · obtain rfl := (Option.some.inj hj).symm
    exact ⟨.slice none 0 0, rfl, World.ownsRow_nil _ _ _ _, fun k hk2 => by cases hk2⟩
  · obtain rfl := (Option.some.inj hj).symm
    exact ⟨.slice none 0 0, rfl, World.ownsRow_nil _ _ _ _, fun k hk2 => by cases hk2⟩
  · obtain rfl := (Option.some.inj hj).symm
    exact ⟨.slice none 0 0, rfl, World.ownsRow_nil _ _ _ _, fun k hk2 => by cases hk2⟩
  · obtain rfl := (Option.some.inj hj).symm
    exact ⟨.slice none 0 0, rfl, World.ownsRow_nil _ _ _ _, fun k hk2 => by cases hk2⟩
  · obtain rfl := (Option.some.inj hj).symm
    exact ⟨.slice none 0 0, rfl, World.ownsRow_nil _ _ _ _, fun k hk2 => by cases hk2⟩
  · obtain rfl := (Option.some.inj hj).symm
    exact ⟨.slice none 0 0, rfl, World.ownsRow_nil _ _ _ _, fun k hk2 => by cases hk2⟩
  · rw [List.getElem?_eq_none (by simpa [PS.rows] using h5)] at hj
    cases hj
/-- Blocks laid one behind another: a new coffer. -/
theorem xin_made {w W : World} {N kb sb n : Nat} {m : Nat} {room : Int} {key : ByteArray} (hL : Low N w W) (hb : Blk W n 65 (newL room m kb sb)) (hk : Blk W kb 56 (PKey.first key).cells) (hs : Blk W sb 101 (srvZeros m)) (h1 : kb ≠ n) (h2 : sb ≠ n) (h3 : kb ≠ sb) (hm : m ≤ 4) (g1 : N ≤ n) (g2 : N ≤ kb) (g3 : N ≤ sb) :
    XIn W (fun k => N ≤ k ∧ k < W.heap.size) n (PS.new m room key) ∧ Low N w W :=
  ⟨xin_new hb hk hs h1 h2 h3 hm _ ⟨g1, hb.lt⟩ ⟨g2, hk.lt⟩ ⟨g3, hs.lt⟩ (fun _ h => h.2), hL⟩
theorem blk2 (w : World) (C : Obj) (t : TypeId) (cs : List Value) : Blk ((w.alloc C).alloc (.cells cs.toArray t)) (w.heap.size + 1) t cs := by
  have q := Blk.new (w.alloc C) t cs
  rw [World.size_alloc] at q
  exact q
theorem blk3 (w : World) (C D : Obj) (t : TypeId) (cs : List Value) : Blk (((w.alloc C).alloc D).alloc (.cells cs.toArray t)) (w.heap.size + 1 + 1) t cs := by
  have q := Blk.new ((w.alloc C).alloc D) t cs
  rw [World.size_alloc, World.size_alloc] at q
  exact q
theorem low_al (w : World) (C : Obj) : Low w.heap.size w (w.alloc C) := (Low.refl _ w).alloc (Nat.le_refl _) _
theorem low_more {w a c : World} (h : Low w.heap.size w a) (k : Low a.drew.heap.size a.drew c) : Low w.heap.size w c := h.drew.trans (k.mono h.size)
section
variable (w y : World) (C : Obj) (m : Nat) (room : Int) (key : ByteArray) (hm : m ≤ 4)
abbrev objK (key : ByteArray) : Obj := .cells #[.string key, .int .i64 1, .int .i64 1] 56
abbrev objS (m : Nat) : Obj := .cells (srvZeros m).toArray 101
abbrev objN (room : Int) (m kb sb : Nat) : Obj := .cells (newL room m kb sb).toArray 65
include hm
theorem new_1 (l : Low (((w.alloc C).alloc (objK key)).alloc (objS m)).drew.heap.size (((w.alloc C).alloc (objK key)).alloc (objS m)).drew y) :
    XIn (y.alloc (objN room m (w.heap.size + 1) (w.heap.size + 1 + 1))) (fun k => w.heap.size ≤ k ∧ k < (y.alloc (objN room m (w.heap.size + 1) (w.heap.size + 1 + 1))).heap.size) y.heap.size (PS.new m room key) ∧ Low w.heap.size w (y.alloc (objN room m (w.heap.size + 1) (w.heap.size + 1 + 1))) := by
  have l0 : Low w.heap.size w (((w.alloc C).alloc (objK key)).alloc (objS m)) := ((low_al w C).alloc (by simp) _).alloc (by simp; omega) _
  have hs := l.size
  have l2 := low_more l0 l
  simp at hs
  exact xin_made (l2.alloc l2.size _) (Blk.new y 65 (newL room m _ _)) ((Blk.low (w := (((w.alloc C).alloc (objK key)).alloc (objS m)).drew) ((blk2 w C 56 (PKey.first key).cells).alloc _) l (by simp)).alloc _) ((Blk.low (w := (((w.alloc C).alloc (objK key)).alloc (objS m)).drew) (blk3 w C (objK key) 101 (srvZeros m)) l (by simp)).alloc _) (by omega) (by omega) (by omega) hm (by omega) (by omega) (by omega)
theorem new_2 (l : Low (((w.alloc C).alloc (objS m)).alloc (objK key)).drew.heap.size (((w.alloc C).alloc (objS m)).alloc (objK key)).drew y) :
    XIn (y.alloc (objN room m (w.heap.size + 1 + 1) (w.heap.size + 1))) (fun k => w.heap.size ≤ k ∧ k < (y.alloc (objN room m (w.heap.size + 1 + 1) (w.heap.size + 1))).heap.size) y.heap.size (PS.new m room key) ∧ Low w.heap.size w (y.alloc (objN room m (w.heap.size + 1 + 1) (w.heap.size + 1))) := by
  have l0 : Low w.heap.size w (((w.alloc C).alloc (objS m)).alloc (objK key)) := ((low_al w C).alloc (by simp) _).alloc (by simp; omega) _
  have hs := l.size
  have l2 := low_more l0 l
  simp at hs
  exact xin_made (l2.alloc l2.size _) (Blk.new y 65 (newL room m _ _)) ((Blk.low (w := (((w.alloc C).alloc (objS m)).alloc (objK key)).drew) (blk3 w C (objS m) 56 (PKey.first key).cells) l (by simp)).alloc _) ((Blk.low (w := (((w.alloc C).alloc (objS m)).alloc (objK key)).drew) ((blk2 w C 101 (srvZeros m)).alloc _) l (by simp)).alloc _) (by omega) (by omega) (by omega) hm (by omega) (by omega) (by omega)
theorem new_3 (l : Low ((w.alloc C).alloc (objK key)).drew.heap.size ((w.alloc C).alloc (objK key)).drew y) :
    XIn ((y.alloc (objS m)).alloc (objN room m (w.heap.size + 1) y.heap.size)) (fun k => w.heap.size ≤ k ∧ k < ((y.alloc (objS m)).alloc (objN room m (w.heap.size + 1) y.heap.size)).heap.size) (y.heap.size + 1) (PS.new m room key) ∧ Low w.heap.size w ((y.alloc (objS m)).alloc (objN room m (w.heap.size + 1) y.heap.size)) := by
  have l0 : Low w.heap.size w ((w.alloc C).alloc (objK key)) := (low_al w C).alloc (by simp) _
  have hs := l.size
  have l2 := low_more l0 l
  simp at hs
  exact xin_made ((l2.alloc l2.size _).alloc (by simp; omega) _) (blk2 y (objS m) 65 (newL room m _ _)) (((Blk.low (w := ((w.alloc C).alloc (objK key)).drew) (blk2 w C 56 (PKey.first key).cells) l (by simp)).alloc _).alloc _) ((Blk.new y 101 (srvZeros m)).alloc _) (by omega) (by omega) (by omega) hm (by omega) (by omega) (by omega)
theorem new_4 (l : Low ((w.alloc C).alloc (objS m)).drew.heap.size ((w.alloc C).alloc (objS m)).drew y) :
    XIn ((y.alloc (objK key)).alloc (objN room m y.heap.size (w.heap.size + 1))) (fun k => w.heap.size ≤ k ∧ k < ((y.alloc (objK key)).alloc (objN room m y.heap.size (w.heap.size + 1))).heap.size) (y.heap.size + 1) (PS.new m room key) ∧ Low w.heap.size w ((y.alloc (objK key)).alloc (objN room m y.heap.size (w.heap.size + 1))) := by
  have l0 : Low w.heap.size w ((w.alloc C).alloc (objS m)) := (low_al w C).alloc (by simp) _
  have hs := l.size
  have l2 := low_more l0 l
  simp at hs
  exact xin_made ((l2.alloc l2.size _).alloc (by simp; omega) _) (blk2 y (objK key) 65 (newL room m _ _)) ((Blk.new y 56 (PKey.first key).cells).alloc _) (((Blk.low (w := ((w.alloc C).alloc (objS m)).drew) (blk2 w C 101 (srvZeros m)) l (by simp)).alloc _).alloc _) (by omega) (by omega) (by omega) hm (by omega) (by omega) (by omega)
theorem new_5 (l : Low (w.alloc C).drew.heap.size (w.alloc C).drew y) :
    XIn (((y.alloc (objK key)).alloc (objS m)).alloc (objN room m y.heap.size (y.heap.size + 1))) (fun k => w.heap.size ≤ k ∧ k < (((y.alloc (objK key)).alloc (objS m)).alloc (objN room m y.heap.size (y.heap.size + 1))).heap.size) (y.heap.size + 1 + 1) (PS.new m room key) ∧ Low w.heap.size w (((y.alloc (objK key)).alloc (objS m)).alloc (objN room m y.heap.size (y.heap.size + 1))) := by
  have hs := l.size
  have l2 := low_more (low_al w C) l
  simp at hs
  exact xin_made (((l2.alloc l2.size _).alloc (by simp; omega) _).alloc (by simp; omega) _) (blk3 y (objK key) (objS m) 65 (newL room m _ _)) (((Blk.new y 56 (PKey.first key).cells).alloc _).alloc _) ((blk2 y (objK key) 101 (srvZeros m)).alloc _) (by omega) (by omega) (by omega) hm (by omega) (by omega) (by omega)
theorem new_6 (l : Low (w.alloc C).drew.heap.size (w.alloc C).drew y) :
    XIn (((y.alloc (objS m)).alloc (objK key)).alloc (objN room m (y.heap.size + 1) y.heap.size)) (fun k => w.heap.size ≤ k ∧ k < (((y.alloc (objS m)).alloc (objK key)).alloc (objN room m (y.heap.size + 1) y.heap.size)).heap.size) (y.heap.size + 1 + 1) (PS.new m room key) ∧ Low w.heap.size w (((y.alloc (objS m)).alloc (objK key)).alloc (objN room m (y.heap.size + 1) y.heap.size)) := by
  have hs := l.size
  have l2 := low_more (low_al w C) l
  simp at hs
  exact xin_made (((l2.alloc l2.size _).alloc (by simp; omega) _).alloc (by simp; omega) _) (blk3 y (objS m) (objK key) 65 (newL room m _ _)) ((blk2 y (objS m) 56 (PKey.first key).cells).alloc _) (((Blk.new y 101 (srvZeros m)).alloc _).alloc _) (by omega) (by omega) (by omega) hm (by omega) (by omega) (by omega)
end
theorem unplaced_lit (w : World) : Calls Tryz.prog 22 #[] w fun e w' => e = .returned (.agg #[.int .i64 (-1), .slice none 0 0, .int .i64 (-1), .slice none 0 0, .int .i64 (-1), .slice none 0 0, .int .i64 (-1), .slice none 0 0, .int .i64 (-1), .slice none 0 0, .int .i64 (-1), .slice none 0 0, .int .i64 (-1), .slice none 0 0, .int .i64 (-1), .slice none 0 0]) ∧ Low w.heap.size w w' ∧ w'.heap.size = w.heap.size + 2 := by
  have e : (podL 8).toArray = #[.int .i64 (-1), .slice none 0 0, .int .i64 (-1), .slice none 0 0, .int .i64 (-1), .slice none 0 0, .int .i64 (-1), .slice none 0 0, .int .i64 (-1), .slice none 0 0, .int .i64 (-1), .slice none 0 0, .int .i64 (-1), .slice none 0 0, .int .i64 (-1), .slice none 0 0] := by kernel_rfl
  have q := unplaced_any w
  rw [e] at q
  exact q
theorem cfg_at {w W y : World} {cs : List Value} (h : Low (w.heap.size + 1) (w.alloc (.cells cs.toArray 23)) W) (l : Low W.heap.size W.drew y) (i : Nat) : y.cell? ⟨w.heap.size, i, none⟩ = cs[i]? := by
  have hs := h.size
  rw [World.size_alloc] at hs
  have b1 : Blk W w.heap.size 23 cs := (Blk.new w 23 cs).low h (by omega)
  exact (Blk.low (w := W.drew) b1 l (by omega)).cell i
set_option maxRecDepth 100000 in
set_option maxHeartbeats 1000000 in
theorem pNew_yes (w : World) (m : Nat) (room : Int) (key : ByteArray) (h : cfgOk (m : Int) room key = true) :
    Calls Tryz.prog 13 #[.agg #[.int .i64 (m : Int), .int .i64 room, .string key]] w fun e w' => ∃ bx, e = .returned (.tuple #[.pointer (some ⟨bx, 0, none⟩), .int .i64 0]) ∧ XIn w' (fun k => w.heap.size ≤ k ∧ k < w'.heap.size) bx (PS.new m room key) ∧ Low w.heap.size w w' := by
  simp only [cfgOk, Bool.and_eq_true, decide_eq_true_eq, beq_iff_eq] at h
  obtain ⟨⟨s1, s2, r1, r2⟩, hk⟩ := h
  have HK : Hid ((key.size == 48) = true) := beq_iff_eq.2 hk
  have hmk := make_srv m (by omega) (by omega)
  have hm4 : Hid (m ≤ 4) := by show _ ≤ _; omega
  clear hk
  go_enter Tryz.func13, Tryz.ntmps13
  go_upto_region 3 with (go_at_call 21; refine (isKey_any _ _).mono ?_; rw [HK.out]; rintro e y1 ⟨rfl, hy⟩; obtain rfl := hy.symm)
  go_region_held3 (fun W' => W'.cell? ⟨w.heap.size, 0, none⟩ = some (.int .i64 (m : Int)) ∧ W'.cell? ⟨w.heap.size, 1, none⟩ = some (.int .i64 room) ∧ W'.cell? ⟨w.heap.size, 2, none⟩ = some (.string key)) (first | assumption | go_keep)
    (first | (go_at_call 22; refine (unplaced_lit _).mono ?_; rintro e y1 ⟨rfl, l1, s1⟩; have LY : Hid (∀ i : Nat, y1.cell? ⟨w.heap.size, i, none⟩ = (cfgL m room key)[i]?) := (by first | exact cfg_at (Low.refl _ _) l1 | exact cfg_at ((Low.refl _ _).alloc (by simp) _) l1 | exact cfg_at (((Low.refl _ _).alloc (by simp) _).alloc (by simp) _) l1); have S1 : y1.cell? ⟨w.heap.size, 0, none⟩ = some (.int .i64 (m : Int)) ∧ y1.cell? ⟨w.heap.size, 1, none⟩ = some (.int .i64 room) ∧ y1.cell? ⟨w.heap.size, 2, none⟩ = some (.string key) := ⟨LY.out 0, LY.out 1, LY.out 2⟩; have lY : w.heap.size < y1.heap.size := (by simp at s1; omega); have nY : w.heap.size ≠ y1.heap.size := (by omega); have L1 := hid l1; clear l1 s1))
  all_goals go_wp2_with fail
  all_goals go_ret2
  all_goals
    first
      | ((with_reducible have q := new_1 w y1 _ m room key hm4.out L1.out); exact ⟨_, rfl, q.1, q.2⟩)
      | ((with_reducible have q := new_2 w y1 _ m room key hm4.out L1.out); exact ⟨_, rfl, q.1, q.2⟩)
      | ((with_reducible have q := new_3 w y1 _ m room key hm4.out L1.out); exact ⟨_, rfl, q.1, q.2⟩)
      | ((with_reducible have q := new_4 w y1 _ m room key hm4.out L1.out); exact ⟨_, rfl, q.1, q.2⟩)
      | ((with_reducible have q := new_5 w y1 _ m room key hm4.out L1.out); exact ⟨_, rfl, q.1, q.2⟩)
      | ((with_reducible have q := new_6 w y1 _ m room key hm4.out L1.out); exact ⟨_, rfl, q.1, q.2⟩)
set_option maxRecDepth 100000 in
set_option maxHeartbeats 1000000 in
theorem pNew_no (w : World) (servers room : Int) (key : ByteArray) (h : cfgOk servers room key = false) :
    Calls Tryz.prog 13 #[.agg #[.int .i64 servers, .int .i64 room, .string key]] w fun e w' => e = .returned (.tuple #[.pointer none, .int .i64 1]) ∧ Low w.heap.size w w' := by
  have HH := hid h
  clear h
  cases hz : (key.size == 48)
  · have HZ := hid hz
    go_enter Tryz.func13, Tryz.ntmps13
    go_upto_region 3 with (go_at_call 21; refine (isKey_any _ _).mono ?_; rw [HZ.out]; rintro e y1 ⟨rfl, hy⟩; obtain rfl := hy.symm)
    all_goals go_ret2
    all_goals exact ⟨rfl, (Low.refl _ w).alloc (Nat.le_refl _) _⟩
  · have hq : ¬ (1 ≤ servers ∧ servers ≤ 4 ∧ 1 ≤ room ∧ room ≤ 60) := by
      intro hh
      have q := HH.out
      simp [cfgOk, hz, hh] at q
    have HQ := hid hq
    have HZ := hid hz
    clear hq
    go_enter Tryz.func13, Tryz.ntmps13
    go_upto_region 3 with (go_at_call 21; refine (isKey_any _ _).mono ?_; rw [HZ.out]; rintro e y1 ⟨rfl, hy⟩; obtain rfl := hy.symm)
    all_goals first | (go_ret2; exact ⟨rfl, (Low.refl _ w).alloc (Nat.le_refl _) _⟩) | (exfalso; have q := HQ.out; omega)
end Go.Proofs.YtphapknfkbgapaaGreatDoor
