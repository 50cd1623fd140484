import Derived.Test.YtnjkpghchgjbaaaGreatDoorRefMToLawA
import Derived.Test.YtnjkpghchgjbaaaGreatDoorRefN
namespace Go.Proofs.YtnjkpghchgjbaaaGreatDoor
open Go.RowKit

/-! The program's coffer as plain data, and how it lies in memory. -/

structure PKey where
  text : ByteArray
  came : Int
  wrote : Int
def PKey.cells (k : PKey) : List Value := [.string k.text, .int .i64 k.came, .int .i64 k.wrote]
structure PSrv where
  seen : Int
  busy : Bool
  epoch : Int
  rev : Int
  e : Ent
def PSrv.zero : PSrv := ⟨0, false, 0, 0, Ent.zero⟩
def PSrv.cells (s : PSrv) : List Value := [.int .i64 s.seen, .bool s.busy, .int .i64 s.epoch, .int .i64 s.rev, .string s.e.path, .int .i64 s.e.rev, .int .i64 s.e.key, .int .i64 s.e.draw, .string s.e.sealed, .bool s.e.gone]
structure PS where
  rev : Int
  floor : Int
  epoch : Int
  write : Int
  turn : Int
  room : Int
  draws : Int
  keys : List PKey
  servers : List PSrv
  entries : List Ent
def PS.cells (X : PS) (vK vS vE : Value) : List Value := [.int .i64 X.rev, .int .i64 X.floor, .int .i64 X.epoch, .int .i64 X.write, .int .i64 X.turn, .int .i64 X.room, .int .i64 X.draws, vK, vS, vE]
def PS.rows (X : PS) : List Row := [⟨7, 56, 3, X.keys.length, X.keys.flatMap PKey.cells⟩, ⟨8, 96, 10, X.servers.length, X.servers.flatMap PSrv.cells⟩, ⟨9, 50, 6, X.entries.length, X.entries.flatMap Ent.cells⟩]
/-- The program's coffer X lies at block b, in blocks of F. -/
def XIn (w : World) (F : Nat → Prop) (b : Nat) (X : PS) : Prop := ∃ vK vS vE, Own w F b 60 (X.cells vK vS vE) X.rows
theorem PKey.len (e : PKey) : e.cells.length = 3 := rfl
theorem PSrv.len (e : PSrv) : e.cells.length = 10 := rfl
theorem sz56 (e : PKey) : (Tryz.prog.info? 56).map (·.size) = some e.cells.length := show _ = some 3 by kernel_rfl
theorem sz96 (e : PSrv) : (Tryz.prog.info? 96).map (·.size) = some e.cells.length := show _ = some 10 by kernel_rfl
theorem PKey.one (e : PKey) : ∀ v ∈ e.cells, v.oneCell' = true := by simp [PKey.cells, Value.oneCell']
theorem PSrv.one (e : PSrv) : ∀ v ∈ e.cells, v.oneCell' = true := by simp [PSrv.cells, Value.oneCell']
theorem PS.offs (X : PS) (j : Nat) {r : Row} (hj : X.rows[j]? = some r) : ∀ i s, X.rows[i]? = some s → i ≠ j → s.off ≠ r.off := by
  intro i s hi hne e
  have hm : X.rows.map Row.off = [7, 8, 9] := rfl
  have a1 : ([7, 8, 9] : List Nat)[i]? = some s.off := by rw [← hm, List.getElem?_map, hi]; rfl
  have a2 : ([7, 8, 9] : List Nat)[j]? = some r.off := by rw [← hm, List.getElem?_map, hj]; rfl
  rw [e] at a1
  exact hne ((List.getElem?_inj (List.getElem?_eq_some_iff.1 a1).1 (by decide)).1 (a1.trans a2.symm))
variable {w w' : World} {F G : Nat → Prop} {b : Nat} {X : PS}
theorem XIn.kept (h : XIn w F b X) (k : Kept G w w') (hd : ∀ i, F i → ¬ G i) : XIn w' F b X := by
  obtain ⟨vK, vS, vE, h⟩ := h
  exact ⟨vK, vS, vE, h.kept k hd⟩
theorem XIn.low (h : XIn w F b X) (k : Low w.heap.size w w') : XIn w' F b X := h.kept k.kept (fun _ _ f => f)
theorem XIn.alloc (h : XIn w F b X) (o : Obj) : XIn (w.alloc o) F b X := h.low ((Low.refl _ w).alloc (Nat.le_refl _) o)
theorem XIn.drew (h : XIn w F b X) : XIn w.drew F b X := h.low (Low.refl _ w).drew
theorem XIn.lt (h : XIn w F b X) : b < w.heap.size := by
  obtain ⟨vK, vS, vE, h⟩ := h
  exact h.lt
theorem XIn.below (h : XIn w F b X) : ∀ k, F k → k < w.heap.size := by
  obtain ⟨vK, vS, vE, h⟩ := h
  exact h.below
theorem XIn.inF (h : XIn w F b X) : F b := by
  obtain ⟨vK, vS, vE, h⟩ := h
  exact h.inF
theorem XIn.frozen (h : XIn w F b X) (i : Nat) : w.frozen? ⟨b, i, none⟩ = false := by
  obtain ⟨vK, vS, vE, h⟩ := h
  exact h.frozen i
theorem XIn.more (h : XIn w F b X) (hs : ∀ k, F k → G k) (hb : ∀ k, G k → k < w.heap.size) : XIn w G b X := by
  obtain ⟨vK, vS, vE, h⟩ := h
  exact ⟨vK, vS, vE, h.more hs hb⟩
theorem xin_keys (h : XIn w F b X) : Sl w b 7 3 (X.keys.map PKey.cells) := by
  obtain ⟨vK, vS, vE, h⟩ := h
  exact h.sl 0 PKey.len rfl
theorem xin_servers (h : XIn w F b X) : Sl w b 8 10 (X.servers.map PSrv.cells) := by
  obtain ⟨vK, vS, vE, h⟩ := h
  exact h.sl 1 PSrv.len rfl
theorem xin_entries (h : XIn w F b X) : Sl w b 9 6 (X.entries.map Ent.cells) := by
  obtain ⟨vK, vS, vE, h⟩ := h
  exact h.sl 2 Ent.len rfl
theorem xin_rev (h : XIn w F b X) : w.cell? ⟨b, 0, none⟩ = some (.int .i64 X.rev) := by
  obtain ⟨vK, vS, vE, h⟩ := h
  exact h.cell 0
theorem xin_set_rev (h : XIn w F b X) (n : Int) : XIn (w.setCell ⟨b, 0, none⟩ (.int .i64 n)) F b { X with rev := n } := by
  obtain ⟨vK, vS, vE, h⟩ := h
  exact ⟨vK, vS, vE, (h.set 0 (.int .i64 n) (by simp [PS.rows])).cast rfl rfl⟩
theorem xin_floor (h : XIn w F b X) : w.cell? ⟨b, 1, none⟩ = some (.int .i64 X.floor) := by
  obtain ⟨vK, vS, vE, h⟩ := h
  exact h.cell 1
theorem xin_set_floor (h : XIn w F b X) (n : Int) : XIn (w.setCell ⟨b, 1, none⟩ (.int .i64 n)) F b { X with floor := n } := by
  obtain ⟨vK, vS, vE, h⟩ := h
  exact ⟨vK, vS, vE, (h.set 1 (.int .i64 n) (by simp [PS.rows])).cast rfl rfl⟩
theorem xin_epoch (h : XIn w F b X) : w.cell? ⟨b, 2, none⟩ = some (.int .i64 X.epoch) := by
  obtain ⟨vK, vS, vE, h⟩ := h
  exact h.cell 2
theorem xin_set_epoch (h : XIn w F b X) (n : Int) : XIn (w.setCell ⟨b, 2, none⟩ (.int .i64 n)) F b { X with epoch := n } := by
  obtain ⟨vK, vS, vE, h⟩ := h
  exact ⟨vK, vS, vE, (h.set 2 (.int .i64 n) (by simp [PS.rows])).cast rfl rfl⟩
theorem xin_write (h : XIn w F b X) : w.cell? ⟨b, 3, none⟩ = some (.int .i64 X.write) := by
  obtain ⟨vK, vS, vE, h⟩ := h
  exact h.cell 3
theorem xin_set_write (h : XIn w F b X) (n : Int) : XIn (w.setCell ⟨b, 3, none⟩ (.int .i64 n)) F b { X with write := n } := by
  obtain ⟨vK, vS, vE, h⟩ := h
  exact ⟨vK, vS, vE, (h.set 3 (.int .i64 n) (by simp [PS.rows])).cast rfl rfl⟩
theorem xin_turn (h : XIn w F b X) : w.cell? ⟨b, 4, none⟩ = some (.int .i64 X.turn) := by
  obtain ⟨vK, vS, vE, h⟩ := h
  exact h.cell 4
theorem xin_set_turn (h : XIn w F b X) (n : Int) : XIn (w.setCell ⟨b, 4, none⟩ (.int .i64 n)) F b { X with turn := n } := by
  obtain ⟨vK, vS, vE, h⟩ := h
  exact ⟨vK, vS, vE, (h.set 4 (.int .i64 n) (by simp [PS.rows])).cast rfl rfl⟩
theorem xin_room (h : XIn w F b X) : w.cell? ⟨b, 5, none⟩ = some (.int .i64 X.room) := by
  obtain ⟨vK, vS, vE, h⟩ := h
  exact h.cell 5
theorem xin_set_room (h : XIn w F b X) (n : Int) : XIn (w.setCell ⟨b, 5, none⟩ (.int .i64 n)) F b { X with room := n } := by
  obtain ⟨vK, vS, vE, h⟩ := h
  exact ⟨vK, vS, vE, (h.set 5 (.int .i64 n) (by simp [PS.rows])).cast rfl rfl⟩
theorem xin_draws (h : XIn w F b X) : w.cell? ⟨b, 6, none⟩ = some (.int .i64 X.draws) := by
  obtain ⟨vK, vS, vE, h⟩ := h
  exact h.cell 6
theorem xin_set_draws (h : XIn w F b X) (n : Int) : XIn (w.setCell ⟨b, 6, none⟩ (.int .i64 n)) F b { X with draws := n } := by
  obtain ⟨vK, vS, vE, h⟩ := h
  exact ⟨vK, vS, vE, (h.set 6 (.int .i64 n) (by simp [PS.rows])).cast rfl rfl⟩
theorem xin_srvAt {i : Nat} {s : PSrv} (h : XIn w F b X) (ha : X.servers[i]? = some s) : ∃ g cap, w.cell? ⟨b, 8, none⟩ = some (.slice (some ⟨g, 0, none⟩) X.servers.length cap) ∧ g < w.heap.size ∧ (∀ j, j < 10 → w.cell? ⟨g, i * 10 + j, none⟩ = s.cells[j]?) ∧ ∀ j, w.frozen? ⟨g, j, none⟩ = false := by
  obtain ⟨a, cap, hc, hel⟩ := xin_servers h
  rw [List.length_map] at hc
  obtain ⟨g, rfl, hg, hcs, hf⟩ := hel i s.cells (by rw [List.getElem?_map, ha]; rfl)
  exact ⟨g, cap, hc, hg, hcs, hf⟩
theorem xin_keyAt {i : Nat} {K : PKey} (h : XIn w F b X) (hk : X.keys[i]? = some K) : ∃ g cap, w.cell? ⟨b, 7, none⟩ = some (.slice (some ⟨g, 0, none⟩) X.keys.length cap) ∧ g < w.heap.size ∧ (∀ j, j < 3 → w.cell? ⟨g, i * 3 + j, none⟩ = K.cells[j]?) := by
  obtain ⟨a, cap, hc, hel⟩ := xin_keys h
  rw [List.length_map] at hc
  obtain ⟨g, rfl, hg, hcs, _⟩ := hel i K.cells (by rw [List.getElem?_map, hk]; rfl)
  exact ⟨g, cap, hc, hg, hcs⟩
theorem xin_putSrv (h : XIn w F b X) {g cap : Nat} (hc : w.cell? ⟨b, 8, none⟩ = some (.slice (some ⟨g, 0, none⟩) X.servers.length cap)) (i : Nat) (hi : i < X.servers.length) (u : PSrv) :
    XIn (w.setCells g (i * 10) u.cells) F b { X with servers := X.servers.set i u } ∧ Kept F w (w.setCells g (i * 10) u.cells) ∧ w.there g (i * 10) 10 := by
  obtain ⟨vK, vS, vE, hO⟩ := h
  obtain rfl : vS = _ := Option.some.inj ((hO.cell 8).symm.trans hc)
  obtain ⟨q1, q2, q3⟩ := hO.elem 1 PSrv.len rfl rfl i hi u
  exact ⟨⟨vK, _, vE, q1.cast rfl (by simp [PS.rows])⟩, q2, q3⟩
theorem xin_setSeen (h : XIn w F b X) {g cap : Nat} (hc : w.cell? ⟨b, 8, none⟩ = some (.slice (some ⟨g, 0, none⟩) X.servers.length cap)) (i : Nat) (s : PSrv) (hs : X.servers[i]? = some s) (v : Int) :
    XIn (w.setCell ⟨g, i * 10, none⟩ (.int .i64 v)) F b { X with servers := X.servers.set i { s with seen := v } } ∧ Kept F w (w.setCell ⟨g, i * 10, none⟩ (.int .i64 v)) := by
  obtain ⟨vK, vS, vE, hO⟩ := h
  obtain rfl : vS = _ := Option.some.inj ((hO.cell 8).symm.trans hc)
  obtain ⟨q1, q2⟩ := own_cellSet hO 1 PSrv.len rfl rfl i s { s with seen := v } hs 0 (by omega) (.int .i64 v) rfl
  exact ⟨⟨vK, _, vE, q1.cast rfl (by simp [PS.rows])⟩, q2⟩
theorem st96 {ops : Array Oper} {rest : List Oper} {d : Option Tmp} {t0 : TypeId} {pos : String} {after : Array Edge} {a : Act} {w : World} {Q : Exit → Act → World → Prop} (x y : Operand) (g o : Nat) (u : PSrv)
    (hx : a.eval x = .pointer (some ⟨g, o, none⟩)) (hy : a.eval y = .agg u.cells.toArray) (ht : w.there g o 10)
    (h : wpList Tryz.prog ops Q rest (a.put d undef) (w.setCells g o u.cells)) :
    wpList Tryz.prog ops Q ({ dst := d, op := .store 96 x y, type := t0, pos := pos, after := after, guard := none } :: rest) a w :=
  stAny 96 x y g o u.cells hx hy ht (sz96 u) u.one h
theorem ld56 {ops : Array Oper} {rest : List Oper} {d : Option Tmp} {t0 : TypeId} {pos : String} {after : Array Edge} {a : Act} {w : World} {Q : Exit → Act → World → Prop} (x : Operand) (b o : Nat) (e : PKey)
    (hx : a.eval x = .pointer (some ⟨b, o, none⟩)) (hc : w.rangeAt b o e.cells) (h : wpList Tryz.prog ops Q rest (a.put d (.agg e.cells.toArray)) w) :
    wpList Tryz.prog ops Q ({ dst := d, op := .load 56 x, type := t0, pos := pos, after := after, guard := none } :: rest) a w :=
  ldAny 56 x b o e.cells _ hx hc Tryz.underlying56 rfl (sz56 e) h

/-! Readers. -/
set_option maxRecDepth 100000 in
theorem isServer_any (w : World) (s : Int) (h : XIn w F b X) :
    Calls Tryz.prog 59 #[.pointer (some ⟨b, 0, none⟩), .int .i64 s] w fun e w' => e = .returned (.bool (isSrv X.servers.length s)) ∧ w' = w := by
  obtain ⟨a, cap, hc, _⟩ := xin_servers h
  rw [List.length_map] at hc
  by_cases h1 : 0 ≤ s
  · have q1 : decide (0 ≤ s) = true := by simp; omega
    go_enter Tryz.func59, Tryz.ntmps59
    go_wp2
    go_ret
    exact ⟨by simp [isSrv, q1], rfl⟩
  · have q1 : decide (0 ≤ s) = false := by simp; omega
    go_enter Tryz.func59, Tryz.ntmps59
    go_wp2
    go_ret
    exact ⟨by simp [isSrv, q1], rfl⟩
/-- The newest entry of a path, of at most a revision. -/
def newestOf (l : List Ent) (p : ByteArray) (rev : Int) : Ent := (l.reverse.find? (fun e => decide (e.rev ≤ rev) && (e.path.toList == p.toList))).getD Ent.zero
theorem newestOf_snoc (l : List Ent) (e : Ent) (p : ByteArray) (rev : Int) : newestOf (l ++ [e]) p rev = if decide (e.rev ≤ rev) && (e.path.toList == p.toList) then e else newestOf l p rev := by
  unfold newestOf
  rw [List.reverse_append]
  simp only [List.reverse_cons, List.reverse_nil, List.nil_append, List.singleton_append, List.find?_cons]
  cases decide (e.rev ≤ rev) && (e.path.toList == p.toList) <;> rfl
set_option maxRecDepth 100000 in
set_option maxHeartbeats 400000 in
theorem newest_any (w : World) (p : ByteArray) (rev : Int) (h : XIn w F b X) (hn : X.entries.length ≤ 1000) :
    Calls Tryz.prog 89 #[.pointer (some ⟨b, 0, none⟩), .string p, .int .i64 rev] w fun e w' =>
      e = .returned (.agg (newestOf X.entries p rev).cells.toArray) ∧ Low w.heap.size w w' := by
  have HR := hid h
  clear h
  go_enter Tryz.func89, Tryz.ntmps89
  go_wp2
  go_loopw [8] (fun iv wr => ∃ (i : Nat), i ≤ X.entries.length ∧ iv = .int .i64 (i : Int) ∧ Hid (Low w.heap.size w wr ∧ wr.heap.size = w.heap.size + 2 ∧ Blk wr w.heap.size 50 Ent.zero.cells ∧ Blk wr (w.heap.size + 1) 50 (newestOf (X.entries.take i) p rev).cells)) (fun iv _ => X.entries.length - (intOf iv).toNat)
  case atStart =>
    refine ⟨0, Nat.zero_le _, rfl, ?_, by simp, (Blk.new w 50 Ent.zero.cells).alloc _, ?_⟩
    · exact ((Low.refl _ w).alloc (Nat.le_refl _) _).alloc (by simp) _
    · have := Blk.new (w.alloc (.cells Ent.zero.cells.toArray 50)) 50 Ent.zero.cells
      rw [World.size_alloc] at this
      exact this
  case round =>
    obtain ⟨i, hi, rfl, HI⟩ := hrel
    obtain ⟨a, cap, hc, hel⟩ := xin_entries (HR.out.low HI.out.1)
    rw [List.length_map] at hc
    by_cases h1 : i < X.entries.length
    · have q1 : decide ((i : Int) < (X.entries.length : Int)) = true := by simp; omega
      obtain ⟨k, hk2⟩ : ∃ k, X.entries[i]? = some k := ⟨_, List.getElem?_eq_getElem h1⟩
      obtain ⟨g, rfl, hg, hcs, _⟩ := hel i k.cells (by rw [List.getElem?_map, hk2]; rfl)
      have c1 : wr.cell? ⟨g, i * 6 + 1, none⟩ = some (.int .i64 k.rev) := hcs 1 (by omega)
      have c0 : wr.cell? ⟨g, i * 6, none⟩ = some (.string k.path) := hcs 0 (by omega)
      have HC : Hid (wr.rangeAt g (i * 6) k.cells) := range_of hcs (fun _ _ e => ⟨(List.getElem?_eq_some_iff.1 e).1, e⟩)
      have HS := hid (newestOf_snoc (X.entries.take i) k p rev)
      have HT := hid (take_snoc hk2)
      clear hcs hk2 hel
      cases q3 : decide (k.rev ≤ rev)
      · go_wp2_with fail
        go_roundw
        case rel => exact ⟨i + 1, by omega, by simp, by rw [HT.out, HS.out, q3]; exact HI.out⟩
        case measure => simp [intOf]; omega
      · cases q4 : (k.path.toList == p.toList)
        · go_wp2_with fail
          go_roundw
          case rel => exact ⟨i + 1, by omega, by simp, by rw [HT.out, HS.out, q3, q4]; exact HI.out⟩
          case measure => simp [intOf]; omega
        · go_wp2_with (first | ((with_reducible refine ld50 (.tmp 46) g (i * 6) k ?_ HC.out ?_); rfl) | ((with_reducible refine st50 (.tmp 7) (.tmp 47) (w.heap.size + 1) _ k ?_ ?_ HI.out.2.2.2 ?_); rfl; rfl; intro w1 b1 k1 s1; have B1 := hid b1; have K1 := hid k1; have S1 := hid s1; clear b1 k1 s1))
          go_roundw
          case rel =>
            have hE : newestOf (X.entries.take (i + 1)) p rev = k := by rw [HT.out, HS.out, q3, q4]; rfl
            obtain ⟨l0, s0, z0, e0⟩ := HI.out
            exact ⟨i + 1, by omega, by simp, low_set l0 K1.out (by omega) l0.size, S1.out.trans s0, z0.kept K1.out (by omega), by rw [hE]; exact B1.out⟩
          case measure => simp [intOf]; omega
    · have q1 : decide ((i : Int) < (X.entries.length : Int)) = false := by simp; omega
      obtain rfl : i = X.entries.length := by omega
      rw [List.take_length] at HI
      clear hel
      go_wp2_with (first | ((with_reducible refine ld50 (.tmp 7) (w.heap.size + 1) 0 (newestOf X.entries p rev) ?_ HI.out.2.2.2.whole ?_); rfl) | ((with_reducible refine st50 (.tmp 6) (.tmp 48) w.heap.size Ent.zero (newestOf X.entries p rev) ?_ ?_ HI.out.2.2.1 ?_); rfl; rfl; intro w1 b1 k1 s1; have B1 := hid b1; have K1 := hid k1; clear b1 k1 s1))
      (try simp only [Exit.inBlock, Exit.then])
      refine bodyPost_ret (results_cell rfl w.heap.size (newestOf X.entries p rev).cells _ rfl B1.out.whole Tryz.underlying50 rfl (sz50 _)) rfl ?_
      exact ⟨rfl, low_set HI.out.1 K1.out (Nat.le_refl _) HI.out.1.size⟩
end Go.Proofs.YtnjkpghchgjbaaaGreatDoor
namespace Go.Proofs.YtnjkpghchgjbaaaGreatDoor
open Go.RowKit

variable {F : Nat → Prop} {b : Nat} {X : PS}

def pFull (X : PS) : Bool := decide (X.room ≤ (X.entries.length : Int))
set_option maxRecDepth 100000 in
theorem pfull_any (w : World) (h : XIn w F b X) :
    Calls Tryz.prog 88 #[.pointer (some ⟨b, 0, none⟩)] w fun e w' => e = .returned (.bool (pFull X)) ∧ Low w.heap.size w w' := by
  obtain ⟨a, cap, hc, _⟩ := xin_entries h
  rw [List.length_map] at hc
  have c5 := xin_room h
  clear h
  go_enter Tryz.func88, Tryz.ntmps88
  go_upto_region 1 with fail
  go_region
  all_goals go_wp2_with fail
  all_goals go_ret
  all_goals exact ⟨by simp [pFull], (Low.refl _ _).drew⟩
def pRevOf (X : PS) (p : ByteArray) : Int := if (newestOf X.entries p X.rev).gone then 0 else (newestOf X.entries p X.rev).rev
set_option maxRecDepth 100000 in
set_option maxHeartbeats 400000 in
theorem revOf_any (w : World) (p : ByteArray) (h : XIn w F b X) (hn : X.entries.length ≤ 1000) :
    Calls Tryz.prog 87 #[.pointer (some ⟨b, 0, none⟩), .string p] w fun e w' => e = .returned (.int .i64 (pRevOf X p)) ∧ Low w.heap.size w w' := by
  have HR := hid h
  have c0 := xin_rev h
  obtain ⟨E, hE⟩ : ∃ E, newestOf X.entries p X.rev = E := ⟨_, rfl⟩
  have HE := hid hE
  clear h hE
  cases hg : E.gone
  all_goals
    go_enter Tryz.func87, Tryz.ntmps87
    go_wp2_with (first | (go_at_call 89; refine (newest_any _ _ _ HR.out hn).mono ?_; rw [HE.out]; rintro e y1 ⟨rfl, l1⟩; have L1 := hid l1; clear l1) | ((with_reducible refine st50 (.tmp 5) (.tmp 13) y1.heap.size Ent.zero E ?_ ?_ ?_ ?_); rfl; rfl; exact (Blk.new y1 50 Ent.zero.cells); intro W b2 k2 s2; have m5 : W.cell? ⟨y1.heap.size, 5, none⟩ = some (.bool E.gone) := b2.cell 5; have m1 : W.cell? ⟨y1.heap.size, 1, none⟩ = some (.int .i64 E.rev) := b2.cell 1; have LW : Hid (Low w.heap.size w W) := low_set (L1.out.alloc L1.out.size _) k2 L1.out.size (by have := L1.out.size; simp; omega); clear b2 k2 s2))
    go_ret
    exact ⟨by simp [pRevOf, HE.out, hg], LW.out⟩
set_option maxRecDepth 100000 in
theorem key_any (w : World) (i : Nat) (K : PKey) (h : XIn w F b X) (hk : X.keys[i]? = some K) (hi : i ≤ 100) :
    Calls Tryz.prog 86 #[.pointer (some ⟨b, 0, none⟩), .int .i64 ((i : Int) + 1)] w fun e w' => e = .returned (.agg #[.string K.text, .int .i64 K.came, .int .i64 K.wrote]) ∧ Low w.heap.size w w' := by
  obtain ⟨g, cap, hc, hg, hcs⟩ := xin_keyAt h hk
  have c0 : w.cell? ⟨g, i * 3, none⟩ = some (.string K.text) := hcs 0 (by omega)
  have c1 : w.cell? ⟨g, i * 3 + 1, none⟩ = some (.int .i64 K.came) := hcs 1 (by omega)
  have c2 : w.cell? ⟨g, i * 3 + 2, none⟩ = some (.int .i64 K.wrote) := hcs 2 (by omega)
  have hb := h.lt
  have hl : (i : Int) < (X.keys.length : Int) := by have := (List.getElem?_eq_some_iff.1 hk).1; omega
  have hz : (i : Int) + 1 - 1 = (i : Int) := by omega
  clear hcs h hk
  go_enter Tryz.func86, Tryz.ntmps86
  go_wp2
  (try simp only [Exit.inBlock, Exit.then])
  refine bodyPost_ret (results_cell rfl w.heap.size K.cells _ rfl (by exact (Blk.new w 56 K.cells).whole) Tryz.underlying56 rfl (sz56 _)) rfl ?_
  exact ⟨rfl, (Low.refl _ w).alloc (Nat.le_refl _) _⟩
def keyGone (K : PKey) : Bool := K.text.toList == (⟨#[]⟩ : ByteArray).toList
theorem destroyed_any (w : World) (K : PKey) :
    Calls Tryz.prog 93 #[.agg #[.string K.text, .int .i64 K.came, .int .i64 K.wrote]] w fun e w' => e = .returned (.bool (keyGone K)) ∧ Low w.heap.size w w' := by
  go_enter Tryz.func93, Tryz.ntmps93
  go_wp2
  go_ret
  exact ⟨by simp [keyGone], (Low.refl _ w).alloc (Nat.le_refl _) _⟩
theorem pisPath_any (w : World) (p : ByteArray) (hp : p.size ≤ maxLen) :
    Calls Tryz.prog 80 #[.string p] w fun e w' => e = .returned (.bool (isPath p)) ∧ w' = w := by
  unfold maxLen at hp
  by_cases h1 : 1 ≤ p.size
  · have q1 : decide ((1 : Int) ≤ (p.size : Int)) = true := by simp; omega
    by_cases h2 : p.size ≤ 16
    · have q2 : decide ((p.size : Int) ≤ 16) = true := by simp; omega
      have HE : Hid (isPath p = true) := by show _ = _; simp [isPath]; omega
      go_enter Tryz.func80, Tryz.ntmps80
      go_wp2
      go_ret
      exact ⟨by rw [HE.out]; simp, rfl⟩
    · have q2 : decide ((p.size : Int) ≤ 16) = false := by simp; omega
      have HE : Hid (isPath p = false) := by show _ = _; simp [isPath]; omega
      go_enter Tryz.func80, Tryz.ntmps80
      go_wp2
      go_ret
      exact ⟨by rw [HE.out]; simp, rfl⟩
  · have q1 : decide ((1 : Int) ≤ (p.size : Int)) = false := by rw [decide_eq_false_iff_not]; omega
    have HE : Hid (isPath p = false) := by show _ = _; simp [isPath]; omega
    go_enter Tryz.func80, Tryz.ntmps80
    go_wp2
    go_ret
    exact ⟨by rw [HE.out]; simp, rfl⟩
theorem isSecret_any (w : World) (p : ByteArray) (hp : p.size ≤ maxLen) :
    Calls Tryz.prog 81 #[.string p] w fun e w' => e = .returned (.bool (decide (p.size ≤ 64))) ∧ w' = w := by
  unfold maxLen at hp
  go_enter Tryz.func81, Tryz.ntmps81
  go_wp2
  go_ret
  exact ⟨by simp; omega, rfl⟩
theorem beq48 (n : Nat) : ((n : Int) == 48) = (n == 48) := by
  rw [Bool.eq_iff_iff]
  simp only [beq_iff_eq]
  omega
theorem isKey_any (w : World) (p : ByteArray) :
    Calls Tryz.prog 21 #[.string p] w fun e w' => e = .returned (.bool (p.size == 48)) ∧ w' = w := by
  go_enter Tryz.func21, Tryz.ntmps21
  go_wp2
  go_ret
  exact ⟨by simp [beq48], rfl⟩
/-- The number of the key that wrote when an epoch came. -/
def writerR (ks : List PKey) (ep : Int) : Int := match ks with
  | [] => 1
  | k :: r => if (k.wrote != 0) && decide (k.wrote ≤ ep) then (r.length + 2 : Int) else writerR r ep
def writerOf (ks : List PKey) (ep : Int) : Int := writerR (ks.drop 1).reverse ep
theorem writerR_snoc (l : List PKey) (k : PKey) (ep : Int) : writerR (l ++ [k]).reverse ep = if (k.wrote != 0) && decide (k.wrote ≤ ep) then (l.length + 2 : Int) else writerR l.reverse ep := by
  simp [writerR]
set_option maxHeartbeats 400000 in
theorem writer_any (w : World) (ep : Int) (h : XIn w F b X) (hk : X.keys.length ≤ 6) (hk1 : 1 ≤ X.keys.length) :
    Calls Tryz.prog 82 #[.pointer (some ⟨b, 0, none⟩), .int .i64 ep] w fun e w' => e = .returned (.int .i64 (writerOf X.keys ep)) ∧ w' = w := by
  obtain ⟨a, cap, hc, hel⟩ := xin_keys h
  rw [List.length_map] at hc
  have HEL := hid hel
  clear hel
  go_enter Tryz.func82, Tryz.ntmps82
  go_wp2
  go_loopw [5, 6] (fun kv iv wr => ∃ i : Nat, i + 1 ≤ X.keys.length ∧ kv = .int .i64 (writerR ((X.keys.drop 1).take i).reverse ep) ∧ iv = .int .i64 ((i : Int) + 1) ∧ w = wr) (fun _ iv _ => X.keys.length - (intOf iv).toNat)
  case atStart => exact ⟨0, by omega, rfl, rfl, rfl⟩
  case round =>
    obtain ⟨i, hi, rfl, rfl, rfl⟩ := hrel
    generalize hM : writerR ((X.keys.drop 1).take i).reverse ep = M
    have HM := hid hM
    clear hM
    by_cases h1 : i + 1 < X.keys.length
    · have q1 : decide ((i : Int) + 1 < (X.keys.length : Int)) = true := by simp; omega
      obtain ⟨k, hk2⟩ : ∃ k, X.keys[i + 1]? = some k := ⟨_, List.getElem?_eq_getElem h1⟩
      obtain ⟨g, rfl, hg, hcs, _⟩ := HEL.out (i + 1) k.cells (by rw [List.getElem?_map, hk2]; rfl)
      have c2 : w.cell? ⟨g, (i + 1) * 3 + 2, none⟩ = some (.int .i64 k.wrote) := hcs 2 (by omega)
      have HS := hid (writerR_snoc ((X.keys.drop 1).take i) k ep)
      have HT := hid (take_snoc (l := X.keys.drop 1) (i := i) (x := k) (by rw [List.getElem?_drop, Nat.add_comm]; exact hk2))
      have HL : Hid (((X.keys.drop 1).take i).length = i) := by show _ = _; simp; omega
      clear hcs hk2
      cases q3 : (k.wrote != 0)
      · go_wp2_with fail
        go_roundw
        case rel => exact ⟨i + 1, by omega, by rw [HT.out, HS.out, HM.out, q3]; rfl, by simp, by trivial⟩
        case measure => simp [intOf]; omega
      · cases q4 : decide (k.wrote ≤ ep)
        · go_wp2_with fail
          go_roundw
          case rel => exact ⟨i + 1, by omega, by rw [HT.out, HS.out, HM.out, q3, q4]; rfl, by simp, by trivial⟩
          case measure => simp [intOf]; omega
        · go_wp2_with fail
          go_roundw
          case rel => exact ⟨i + 1, by omega, by rw [HT.out, HS.out, q3, q4, HL.out]; simp; omega, by simp, by trivial⟩
          case measure => simp [intOf]; omega
    · have q1 : decide ((i : Int) + 1 < (X.keys.length : Int)) = false := by simp; omega
      have hE : Hid (writerOf X.keys ep = M) := by
        show writerOf X.keys ep = M
        rw [← HM.out, writerOf, List.take_of_length_le (by simp; omega)]
      go_wp2_with fail
      go_ret
      exact ⟨by rw [hE.out]; rfl, rfl⟩
end Go.Proofs.YtnjkpghchgjbaaaGreatDoor
