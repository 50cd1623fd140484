import Derived.Test.YtphapknfkbgapaaGreatDoorPad
import Derived.Deep.MidRow
import Derived.Deep.LoopGhost
import Derived.Laws.OwnMore
namespace Go.Proofs.YtphapknfkbgapaaGreatDoor
open Go.RowKit

theorem hid {p : Prop} (h : p) : Hid p := h

/-! Blocks of the heap, known whole; and what a call has left as it was. -/

/-- Block b holds just these cells, and all may be written. -/
def Blk (w : World) (b : Nat) (t : TypeId) (cs : List Value) : Prop := w.heap[b]? = some (.cells cs.toArray t (0, 0))

/-- Outside F, of what was there, nothing has turned. -/
structure Kept (F : Nat → Prop) (w w' : World) : Prop where
  os : w'.os = w.os
  output : w'.output = w.output
  size : w.heap.size ≤ w'.heap.size
  block : ∀ k, k < w.heap.size → ¬ F k → w'.heap[k]? = w.heap[k]?

theorem Kept.refl (F : Nat → Prop) (w : World) : Kept F w w := ⟨rfl, rfl, Nat.le_refl _, fun _ _ _ => rfl⟩
theorem Kept.trans {F G H : Nat → Prop} {a b c : World} (h : Kept F a b) (k : Kept G b c) (hF : ∀ i, F i → H i) (hG : ∀ i, i < a.heap.size → G i → H i) : Kept H a c :=
  ⟨k.os.trans h.os, k.output.trans h.output, Nat.le_trans h.size k.size, fun i hi hn =>
    (k.block i (Nat.lt_of_lt_of_le hi h.size) (fun g => hn (hG i hi g))).trans (h.block i hi (fun f => hn (hF i f)))⟩
theorem Kept.mono {F G : Nat → Prop} {a b : World} (h : Kept F a b) (hF : ∀ i, i < a.heap.size → F i → G i) : Kept G a b := ⟨h.os, h.output, h.size, fun i hi hn => h.block i hi (fun f => hn (hF i hi f))⟩
theorem Low.kept {w w' : World} (h : Low w.heap.size w w') : Kept (fun _ => False) w w' := ⟨h.os, h.output, h.size, fun k hk _ => h.block k hk⟩
theorem Kept.low {w w' : World} (h : Kept (fun _ => False) w w') : Low w.heap.size w w' := ⟨h.os, h.output, h.size, fun k hk => h.block k hk (fun f => f)⟩
theorem Low.alloc {B : Nat} {w w' : World} (h : Low B w w') (hB : B ≤ w'.heap.size) (o : Obj) : Low B w (w'.alloc o) :=
  h.trans ⟨rfl, rfl, by simp, fun k hk => Below.heap_alloc _ _ _ (by omega)⟩
theorem Low.drew {B : Nat} {w w' : World} (h : Low B w w') : Low B w w'.drew := ⟨h.os, h.output, h.size, h.block⟩
theorem Low.setCell {B : Nat} {w w' : World} (h : Low B w w') {a : Addr} (ha : B ≤ a.block) (v : Value) : Low B w (w'.setCell a v) :=
  h.trans ⟨rfl, rfl, by simp, fun k hk => Below.heap_setCell _ _ _ _ (by omega)⟩

theorem Blk.lt {w : World} {b : Nat} {t : TypeId} {cs : List Value} (h : Blk w b t cs) : b < w.heap.size := (Array.getElem?_eq_some_iff.1 h).1
theorem Blk.cell {w : World} {b : Nat} {t : TypeId} {cs : List Value} (h : Blk w b t cs) (i : Nat) : w.cell? ⟨b, i, none⟩ = cs[i]? := by
  rw [cell_of_row w b i cs.toArray t (0, 0) h]; simp
theorem Blk.frozen {w : World} {b : Nat} {t : TypeId} {cs : List Value} (h : Blk w b t cs) (i : Nat) : w.frozen? ⟨b, i, none⟩ = false := frozen_of_row w b i cs.toArray t h
theorem Blk.of {w w' : World} {b : Nat} {t : TypeId} {cs : List Value} (h : Blk w b t cs) (e : w'.heap[b]? = w.heap[b]?) : Blk w' b t cs := e.trans h
theorem Blk.kept {F : Nat → Prop} {w w' : World} {b : Nat} {t : TypeId} {cs : List Value} (h : Blk w b t cs) (k : Kept F w w') (hn : ¬ F b) : Blk w' b t cs := h.of (k.block b h.lt hn)
theorem Blk.low {B : Nat} {w w' : World} {b : Nat} {t : TypeId} {cs : List Value} (h : Blk w b t cs) (k : Low B w w') (hn : b < B) : Blk w' b t cs := h.of (k.block b hn)
theorem Blk.new (w : World) (t : TypeId) (cs : List Value) : Blk (w.alloc (.cells cs.toArray t)) w.heap.size t cs := heap_alloc_new w _
theorem Blk.alloc {w : World} {b : Nat} {t : TypeId} {cs : List Value} (h : Blk w b t cs) (o : Obj) : Blk (w.alloc o) b t cs := h.of (Below.heap_alloc _ _ _ h.lt)
theorem Blk.set {w : World} {b : Nat} {t : TypeId} {cs : List Value} (h : Blk w b t cs) (i : Nat) (v : Value) : Blk (w.setCell ⟨b, i, none⟩ v) b t (cs.set i v) := by
  have := heap_setCell_same w b i cs.toArray t v h
  unfold Blk
  rw [this]
  simp
theorem Blk.setOther {w : World} {b : Nat} {t : TypeId} {cs : List Value} (h : Blk w b t cs) {a : Addr} (ha : b ≠ a.block) (v : Value) : Blk (w.setCell a v) b t cs := h.of (Below.heap_setCell _ _ _ _ ha)
/-- Cells laid over a list's, from a place on. -/
def over (cs : List Value) : Nat → List Value → List Value
  | _, [] => cs
  | o, v :: r => over (cs.set o v) (o + 1) r
theorem over_length : ∀ (vs : List Value) (o : Nat) (cs : List Value), (over cs o vs).length = cs.length
  | [], _, _ => rfl
  | _ :: r, o, cs => by rw [over, over_length r]; simp
theorem Blk.sets {b : Nat} {t : TypeId} : ∀ (vs : List Value) (o : Nat) {w : World} {cs : List Value}, Blk w b t cs → Blk (w.setCells b o vs) b t (over cs o vs)
  | [], _, _, _, h => h
  | _ :: r, o, _, _, h => Blk.sets r (o + 1) (h.set o _)
theorem setCells_kept (b : Nat) : ∀ (vs : List Value) (o : Nat) (w : World), Kept (fun k => k = b) w (w.setCells b o vs)
  | [], _, w => Kept.refl _ w
  | v :: r, o, w => by
    have h1 : Kept (fun k => k = b) w (w.setCell ⟨b, o, none⟩ v) := ⟨rfl, rfl, by simp, fun k _ hk => Below.heap_setCell _ _ _ _ hk⟩
    exact h1.trans (setCells_kept b r (o + 1) _) (fun _ e => e) (fun _ _ e => e)
theorem setCells_size (b : Nat) : ∀ (vs : List Value) (o : Nat) (w : World), (w.setCells b o vs).heap.size = w.heap.size
  | [], _, _ => rfl
  | v :: r, o, w => by rw [World.setCells, setCells_size b r]; simp
theorem over_at : ∀ (vs : List Value) (o : Nat) (cs : List Value) (i : Nat), o + vs.length ≤ cs.length → (over cs o vs)[i]? = if o ≤ i ∧ i < o + vs.length then vs[i - o]? else cs[i]?
  | [], o, cs, i, _ => by rw [over, if_neg (by intro h; simp only [List.length_nil] at h; omega)]
  | v :: r, o, cs, i, h => by
    simp only [List.length_cons] at h
    rw [over, over_at r (o + 1) _ i (by simp; omega)]
    by_cases h1 : o + 1 ≤ i ∧ i < o + 1 + r.length
    · rw [if_pos h1, if_pos (by simp; omega)]
      obtain ⟨j, rfl⟩ : ∃ j, i = o + 1 + j := ⟨i - (o + 1), by omega⟩
      rw [show o + 1 + j - (o + 1) = j by omega, show o + 1 + j - o = j + 1 by omega]
      simp
    · rw [if_neg h1]
      by_cases h2 : i = o
      · subst h2
        rw [if_pos (by simp), List.getElem?_set_self (by omega), Nat.sub_self]
        rfl
      · rw [if_neg (by simp; omega), List.getElem?_set_ne (by omega)]
theorem over_all (cs vs : List Value) (h : vs.length = cs.length) : over cs 0 vs = vs := by
  apply List.ext_getElem?
  intro i
  rw [over_at vs 0 cs i (by omega)]
  by_cases h1 : i < vs.length
  · rw [if_pos (by omega)]; rfl
  · rw [if_neg (by omega), List.getElem?_eq_none (by omega), List.getElem?_eq_none (by omega)]
theorem Blk.range {w : World} {b : Nat} {t : TypeId} {cs : List Value} (h : Blk w b t cs) {o : Nat} {vs : List Value} (hv : ∀ j, j < vs.length → cs[o + j]? = vs[j]?) : w.rangeAt b o vs := fun j v e => by
  rw [h.cell, hv j (List.getElem?_eq_some_iff.1 e).1, e]
theorem Blk.whole {w : World} {b : Nat} {t : TypeId} {cs : List Value} (h : Blk w b t cs) : w.rangeAt b 0 cs := h.range (fun j _ => by rw [Nat.zero_add])
theorem Blk.there {w : World} {b : Nat} {t : TypeId} {cs : List Value} (h : Blk w b t cs) {o n : Nat} (hn : o + n ≤ cs.length) : w.there b o n := fun j hj => by
  refine ⟨?_, h.frozen _⟩
  rw [h.cell, List.getElem?_eq_getElem (by omega)]; rfl

section
variable {P : Program}
/-- A store of a whole struct over a block that is known: the world behind it is a new name. -/
theorem wpList_store_blk {ops : Array Oper} {rest : List Oper} {op : Oper} {a : Act} {w : World} {Q : Exit → Act → World → Prop} (hgd : op.guard = none) (ty : TypeId) (x y : Operand) (ho : op.op = .store ty x y)
    (b o : Nat) (t : TypeId) (old cs : List Value) (hx : a.eval x = .pointer (some ⟨b, o, none⟩)) (hy : a.eval y = .agg cs.toArray)
    (hB : Blk w b t old) (hl : o + cs.length ≤ old.length) (hi : (P.info? ty).map (·.size) = some cs.length) (h1 : ∀ v ∈ cs, v.oneCell' = true)
    (h : ∀ w', Blk w' b t (over old o cs) → Kept (fun k => k = b) w w' → w'.heap.size = w.heap.size → wpList P ops Q rest (a.put op.dst undef) w') : wpList P ops Q (op :: rest) a w :=
  wpList_store_mid hgd ty x y ho b o cs.toArray hx hy (hB.there (by simpa using hl)) (by simpa using hi) (all_oneCell_toArray h1)
    (h _ (by simpa using Blk.sets cs o hB) (by simpa using setCells_kept b cs o w) (by simpa using setCells_size b cs o w))
/-- The same, where the block is the struct alone. -/
theorem wpList_store_whole {ops : Array Oper} {rest : List Oper} {op : Oper} {a : Act} {w : World} {Q : Exit → Act → World → Prop} (hgd : op.guard = none) (ty : TypeId) (x y : Operand) (ho : op.op = .store ty x y)
    (b : Nat) (t : TypeId) (old cs : List Value) (hx : a.eval x = .pointer (some ⟨b, 0, none⟩)) (hy : a.eval y = .agg cs.toArray)
    (hB : Blk w b t old) (hl : cs.length = old.length) (hi : (P.info? ty).map (·.size) = some cs.length) (h1 : ∀ v ∈ cs, v.oneCell' = true)
    (h : ∀ w', Blk w' b t cs → Kept (fun k => k = b) w w' → w'.heap.size = w.heap.size → wpList P ops Q rest (a.put op.dst undef) w') : wpList P ops Q (op :: rest) a w :=
  wpList_store_blk hgd ty x y ho b 0 t old cs hx hy hB (by omega) hi h1 (fun w' h2 h3 h4 => h w' (by rwa [over_all _ _ hl] at h2) h3 h4)
end

section
variable {P : Program} (w : World)
/-- Where append lays what it gives: where it was, or in a new block. -/
theorem append_where (t ty e : TypeId) (i : TypeInfo) (z : Value) (size bytes : Nat) (ht : P.underlying t = some (.slice e)) (hi : P.info? e = some i) (hz : i.zero = some z)
    (hsize : i.size = size) (hby : i.bytes = bytes) (hzs : z.cells.size = size) (hsz : 0 < size)
    (v : Value) (n : Nat) (xs : List Value) (hown : w.ownsRow 0 e size v n xs)
    (a : Addr) (m c : Nat) (news : List Value) (hl : news.length = m * size) (hnews : ∀ j u, news[j]? = some u → w.cell? (a.add j) = some u) (h1 : ∀ u ∈ news, u.oneCell' = true)
    (h63 : n + m ≤ maxLen) (hbytes : (n + m) * bytes ≤ 140737488355328) (v' : Value) (w' : World)
    (hr : (Builtin.append_ #[t, t] ty #[v, .slice (some a) m c]).run P w = .ok v' w') : v'.ownBlock = v.ownBlock ∨ v'.ownBlock = some w.heap.size := by
  subst hsize
  subst hby
  have hsmall : n + m ≤ 9223372036854775807 := by simp only [maxLen] at h63; omega
  rcases hown.2 with ⟨rfl, rfl⟩ | ⟨g, cap, cur, rfl, hbg, hg, hnc, hcm, hcs, htake⟩
  · by_cases hm : m = 0
    · subst hm
      have hn : news = [] := List.eq_nil_of_length_eq_zero (by simpa using hl)
      subst hn
      have e2 : (Builtin.append_ #[t, t] ty #[.slice none 0 0, .slice (some a) 0 c]).run P w = .ok (.slice none 0 0) w := by
        simp [Builtin.append_, run_underlying ht, sizeOf, typeInfo, hi, Builtin.lenOf, Builtin.firstCells, loadCells, loadCellsFrom]
      rw [e2] at hr
      injection hr with q1 q2
      exact Or.inl (by rw [← q1])
    · have e2 := run_append_nil (P := P) w t ty e i z ht hi hz a m c news hl hnews (by omega) (by omega) (by have hb := hbytes; simp only [Nat.zero_add] at hb; omega)
      rw [e2] at hr
      injection hr with q1 q2
      exact Or.inr (by rw [← q1]; rfl)
  · by_cases hroom : n + m ≤ cap
    · have hfit : n * i.size + news.length ≤ cur.size := by rw [hl, hcs, ← Nat.add_mul]; exact Nat.mul_le_mul_right _ hroom
      have e2 := run_append_room (P := P) w t ty e i ht hi g n cap cur hg a m c news hl hnews h1 hroom hfit
      rw [e2] at hr
      injection hr with q1 q2
      exact Or.inl (by rw [← q1]; rfl)
    · have holds : ∀ j u, xs[j]? = some u → w.cell? ((⟨g, 0, none⟩ : Addr).add j) = some u := hown.cells (g := g) rfl
      have e2 := run_append_grow (P := P) w t ty e i z ht hi hz ⟨g, 0, none⟩ n cap xs hown.1 holds a m c news hl hnews (by omega) (by omega) (growslice_fits (by omega) hbytes)
      rw [e2] at hr
      injection hr with q1 q2
      exact Or.inr (by rw [← q1]; rfl)

theorem wp_append_mine {o : Oper} {a : Act} {K : Act → World → Prop} {Q : Exit → Act → World → Prop} (s x : Operand) (t : TypeId)
    (ho : o.op = .call { callee := .builtin .append, args := #[s, x], argTypes := #[t, t] })
    (e : TypeId) (z : Value) (size bytes : Nat) (ht : P.underlying t = some (.slice e)) (hinfo : (P.info? e).map (fun i => (i.zero, i.size, i.bytes)) = some (some z, size, bytes)) (hzs : z.cells.size = size) (hsz : 0 < size)
    (v : Value) (n : Nat) (xs : List Value) (hs : a.eval s = v) (hown : w.ownsRow 0 e size v n xs)
    (ad : Addr) (m c : Nat) (news : List Value) (hx : a.eval x = .slice (some ad) m c) (hl : news.length = m * size) (hnews : ∀ j u, news[j]? = some u → w.cell? (ad.add j) = some u) (h1 : ∀ u ∈ news, u.oneCell' = true)
    (hbytes : n + m ≤ 1000000000 ∧ bytes ≤ 100)
    (h : ∀ v' w', w'.ownsRow 0 e size v' (n + m) (xs ++ news) → Kept (fun k => v.ownBlock = some k) w w' → (v'.ownBlock = v.ownBlock ∨ v'.ownBlock = some w.heap.size) → K (a.put o.dst v') w') : o.wp P a w K Q := by
  obtain ⟨i, hi, hz, hsize, hby⟩ := info_parts hinfo
  have h63 : n + m ≤ maxLen := by unfold maxLen; omega
  have hb2 : (n + m) * bytes ≤ 140737488355328 := Nat.le_trans (Nat.mul_le_mul hbytes.1 hbytes.2) (by decide)
  obtain ⟨v', w', hr, h2, h3, _⟩ := run_append_own (P := P) w 0 t o.type e i z size bytes ht hi hz hsize hby hzs hsz v n xs hown ad m c news hl hnews h1 h63 hb2 (Nat.zero_le _)
  have hw := append_where (P := P) w t o.type e i z size bytes ht hi hz hsize hby hzs hsz v n xs hown ad m c news hl hnews h1 h63 hb2 v' w' hr
  unfold Oper.wp execOp
  simp only [ho, resolve, invoke, builtin, Sem.run_bind, Sem.run_pure, Result.andThen_ok, List.map_toArray, List.map_cons, List.map_nil, hs, hx, hr]
  exact h v' w' h2 ⟨h3.os, h3.output, h3.size, fun k hk hn => h3.block k hk (fun e => hn e.symm)⟩ hw
theorem wpList_append_mine {ops : Array Oper} {rest : List Oper} {o : Oper} {a : Act} {Q : Exit → Act → World → Prop} (hgd : o.guard = none) (s x : Operand) (t : TypeId)
    (ho : o.op = .call { callee := .builtin .append, args := #[s, x], argTypes := #[t, t] })
    (e : TypeId) (z : Value) (size bytes : Nat) (ht : P.underlying t = some (.slice e)) (hinfo : (P.info? e).map (fun i => (i.zero, i.size, i.bytes)) = some (some z, size, bytes)) (hzs : z.cells.size = size) (hsz : 0 < size)
    (v : Value) (n : Nat) (xs : List Value) (hs : a.eval s = v) (hown : w.ownsRow 0 e size v n xs)
    (ad : Addr) (m c : Nat) (news : List Value) (hx : a.eval x = .slice (some ad) m c) (hl : news.length = m * size) (hnews : ∀ j u, news[j]? = some u → w.cell? (ad.add j) = some u) (h1 : ∀ u ∈ news, u.oneCell' = true)
    (hbytes : n + m ≤ 1000000000 ∧ bytes ≤ 100)
    (h : ∀ v' w', w'.ownsRow 0 e size v' (n + m) (xs ++ news) → Kept (fun k => v.ownBlock = some k) w w' → (v'.ownBlock = v.ownBlock ∨ v'.ownBlock = some w.heap.size) → wpList P ops Q rest (a.put o.dst v') w') : wpList P ops Q (o :: rest) a w :=
  wpList_plain hgd fun _ hK => wp_append_mine w s x t ho e z size bytes ht hinfo hzs hsz v n xs hs hown ad m c news hx hl hnews h1 hbytes fun v' w' h2 h3 h4 => hK _ _ (h v' w' h2 h3 h4)
end

section
variable {P : Program}
/-- A load of a whole struct, at the operation as it is written. -/
theorem ldAny {ops : Array Oper} {rest : List Oper} {d : Option Tmp} {t0 : TypeId} {pos : String} {after : Array Edge} {a : Act} {w : World} {Q : Exit → Act → World → Prop} (ty : TypeId) (x : Operand)
    (b o : Nat) (cs : List Value) (dd : TypeDesc) (hx : a.eval x = .pointer (some ⟨b, o, none⟩)) (hc : w.rangeAt b o cs)
    (hu : P.underlying ty = some dd) (hd : dd.isRow = true) (hi : (P.info? ty).map (·.size) = some cs.length)
    (h : wpList P ops Q rest (a.put d (.agg cs.toArray)) w) : wpList P ops Q ({ dst := d, op := .load ty x, type := t0, pos := pos, after := after, guard := none } :: rest) a w :=
  wpList_load_mid rfl ty x rfl b o hx cs dd hc hu hd hi h
/-- A store of a whole struct over cells that are known. -/
theorem stAny {ops : Array Oper} {rest : List Oper} {d : Option Tmp} {t0 : TypeId} {pos : String} {after : Array Edge} {a : Act} {w : World} {Q : Exit → Act → World → Prop} (ty : TypeId) (x y : Operand)
    (b o : Nat) (cs : List Value) (hx : a.eval x = .pointer (some ⟨b, o, none⟩)) (hy : a.eval y = .agg cs.toArray)
    (ht : w.there b o cs.length) (hi : (P.info? ty).map (·.size) = some cs.length) (h1 : ∀ v ∈ cs, v.oneCell' = true)
    (h : wpList P ops Q rest (a.put d undef) (w.setCells b o cs)) : wpList P ops Q ({ dst := d, op := .store ty x y, type := t0, pos := pos, after := after, guard := none } :: rest) a w :=
  wpList_store_mid rfl ty x y rfl b o cs.toArray hx hy (by simpa using ht) (by simpa using hi) (all_oneCell_toArray h1) (by simpa using h)
/-- A store of a whole struct that fills a block. -/
theorem stBlk {ops : Array Oper} {rest : List Oper} {d : Option Tmp} {t0 : TypeId} {pos : String} {after : Array Edge} {a : Act} {w : World} {Q : Exit → Act → World → Prop} (ty : TypeId) (x y : Operand)
    (b : Nat) (t : TypeId) (old cs : List Value) (hx : a.eval x = .pointer (some ⟨b, 0, none⟩)) (hy : a.eval y = .agg cs.toArray)
    (hB : Blk w b t old) (hl : cs.length = old.length) (hi : (P.info? ty).map (·.size) = some cs.length) (h1 : ∀ v ∈ cs, v.oneCell' = true)
    (h : ∀ w', Blk w' b t cs → Kept (fun k => k = b) w w' → w'.heap.size = w.heap.size → wpList P ops Q rest (a.put d undef) w') : wpList P ops Q ({ dst := d, op := .store ty x y, type := t0, pos := pos, after := after, guard := none } :: rest) a w :=
  wpList_store_whole rfl ty x y rfl b t old cs hx hy hB hl hi h1 h
end

section
variable {P : Program}
theorem results_cell {fn : Func} {tmps : Array Value} {w : World} {c : Tmp} {t : TypeId} (h : fn.results = #[.cell c t]) (b : Nat) (cs : List Value) (dd : TypeDesc) (hx : tmps.getD c undef = .pointer (some ⟨b, 0, none⟩)) (hc : w.rangeAt b 0 cs)
    (hu : P.underlying t = some dd) (hd : dd.isRow = true) (hi : (P.info? t).map (·.size) = some cs.length) : (results fn tmps).run P w = .ok (.agg cs.toArray) w := by
  have hx2 : tmps[c]?.getD undef = .pointer (some ⟨b, 0, none⟩) := by simpa using hx
  simp [results, h, hx2, asAddr, run_loadVar_mid w b 0 t cs dd hc hu hd hi]
theorem results_cell_tmp {fn : Func} {tmps : Array Value} {w : World} {c u : Tmp} {t : TypeId} (h : fn.results = #[.cell c t, .tmp u]) (b : Nat) (cs : List Value) (dd : TypeDesc) (hx : tmps.getD c undef = .pointer (some ⟨b, 0, none⟩)) (hc : w.rangeAt b 0 cs)
    (hu : P.underlying t = some dd) (hd : dd.isRow = true) (hi : (P.info? t).map (·.size) = some cs.length) : (results fn tmps).run P w = .ok (.tuple #[.agg cs.toArray, tmps.getD u undef]) w := by
  have hx2 : tmps[c]?.getD undef = .pointer (some ⟨b, 0, none⟩) := by simpa using hx
  simp [results, h, hx2, asAddr, run_loadVar_mid w b 0 t cs dd hc hu hd hi]
end

section
variable {P : Program} (w : World)
/-- append at a step of a region that draws its order. -/
theorem step_append_mine {ops : Array Oper} {o : Oper} {a : Act} {K : Act → World → Prop} {Q : Exit → Act → World → Prop} {E : Prop} (hgd : o.guard = none) (s x : Operand) (t : TypeId)
    (ho : o.op = .call { callee := .builtin .append, args := #[s, x], argTypes := #[t, t] })
    (e : TypeId) (z : Value) (size bytes : Nat) (ht : P.underlying t = some (.slice e)) (hinfo : (P.info? e).map (fun i => (i.zero, i.size, i.bytes)) = some (some z, size, bytes)) (hzs : z.cells.size = size) (hsz : 0 < size)
    (v : Value) (n : Nat) (xs : List Value) (hs : a.eval s = v) (hown : w.ownsRow 0 e size v n xs)
    (ad : Addr) (m c : Nat) (news : List Value) (hx : a.eval x = .slice (some ad) m c) (hl : news.length = m * size) (hnews : ∀ j u, news[j]? = some u → w.cell? (ad.add j) = some u) (h1 : ∀ u ∈ news, u.oneCell' = true)
    (hbytes : n + m ≤ 1000000000 ∧ bytes ≤ 100)
    (h : ∀ v' w', w'.ownsRow 0 e size v' (n + m) (xs ++ news) → Kept (fun k => v.ownBlock = some k) w w' → (v'.ownBlock = v.ownBlock ∨ v'.ownBlock = some w.heap.size) → K (a.put o.dst v') w') :
    if Region.wanted o (yielded ops a.tmps) = true then Oper.wp P o a w K Q else E := by
  have hw : Region.wanted o (yielded ops a.tmps) = true := by simp [Region.wanted, hgd]
  rw [if_pos hw]
  exact wp_append_mine w s x t ho e z size bytes ht hinfo hzs hsz v n xs hs hown ad m c news hx hl hnews h1 hbytes h
theorem news_new (cs : List Value) (t : TypeId) : ∀ (j : Nat) (u : Value), cs[j]? = some u → (w.alloc (.cells cs.toArray t)).cell? ((⟨w.heap.size, 0, none⟩ : Addr).add j) = some u := by
  intro j u h
  rw [Addr.add_mid, Nat.zero_add, (Blk.new w t cs).cell]
  exact h
theorem Kept.drew {F : Nat → Prop} {w w' : World} (h : Kept F w w') : Kept F w w'.drew := ⟨h.os, h.output, h.size, h.block⟩
theorem Kept.of_drew {F : Nat → Prop} {w w' : World} (h : Kept F w.drew w') : Kept F w w' := ⟨h.os, h.output, h.size, h.block⟩
theorem Kept.frozen {F : Nat → Prop} {w w' : World} (h : Kept F w w') {a : Addr} (ha : a.block < w.heap.size) (hn : ¬ F a.block) : w'.frozen? a = w.frozen? a := World.frozen?_of_block (w := w) (h.block a.block ha hn)
theorem Kept.cell {F : Nat → Prop} {w w' : World} (h : Kept F w w') {a : Addr} {v : Value} (hc : w.cell? a = some v) (hn : ¬ F a.block) : w'.cell? a = some v :=
  (World.cell?_of_block (w := w) (h.block a.block (World.block_lt_of_cell? w a hc) hn)).trans hc
end
end Go.Proofs.YtphapknfkbgapaaGreatDoor
namespace Go.Proofs.YtphapknfkbgapaaGreatDoor
open Go.RowKit

/-! A struct in memory with slices of its own. -/

/-- A slice of an object: which cell of the struct holds it; its elements' type and how many cells each has; how many elements; their cells. -/
structure Row where
  off : Nat
  e : TypeId
  size : Nat
  n : Nat
  xs : List Value

/-- In block b lies a struct with the cells C; the rows R are its own; all lies in blocks of F. -/
structure Own (w : World) (F : Nat → Prop) (b : Nat) (t : TypeId) (C : List Value) (R : List Row) : Prop where
  blk : Blk w b t C
  inF : F b
  below : ∀ k, F k → k < w.heap.size
  rows : ∃ τ : Nat → Nat, τ b = 0 ∧ ∀ j r, R[j]? = some r → ∃ v, C[r.off]? = some v ∧ w.ownsRow 0 r.e r.size v r.n r.xs ∧ ∀ k, v.ownBlock = some k → F k ∧ τ k = j + 1

/-- F, and the blocks that have come. -/
def grow (F : Nat → Prop) (w w' : World) : Nat → Prop := fun k => F k ∨ (w.heap.size ≤ k ∧ k < w'.heap.size)

theorem ownsRow_at {w w' : World} {e : TypeId} {size : Nat} {v : Value} {n : Nat} {xs : List Value} (h : w.ownsRow 0 e size v n xs) (hb : ∀ k, v.ownBlock = some k → w'.heap[k]? = w.heap[k]?) : w'.ownsRow 0 e size v n xs := by
  refine ⟨h.1, ?_⟩
  rcases h.2 with hn | ⟨g, cap, cur, rfl, hb0, hgg, rest⟩
  · exact Or.inl hn
  · exact Or.inr ⟨g, cap, cur, rfl, hb0, (hb g rfl).trans hgg, rest⟩

variable {w w' : World} {F G : Nat → Prop} {b : Nat} {t : TypeId} {C : List Value} {R : List Row}

theorem Own.cell (h : Own w F b t C R) (i : Nat) : w.cell? ⟨b, i, none⟩ = C[i]? := h.blk.cell i
theorem Own.frozen (h : Own w F b t C R) (i : Nat) : w.frozen? ⟨b, i, none⟩ = false := h.blk.frozen i
theorem Own.lt (h : Own w F b t C R) : b < w.heap.size := h.blk.lt
/-- What touches no block of the object leaves it. -/
theorem Own.kept (h : Own w F b t C R) (k : Kept G w w') (hd : ∀ i, F i → ¬ G i) : Own w' F b t C R := by
  refine ⟨h.blk.kept k (hd _ h.inF), h.inF, fun i hi => Nat.lt_of_lt_of_le (h.below i hi) k.size, ?_⟩
  obtain ⟨τ, t0, hr⟩ := h.rows
  refine ⟨τ, t0, fun j r hj => ?_⟩
  obtain ⟨v, hv, ho, hb⟩ := hr j r hj
  exact ⟨v, hv, ownsRow_at ho (fun q hq => k.block q (h.below q (hb q hq).1) (hd q (hb q hq).1)), hb⟩
theorem Own.low (h : Own w F b t C R) (k : Low w.heap.size w w') : Own w' F b t C R := h.kept k.kept (fun _ _ f => f)
theorem Own.alloc (h : Own w F b t C R) (o : Obj) : Own (w.alloc o) F b t C R := h.low ((Low.refl _ w).alloc (Nat.le_refl _) o)
theorem Own.more (h : Own w F b t C R) (hs : ∀ k, F k → G k) (hb : ∀ k, G k → k < w.heap.size) : Own w G b t C R := by
  obtain ⟨τ, t0, hr⟩ := h.rows
  exact ⟨h.blk, hs _ h.inF, hb, τ, t0, fun j r hj => by
    obtain ⟨v, hv, ho, hk⟩ := hr j r hj
    exact ⟨v, hv, ho, fun k e => ⟨hs k (hk k e).1, (hk k e).2⟩⟩⟩
/-- A number, a text, a flag of the struct is written. -/
theorem Own.set (h : Own w F b t C R) (i : Nat) (v : Value) (hi : ∀ r ∈ R, r.off ≠ i) : Own (w.setCell ⟨b, i, none⟩ v) F b t (C.set i v) R := by
  obtain ⟨τ, t0, hr⟩ := h.rows
  refine ⟨h.blk.set i v, h.inF, fun k hk => by simpa using h.below k hk, τ, t0, fun j r hj => ?_⟩
  obtain ⟨u, hu, ho, hk⟩ := hr j r hj
  refine ⟨u, ?_, ownsRow_at ho (fun k e => Below.heap_setCell _ _ _ _ (fun q => ?_)), hk⟩
  · rw [List.getElem?_set_ne (fun q => hi r (List.mem_of_getElem? hj) q.symm)]; exact hu
  · have h1 := (hk k e).2
    have q' : k = b := q
    rw [q', t0] at h1; omega
theorem setCell_kept (w : World) (a : Addr) (v : Value) : Kept (fun k => k = a.block) w (w.setCell a v) := ⟨rfl, rfl, by simp, fun _ _ hk => Below.heap_setCell _ _ _ _ hk⟩
/-- A row, as it lies. -/
theorem Own.row (h : Own w F b t C R) (j : Nat) {r : Row} (hj : R[j]? = some r) : ∃ v, C[r.off]? = some v ∧ w.ownsRow 0 r.e r.size v r.n r.xs ∧ (∀ k, v.ownBlock = some k → F k) := by
  obtain ⟨τ, t0, hr⟩ := h.rows
  obtain ⟨v, hv, ho, hk⟩ := hr j r hj
  exact ⟨v, hv, ho, fun k e => (hk k e).1⟩
/-- A row does not lie in the struct's own block. -/
theorem Own.apart (h : Own w F b t C R) (j : Nat) {r : Row} (hj : R[j]? = some r) {v : Value} (hv : C[r.off]? = some v) : v.ownBlock ≠ some b := by
  obtain ⟨τ, t0, hr⟩ := h.rows
  obtain ⟨v0, hv0, _, hk⟩ := hr j r hj
  obtain rfl : v0 = v := Option.some.inj (hv0.symm.trans hv)
  intro e
  have := (hk b e).2
  omega
/-- A row's cells are written. -/
theorem Own.rowSet (h : Own w F b t C R) (j : Nat) {r : Row} (hj : R[j]? = some r) {v : Value} (hv : C[r.off]? = some v) (k : Kept (fun q => v.ownBlock = some q) w w') {xs : List Value} (ho : w'.ownsRow 0 r.e r.size v r.n xs) :
    Own w' F b t C (R.set j { r with xs := xs }) := by
  obtain ⟨τ, t0, hr⟩ := h.rows
  obtain ⟨v0, hv0, ho0, hk0⟩ := hr j r hj
  obtain rfl : v0 = v := Option.some.inj (hv0.symm.trans hv)
  have hjl : j < R.length := (List.getElem?_eq_some_iff.1 hj).1
  refine ⟨h.blk.kept k (fun e => by have := (hk0 b e).2; omega), h.inF, fun i hi => Nat.lt_of_lt_of_le (h.below i hi) k.size, τ, t0, fun i s hi => ?_⟩
  by_cases e : i = j
  · subst e
    rw [List.getElem?_set_self hjl] at hi
    obtain rfl := (Option.some.inj hi).symm
    exact ⟨v0, hv, ho, hk0⟩
  · rw [List.getElem?_set_ne (fun q => e q.symm)] at hi
    obtain ⟨u, hu, hou, hku⟩ := hr i s hi
    refine ⟨u, hu, ownsRow_at hou (fun q hq => k.block q (h.below q (hku q hq).1) (fun e2 => ?_)), hku⟩
    have a1 := (hku q hq).2
    have a2 := (hk0 q e2).2
    omega
/-- A row is another one now, where it was or in a new block, and the struct tells it. -/
theorem Own.rowNew (h : Own w F b t C R) (j : Nat) {r : Row} (hj : R[j]? = some r) {v : Value} (hv : C[r.off]? = some v) (k : Kept (fun q => v.ownBlock = some q) w w') {v' : Value} {n : Nat} {xs : List Value}
    (ho : w'.ownsRow 0 r.e r.size v' n xs) (hw : v'.ownBlock = v.ownBlock ∨ ∀ q, v'.ownBlock = some q → w.heap.size ≤ q) (hoff : ∀ i s, R[i]? = some s → i ≠ j → s.off ≠ r.off) :
    Own (w'.setCell ⟨b, r.off, none⟩ v') (grow F w w') b t (C.set r.off v') (R.set j { r with n := n, xs := xs }) := by
  obtain ⟨τ, t0, hr⟩ := h.rows
  obtain ⟨v0, hv0, ho0, hk0⟩ := hr j r hj
  obtain rfl : v0 = v := Option.some.inj (hv0.symm.trans hv)
  have hjl : j < R.length := (List.getElem?_eq_some_iff.1 hj).1
  have hol : r.off < C.length := (List.getElem?_eq_some_iff.1 hv).1
  have hbk : Blk w' b t C := h.blk.kept k (fun e => by have := (hk0 b e).2; omega)
  have hlt' := fun q e => (ho.lt q e).2
  have hbl := h.lt
  refine ⟨hbk.set _ _, Or.inl h.inF, fun i hi => ?_, fun q => if w.heap.size ≤ q then j + 1 else τ q, ?_, fun i s hi => ?_⟩
  · rcases hi with hi | hi
    · simpa using Nat.lt_of_lt_of_le (h.below i hi) k.size
    · simpa using hi.2
  · show (if w.heap.size ≤ b then j + 1 else τ b) = 0
    rw [if_neg (by omega)]; exact t0
  · by_cases e : i = j
    · subst e
      rw [List.getElem?_set_self hjl] at hi
      obtain rfl := (Option.some.inj hi).symm
      have hplace : ∀ q, v'.ownBlock = some q → grow F w w' q ∧ (if w.heap.size ≤ q then i + 1 else τ q) = i + 1 ∧ q ≠ b := by
        intro q hq
        rcases hw with hw | hw
        · rw [hw] at hq
          have h3 := hk0 q hq
          have h4 := h.below q h3.1
          refine ⟨Or.inl h3.1, by rw [if_neg (by omega)]; exact h3.2, fun e => ?_⟩
          rw [e, t0] at h3; omega
        · have h3 := hw q hq
          exact ⟨Or.inr ⟨h3, hlt' q hq⟩, by rw [if_pos h3], by omega⟩
      refine ⟨v', List.getElem?_set_self hol, ownsRow_at ho (fun q hq => Below.heap_setCell _ _ _ _ (hplace q hq).2.2), fun q hq => ⟨(hplace q hq).1, (hplace q hq).2.1⟩⟩
    · rw [List.getElem?_set_ne (fun q => e q.symm)] at hi
      obtain ⟨u, hu, hou, hku⟩ := hr i s hi
      refine ⟨u, ?_, ownsRow_at hou (fun q hq => ?_), fun q hq => ⟨Or.inl (hku q hq).1, ?_⟩⟩
      · rw [List.getElem?_set_ne (fun q => hoff i s hi e q.symm)]; exact hu
      · have a1 := hku q hq
        have a3 := h.below q a1.1
        rw [Below.heap_setCell _ _ _ _ (fun (e2 : q = b) => by rw [e2, t0] at a1; omega)]
        exact k.block q a3 (fun e2 => by have a2 := (hk0 q e2).2; omega)
      · have a1 := hku q hq
        have a3 := h.below q a1.1
        show (if w.heap.size ≤ q then j + 1 else τ q) = i + 1
        rw [if_neg (by omega)]; exact a1.2

/-- A slice, whatever it is, in one form. -/
theorem ownsRow_view {e : TypeId} {size : Nat} {v : Value} {n : Nat} {xs : List Value} (h : w.ownsRow 0 e size v n xs) :
    ∃ a cap, v = .slice a n cap ∧ n ≤ cap ∧ (0 < n → ∃ g, a = some ⟨g, 0, none⟩ ∧ g < w.heap.size ∧ (∀ j, j < n * size → w.cell? ⟨g, j, none⟩ = xs[j]?) ∧ ∀ j, w.frozen? ⟨g, j, none⟩ = false) := by
  rcases h.2 with ⟨rfl, rfl⟩ | ⟨g, cap, cur, rfl, _, hg, hn, _⟩
  · exact ⟨none, 0, rfl, Nat.le_refl _, fun h => absurd h (Nat.lt_irrefl _)⟩
  · exact ⟨_, cap, rfl, hn, fun _ => ⟨g, rfl, (Array.getElem?_eq_some_iff.1 hg).1, fun j hj => h.cellAt j hj, fun j => h.frozenAt j⟩⟩

/-- The cells of a list of things of k cells each. -/
theorem flat_length {α : Type} (k : Nat) (f : α → List Value) (hf : ∀ x, (f x).length = k) : ∀ l : List α, (l.flatMap f).length = l.length * k
  | [] => by simp
  | x :: r => by rw [List.flatMap_cons, List.length_append, hf, flat_length k f hf r, List.length_cons, Nat.add_mul]; omega
theorem flat_at {α : Type} (k : Nat) (f : α → List Value) (hf : ∀ x, (f x).length = k) : ∀ (l : List α) (i j : Nat) (x : α), l[i]? = some x → j < k → (l.flatMap f)[i * k + j]? = (f x)[j]?
  | [], i, j, x, h, _ => by simp at h
  | y :: r, 0, j, x, h, hj => by
    obtain rfl : y = x := by simpa using h
    rw [List.flatMap_cons, Nat.zero_mul, Nat.zero_add, List.getElem?_append_left (by rw [hf]; exact hj)]
  | y :: r, i + 1, j, x, h, hj => by
    rw [List.flatMap_cons, List.getElem?_append_right (by rw [hf, Nat.add_mul]; omega), hf, show (i + 1) * k + j - k = i * k + j by rw [Nat.add_mul]; omega]
    exact flat_at k f hf r i j x (by simpa using h) hj
theorem flat_set {α : Type} (k : Nat) (f : α → List Value) (hf : ∀ x, (f x).length = k) (l : List α) (i : Nat) (x : α) (hi : i < l.length) : over (l.flatMap f) (i * k) (f x) = (l.set i x).flatMap f := by
  have hL := flat_length k f hf
  have hle : i * k + k ≤ l.length * k := by rw [← Nat.succ_mul]; exact Nat.mul_le_mul_right _ hi
  apply List.ext_getElem?
  intro q
  rw [over_at _ _ _ _ (by rw [hL, hf]; exact hle), hf]
  by_cases hk : k = 0
  · subst hk
    rw [if_neg (by omega), List.getElem?_eq_none (by rw [hL]; omega), List.getElem?_eq_none (by rw [hL]; omega)]
  by_cases hq : q < l.length * k
  · obtain ⟨a, c, hc, rfl⟩ : ∃ a c, c < k ∧ q = a * k + c := ⟨q / k, q % k, Nat.mod_lt _ (by omega), by rw [Nat.mul_comm]; exact (Nat.div_add_mod q k).symm⟩
    have ha : a < l.length := by
      rcases Nat.lt_or_ge a l.length with h | h
      · exact h
      · have := Nat.mul_le_mul_right k h; omega
    by_cases e : a = i
    · subst e
      rw [if_pos (by omega), Nat.add_sub_cancel_left, flat_at k f hf (l.set a x) a c x (List.getElem?_set_self ha) hc]
    · rw [if_neg (by
        intro ⟨h1, h2⟩
        rcases Nat.lt_or_ge a i with h | h
        · have : (a + 1) * k ≤ i * k := Nat.mul_le_mul_right _ h
          rw [Nat.add_mul] at this; omega
        · have : (i + 1) * k ≤ a * k := Nat.mul_le_mul_right _ (by omega)
          rw [Nat.add_mul] at this; omega), flat_at k f hf l a c l[a] (List.getElem?_eq_getElem ha) hc, flat_at k f hf (l.set i x) a c l[a] (by rw [List.getElem?_set_ne (fun q => e q.symm)]; exact List.getElem?_eq_getElem ha) hc]
  · rw [if_neg (by omega), List.getElem?_eq_none (by rw [hL]; omega), List.getElem?_eq_none (by rw [hL, List.length_set]; omega)]
/-- An element of a row is written whole. -/
theorem ownsRow_over {e : TypeId} {size : Nat} {g n cap : Nat} : ∀ (vs : List Value) (o : Nat) {w : World} {xs : List Value}, w.ownsRow 0 e size (.slice (some ⟨g, 0, none⟩) n cap) n xs →
    (w.setCells g o vs).ownsRow 0 e size (.slice (some ⟨g, 0, none⟩) n cap) n (over xs o vs)
  | [], _, _, _, h => h
  | v :: r, o, _, _, h => ownsRow_over r (o + 1) (h.stored o v).1
theorem ownsRow_there {e : TypeId} {size : Nat} {g n cap : Nat} {xs : List Value} (h : w.ownsRow 0 e size (.slice (some ⟨g, 0, none⟩) n cap) n xs) {o m : Nat} (hm : o + m ≤ n * size) : w.there g o m := fun j hj => by
  refine ⟨?_, h.frozenAt _⟩
  rw [h.cellAt _ (by omega), List.getElem?_eq_getElem (by rw [h.1]; omega)]; rfl

/-- A slice of the call's own, behind an append. -/
theorem append_low {w wr w1 : World} {v v' : Value} {o : Obj} (l0 : Low w.heap.size w wr) (b0 : ∀ k, v.ownBlock = some k → w.heap.size ≤ k) (K : Kept (fun k => v.ownBlock = some k) (wr.alloc o) w1)
    (P : v'.ownBlock = v.ownBlock ∨ v'.ownBlock = some (wr.alloc o).heap.size) : Low w.heap.size w w1 ∧ ∀ q, v'.ownBlock = some q → w.heap.size ≤ q := by
  have hs := l0.size
  have l1 : Low w.heap.size w (wr.alloc o) := l0.alloc hs o
  refine ⟨⟨K.os.trans l1.os, K.output.trans l1.output, Nat.le_trans l1.size K.size, fun q hq => ?_⟩, fun q hq => ?_⟩
  · rw [K.block q (Nat.lt_of_lt_of_le hq l1.size) (fun e => by have := b0 q e; omega)]
    exact l1.block q hq
  · rcases P with e | e
    · exact b0 q (e ▸ hq)
    · rw [e] at hq
      have h2 := Option.some.inj hq
      simp at h2
      omega
theorem flat_snoc {α : Type} (f : α → List Value) (l : List α) (x : α) : (l ++ [x]).flatMap f = l.flatMap f ++ f x := by simp

/-- A row of the object is appended to, and the struct tells the new slice. -/
theorem Own.appended {W w1 : World} (h : Own w F b t C R) (L : Low w.heap.size w W) (j : Nat) {r : Row} (hj : R[j]? = some r) {v : Value} (hv : C[r.off]? = some v) {o : Obj} (k : Kept (fun q => v.ownBlock = some q) (W.alloc o) w1) {v' : Value} {n : Nat} {xs : List Value}
    (ho : w1.ownsRow 0 r.e r.size v' n xs) (P : v'.ownBlock = v.ownBlock ∨ v'.ownBlock = some (W.alloc o).heap.size) (hoff : ∀ i s, R[i]? = some s → i ≠ j → s.off ≠ r.off) :
    Own (w1.setCell ⟨b, r.off, none⟩ v') (grow F w (w1.setCell ⟨b, r.off, none⟩ v')) b t (C.set r.off v') (R.set j { r with n := n, xs := xs }) ∧ Kept F w (w1.setCell ⟨b, r.off, none⟩ v') := by
  have hl : Low w.heap.size w (W.alloc o) := L.alloc L.size o
  have hk : Kept (fun q => v.ownBlock = some q) w w1 := hl.kept.trans k (fun _ f => f.elim) (fun _ _ e => e)
  have hs := L.size
  have hkb : ∀ q, v.ownBlock = some q → F q := by
    obtain ⟨v0, hv0, _, hF⟩ := h.row j hj
    obtain rfl : v0 = v := Option.some.inj (hv0.symm.trans hv)
    exact hF
  have hN := h.rowNew j hj hv hk ho (P.imp id (fun e q hq => by rw [e] at hq; have := Option.some.inj hq; simp at this; omega)) hoff
  refine ⟨hN.more (fun q hq => ?_) (fun q hq => ?_), ?_⟩
  · rcases hq with hq | hq
    · exact Or.inl hq
    · exact Or.inr ⟨hq.1, by simpa using hq.2⟩
  · rcases hq with hq | hq
    · exact hN.below q (Or.inl hq)
    · exact hq.2
  · refine hk.trans (setCell_kept w1 _ v') hkb (fun q _ e => ?_)
    have : q = b := e
    rw [this]; exact h.inF
theorem Own.cast {C' : List Value} {R' : List Row} (h : Own w F b t C R) (hC : C = C') (hR : R = R') : Own w F b t C' R' := by subst hC; subst hR; exact h

/-- An element of a row of the object is written whole. -/
theorem Own.elem (h : Own w F b t C R) (j : Nat) {off : Nat} {e : TypeId} {k : Nat} {α : Type} {l : List α} {f : α → List Value} (hf : ∀ x, (f x).length = k) (hj : R[j]? = some ⟨off, e, k, l.length, l.flatMap f⟩)
    {g cap : Nat} (hv : C[off]? = some (.slice (some ⟨g, 0, none⟩) l.length cap)) (i : Nat) (hi : i < l.length) (x : α) :
    Own (w.setCells g (i * k) (f x)) F b t C (R.set j ⟨off, e, k, l.length, (l.set i x).flatMap f⟩) ∧ Kept F w (w.setCells g (i * k) (f x)) ∧ w.there g (i * k) k := by
  obtain ⟨v0, hv0, ho, hF⟩ := h.row j hj
  obtain rfl : v0 = .slice (some ⟨g, 0, none⟩) l.length cap := Option.some.inj (hv0.symm.trans hv)
  have hle : (i + 1) * k ≤ l.length * k := Nat.mul_le_mul_right _ hi
  rw [Nat.add_mul] at hle
  have hk : Kept (fun q => (Value.slice (some ⟨g, 0, none⟩) l.length cap).ownBlock = some q) w (w.setCells g (i * k) (f x)) :=
    (setCells_kept g (f x) (i * k) w).mono (fun q _ (e : q = g) => by rw [e]; rfl)
  have h2 := h.rowSet j hj hv0 hk (ownsRow_over (f x) (i * k) ho)
  rw [flat_set k f hf l i x hi] at h2
  exact ⟨h2, hk.mono (fun q _ e => hF q e), ownsRow_there ho (by show i * k + k ≤ l.length * k; omega)⟩
end Go.Proofs.YtphapknfkbgapaaGreatDoor
namespace Go.Proofs.YtphapknfkbgapaaGreatDoor
open Go.RowKit

/-! The document's coffer as plain data, and how it lies in memory. -/

structure Ent where
  path : ByteArray
  rev : Int
  key : Int
  draw : Int
  sealed : ByteArray
  gone : Bool
def Ent.cells (e : Ent) : List Value := [.string e.path, .int .i64 e.rev, .int .i64 e.key, .int .i64 e.draw, .string e.sealed, .bool e.gone]
def Ent.zero : Ent := ⟨⟨#[]⟩, 0, 0, 0, ⟨#[]⟩, false⟩
structure RKept where
  e : Ent
  out : Bool
def RKept.cells (k : RKept) : List Value := [.string k.e.path, .int .i64 k.e.rev, .int .i64 k.e.key, .int .i64 k.e.draw, .string k.e.sealed, .bool k.e.gone, .bool k.out]
structure RKey where
  text : ByteArray
  came : Int
  writes : Int
  gone : Bool
def RKey.cells (k : RKey) : List Value := [.string k.text, .int .i64 k.came, .int .i64 k.writes, .bool k.gone]
structure RUnd where
  on : Bool
  e : Ent
  epoch : Int
  want : Int
def RUnd.zero : RUnd := ⟨false, Ent.zero, 0, 0⟩
def RUnd.cells (u : RUnd) : List Value := [.bool u.on, .string u.e.path, .int .i64 u.e.rev, .int .i64 u.e.key, .int .i64 u.e.draw, .string u.e.sealed, .bool u.e.gone, .int .i64 u.epoch, .int .i64 u.want]
structure RS where
  servers : Int
  room : Int
  key : ByteArray
  all : List RKept
  keys : List RKey
  seen : List Int
  ops : List RUnd
  epoch : Int
  floor : Int
  draws : Int
  turn : Int
  node : List Int
  needs : List (ByteArray × ByteArray)
def one (i : Int) : List Value := [.int .i64 i]
def two (p : ByteArray × ByteArray) : List Value := [.string p.1, .string p.2]
def RS.cells (Y : RS) (vA vK vS vO vN : Value) : List Value :=
  .int .i64 Y.servers :: .int .i64 Y.room :: .string Y.key :: vA :: vK :: vS :: vO :: .int .i64 Y.epoch :: .int .i64 Y.floor :: .int .i64 Y.draws :: .int .i64 Y.turn :: (Y.node.map (Value.int .i64) ++ [vN])
def RS.rows (Y : RS) : List Row := [⟨3, 121, 7, Y.all.length, Y.all.flatMap RKept.cells⟩, ⟨4, 75, 4, Y.keys.length, Y.keys.flatMap RKey.cells⟩, ⟨5, 3, 1, Y.seen.length, Y.seen.flatMap one⟩, ⟨6, 77, 9, Y.ops.length, Y.ops.flatMap RUnd.cells⟩, ⟨19, 117, 2, Y.needs.length, Y.needs.flatMap two⟩]
/-- The document's coffer Y lies at block b, in blocks of F. -/
def RIn (w : World) (F : Nat → Prop) (b : Nat) (Y : RS) : Prop := Y.node.length = 8 ∧ ∃ vA vK vS vO vN, Own w F b 73 (Y.cells vA vK vS vO vN) Y.rows

theorem Ent.len (e : Ent) : e.cells.length = 6 := rfl
theorem RKept.len (e : RKept) : e.cells.length = 7 := rfl
theorem RKey.len (e : RKey) : e.cells.length = 4 := rfl
theorem RUnd.len (e : RUnd) : e.cells.length = 9 := rfl
theorem one_len (i : Int) : (one i).length = 1 := rfl
theorem two_len (i : ByteArray × ByteArray) : (two i).length = 2 := rfl
theorem sz50 (e : Ent) : (Tryz.prog.info? 50).map (·.size) = some e.cells.length := show _ = some 6 by kernel_rfl
theorem sz113 (e : RKept) : (Tryz.prog.info? 121).map (·.size) = some e.cells.length := show _ = some 7 by kernel_rfl
theorem sz70 (e : RKey) : (Tryz.prog.info? 75).map (·.size) = some e.cells.length := show _ = some 4 by kernel_rfl
theorem sz72 (e : RUnd) : (Tryz.prog.info? 77).map (·.size) = some e.cells.length := show _ = some 9 by kernel_rfl
theorem Ent.one (e : Ent) : ∀ v ∈ e.cells, v.oneCell' = true := by simp [Ent.cells, Value.oneCell']
theorem RKept.one (e : RKept) : ∀ v ∈ e.cells, v.oneCell' = true := by simp [RKept.cells, Value.oneCell']
theorem RKey.one (e : RKey) : ∀ v ∈ e.cells, v.oneCell' = true := by simp [RKey.cells, Value.oneCell']
theorem RUnd.one (e : RUnd) : ∀ v ∈ e.cells, v.oneCell' = true := by simp [RUnd.cells, Value.oneCell']

variable {w w' : World} {F G : Nat → Prop} {b : Nat} {Y : RS}
theorem RIn.kept (h : RIn w F b Y) (k : Kept G w w') (hd : ∀ i, F i → ¬ G i) : RIn w' F b Y := by
  obtain ⟨h8, vA, vK, vS, vO, vN, h⟩ := h
  exact ⟨h8, vA, vK, vS, vO, vN, h.kept k hd⟩
theorem RIn.low (h : RIn w F b Y) (k : Low w.heap.size w w') : RIn w' F b Y := h.kept k.kept (fun _ _ f => f)
theorem RIn.alloc (h : RIn w F b Y) (o : Obj) : RIn (w.alloc o) F b Y := h.low ((Low.refl _ w).alloc (Nat.le_refl _) o)
theorem RIn.drew (h : RIn w F b Y) : RIn w.drew F b Y := h.low (Low.refl _ w).drew
theorem RIn.lt (h : RIn w F b Y) : b < w.heap.size := by
  obtain ⟨h8, vA, vK, vS, vO, vN, h⟩ := h
  exact h.lt
theorem RIn.below (h : RIn w F b Y) : ∀ k, F k → k < w.heap.size := by
  obtain ⟨h8, vA, vK, vS, vO, vN, h⟩ := h
  exact h.below

/-- A slice of the struct: what its cell tells, and where its elements lie. -/
def Sl (w : World) (b off k : Nat) (ls : List (List Value)) : Prop :=
  ∃ a cap, w.cell? ⟨b, off, none⟩ = some (.slice a ls.length cap) ∧ ∀ i cs, ls[i]? = some cs → ∃ g, a = some ⟨g, 0, none⟩ ∧ g < w.heap.size ∧ (∀ j, j < k → w.cell? ⟨g, i * k + j, none⟩ = cs[j]?) ∧ ∀ j, w.frozen? ⟨g, j, none⟩ = false
theorem Own.sl {t : TypeId} {C : List Value} {R : List Row} (h : Own w F b t C R) (j : Nat) {off : Nat} {e : TypeId} {k : Nat} {α : Type} {l : List α} {f : α → List Value} (hf : ∀ x, (f x).length = k)
    (hj : R[j]? = some ⟨off, e, k, l.length, l.flatMap f⟩) : Sl w b off k (l.map f) := by
  obtain ⟨v, hv, ho, _⟩ := h.row j hj
  obtain ⟨a, cap, rfl, _, hg⟩ := ownsRow_view ho
  refine ⟨a, cap, by rw [h.cell]; simpa using hv, fun i cs hi => ?_⟩
  obtain ⟨x, hx, rfl⟩ : ∃ x, l[i]? = some x ∧ f x = cs := by simpa using hi
  have hil : i < l.length := (List.getElem?_eq_some_iff.1 hx).1
  obtain ⟨g, rfl, hlt, hc, hfz⟩ := hg (Nat.zero_lt_of_lt hil)
  refine ⟨g, rfl, hlt, fun q hq => ?_, hfz⟩
  have : (i + 1) * k ≤ l.length * k := Nat.mul_le_mul_right _ hil
  rw [Nat.add_mul] at this
  rw [hc (i * k + q) (show i * k + q < l.length * k by omega)]
  exact flat_at k f hf l i q x hx hq
theorem RIn.all (h : RIn w F b Y) : Sl w b 3 7 (Y.all.map RKept.cells) := by
  obtain ⟨h8, vA, vK, vS, vO, vN, h⟩ := h
  exact h.sl 0 RKept.len rfl
theorem RIn.keys (h : RIn w F b Y) : Sl w b 4 4 (Y.keys.map RKey.cells) := by
  obtain ⟨h8, vA, vK, vS, vO, vN, h⟩ := h
  exact h.sl 1 RKey.len rfl
theorem RIn.seen (h : RIn w F b Y) : Sl w b 5 1 (Y.seen.map YtphapknfkbgapaaGreatDoor.one) := by
  obtain ⟨h8, vA, vK, vS, vO, vN, h⟩ := h
  exact h.sl 2 one_len rfl
theorem RIn.ops (h : RIn w F b Y) : Sl w b 6 9 (Y.ops.map RUnd.cells) := by
  obtain ⟨h8, vA, vK, vS, vO, vN, h⟩ := h
  exact h.sl 3 RUnd.len rfl
theorem RIn.needs (h : RIn w F b Y) : Sl w b 19 2 (Y.needs.map two) := by
  obtain ⟨h8, vA, vK, vS, vO, vN, h⟩ := h
  exact h.sl 4 two_len rfl
theorem RIn.room (h : RIn w F b Y) : w.cell? ⟨b, 1, none⟩ = some (.int .i64 Y.room) := by
  obtain ⟨h8, vA, vK, vS, vO, vN, h⟩ := h
  exact h.cell 1
theorem RIn.epoch (h : RIn w F b Y) : w.cell? ⟨b, 7, none⟩ = some (.int .i64 Y.epoch) := by
  obtain ⟨h8, vA, vK, vS, vO, vN, h⟩ := h
  exact h.cell 7
theorem RIn.floor (h : RIn w F b Y) : w.cell? ⟨b, 8, none⟩ = some (.int .i64 Y.floor) := by
  obtain ⟨h8, vA, vK, vS, vO, vN, h⟩ := h
  exact h.cell 8
theorem RIn.draws (h : RIn w F b Y) : w.cell? ⟨b, 9, none⟩ = some (.int .i64 Y.draws) := by
  obtain ⟨h8, vA, vK, vS, vO, vN, h⟩ := h
  exact h.cell 9
theorem RIn.turn (h : RIn w F b Y) : w.cell? ⟨b, 10, none⟩ = some (.int .i64 Y.turn) := by
  obtain ⟨h8, vA, vK, vS, vO, vN, h⟩ := h
  exact h.cell 10
theorem range_of {w : World} {g o k : Nat} {cs vs : List Value} (hc : ∀ j, j < k → w.cell? ⟨g, o + j, none⟩ = cs[j]?) (hv : ∀ j v, vs[j]? = some v → j < k ∧ cs[j]? = some v) : w.rangeAt g o vs := fun j v e => by
  rw [hc j (hv j v e).1]; exact (hv j v e).2
theorem RKept.entry {w : World} {g o : Nat} {k : RKept} (hc : ∀ j, j < 7 → w.cell? ⟨g, o + j, none⟩ = k.cells[j]?) : w.rangeAt g o k.e.cells := range_of hc (fun j v e => by
  have hj : j < 6 := (List.getElem?_eq_some_iff.1 e).1
  refine ⟨by omega, ?_⟩
  have : j = 0 ∨ j = 1 ∨ j = 2 ∨ j = 3 ∨ j = 4 ∨ j = 5 := by omega
  rcases this with rfl | rfl | rfl | rfl | rfl | rfl <;> exact e)

/-! Loads and stores of the structs, whole. -/
theorem ld50 {ops : Array Oper} {rest : List Oper} {d : Option Tmp} {t0 : TypeId} {pos : String} {after : Array Edge} {a : Act} {w : World} {Q : Exit → Act → World → Prop} (x : Operand) (b o : Nat) (e : Ent)
    (hx : a.eval x = .pointer (some ⟨b, o, none⟩)) (hc : w.rangeAt b o e.cells) (h : wpList Tryz.prog ops Q rest (a.put d (.agg e.cells.toArray)) w) :
    wpList Tryz.prog ops Q ({ dst := d, op := .load 50 x, type := t0, pos := pos, after := after, guard := none } :: rest) a w :=
  ldAny 50 x b o e.cells _ hx hc Tryz.underlying50 rfl (sz50 e) h
theorem st50 {ops : Array Oper} {rest : List Oper} {d : Option Tmp} {t0 : TypeId} {pos : String} {after : Array Edge} {a : Act} {w : World} {Q : Exit → Act → World → Prop} (x y : Operand) (b : Nat) (old e : Ent)
    (hx : a.eval x = .pointer (some ⟨b, 0, none⟩)) (hy : a.eval y = .agg e.cells.toArray) (hB : Blk w b 50 old.cells)
    (h : ∀ w', Blk w' b 50 e.cells → Kept (fun k => k = b) w w' → w'.heap.size = w.heap.size → wpList Tryz.prog ops Q rest (a.put d undef) w') :
    wpList Tryz.prog ops Q ({ dst := d, op := .store 50 x y, type := t0, pos := pos, after := after, guard := none } :: rest) a w :=
  stBlk 50 x y b 50 old.cells e.cells hx hy hB rfl (sz50 e) e.one h

theorem RS.offs (Y : RS) (j : Nat) {r : Row} (hj : Y.rows[j]? = some r) : ∀ i s, Y.rows[i]? = some s → i ≠ j → s.off ≠ r.off := by
  intro i s hi hne e
  have hm : Y.rows.map Row.off = [3, 4, 5, 6, 19] := rfl
  have a1 : ([3, 4, 5, 6, 19] : List Nat)[i]? = some s.off := by rw [← hm, List.getElem?_map, hi]; rfl
  have a2 : ([3, 4, 5, 6, 19] : List Nat)[j]? = some r.off := by rw [← hm, List.getElem?_map, hj]; rfl
  rw [e] at a1
  exact hne ((List.getElem?_inj (List.getElem?_eq_some_iff.1 a1).1 (by decide)).1 (a1.trans a2.symm))

theorem RIn.vals (h : RIn w F b Y) : ∃ vA vK vS vO vN, Own w F b 73 (Y.cells vA vK vS vO vN) Y.rows ∧ w.cell? ⟨b, 3, none⟩ = some vA ∧ w.cell? ⟨b, 4, none⟩ = some vK ∧ w.cell? ⟨b, 5, none⟩ = some vS ∧ w.cell? ⟨b, 6, none⟩ = some vO := by
  obtain ⟨h8, vA, vK, vS, vO, vN, h⟩ := h
  exact ⟨vA, vK, vS, vO, vN, h, h.cell 3, h.cell 4, h.cell 5, h.cell 6⟩
theorem RIn.putSeen (h : RIn w F b Y) {g cap : Nat} (hc : w.cell? ⟨b, 5, none⟩ = some (.slice (some ⟨g, 0, none⟩) Y.seen.length cap)) (i : Nat) (hi : i < Y.seen.length) (v : Int) :
    RIn (w.setCell ⟨g, i, none⟩ (.int .i64 v)) F b { Y with seen := Y.seen.set i v } ∧ Kept F w (w.setCell ⟨g, i, none⟩ (.int .i64 v)) ∧ w.there g i 1 := by
  obtain ⟨vA, vK, vS, vO, vN, hO, c3, c4, c5, c6⟩ := h.vals
  obtain rfl : vS = _ := Option.some.inj (c5.symm.trans hc)
  obtain ⟨q1, q2, q3⟩ := hO.elem 2 one_len rfl rfl i hi v
  rw [Nat.mul_one] at q1 q2 q3
  exact ⟨⟨h.1, vA, vK, _, vO, vN, q1.cast rfl (by simp [RS.rows])⟩, q2, q3⟩
theorem RIn.putOp (h : RIn w F b Y) {g cap : Nat} (hc : w.cell? ⟨b, 6, none⟩ = some (.slice (some ⟨g, 0, none⟩) Y.ops.length cap)) (i : Nat) (hi : i < Y.ops.length) (u : RUnd) :
    RIn (w.setCells g (i * 9) u.cells) F b { Y with ops := Y.ops.set i u } ∧ Kept F w (w.setCells g (i * 9) u.cells) ∧ w.there g (i * 9) 9 := by
  obtain ⟨vA, vK, vS, vO, vN, hO, c3, c4, c5, c6⟩ := h.vals
  obtain rfl : vO = _ := Option.some.inj (c6.symm.trans hc)
  obtain ⟨q1, q2, q3⟩ := hO.elem 3 RUnd.len rfl rfl i hi u
  exact ⟨⟨h.1, vA, vK, vS, _, vN, q1.cast rfl (by simp [RS.rows])⟩, q2, q3⟩
theorem st72 {ops : Array Oper} {rest : List Oper} {d : Option Tmp} {t0 : TypeId} {pos : String} {after : Array Edge} {a : Act} {w : World} {Q : Exit → Act → World → Prop} (x y : Operand) (g o : Nat) (u : RUnd)
    (hx : a.eval x = .pointer (some ⟨g, o, none⟩)) (hy : a.eval y = .agg u.cells.toArray) (ht : w.there g o 9)
    (h : wpList Tryz.prog ops Q rest (a.put d undef) (w.setCells g o u.cells)) :
    wpList Tryz.prog ops Q ({ dst := d, op := .store 77 x y, type := t0, pos := pos, after := after, guard := none } :: rest) a w :=
  stAny 77 x y g o u.cells hx hy ht (sz72 u) u.one h
theorem ld72 {ops : Array Oper} {rest : List Oper} {d : Option Tmp} {t0 : TypeId} {pos : String} {after : Array Edge} {a : Act} {w : World} {Q : Exit → Act → World → Prop} (x : Operand) (b o : Nat) (e : RUnd)
    (hx : a.eval x = .pointer (some ⟨b, o, none⟩)) (hc : w.rangeAt b o e.cells) (h : wpList Tryz.prog ops Q rest (a.put d (.agg e.cells.toArray)) w) :
    wpList Tryz.prog ops Q ({ dst := d, op := .load 77 x, type := t0, pos := pos, after := after, guard := none } :: rest) a w :=
  ldAny 77 x b o e.cells _ hx hc Tryz.underlying77 rfl (sz72 e) h
end Go.Proofs.YtphapknfkbgapaaGreatDoor
namespace Go.Proofs.YtphapknfkbgapaaGreatDoor
open Go.RowKit

variable {F : Nat → Prop} {b : Nat} {Y : RS}

def isSrv (n : Nat) (s : Int) : Bool := decide (0 ≤ s) && decide (s < (n : Int))
theorem server_any (w : World) (s : Int) (h : RIn w F b Y) :
    Calls Tryz.prog 61 #[.pointer (some ⟨b, 0, none⟩), .int .i64 s] w fun e w' => e = .returned (.bool (isSrv Y.seen.length s)) ∧ w' = w := by
  obtain ⟨a, cap, hc, _⟩ := h.seen
  rw [List.length_map] at hc
  by_cases h1 : 0 ≤ s
  · have q1 : decide (0 ≤ s) = true := by simp; omega
    go_enter Tryz.func61, Tryz.ntmps61
    go_wp2
    go_ret
    exact ⟨by simp [isSrv, q1], rfl⟩
  · have q1 : decide (0 ≤ s) = false := by simp; omega
    go_enter Tryz.func61, Tryz.ntmps61
    go_wp2
    go_ret
    exact ⟨by simp [isSrv, q1], rfl⟩

/-- The number of the last key that wrote in an epoch. -/
def writesR (ks : List RKey) (ep : Int) : Int := match ks with
  | [] => 0
  | k :: r => if decide (0 < k.writes) && decide (k.writes ≤ ep) then (r.length + 1 : Int) else writesR r ep
def writesOf (ks : List RKey) (ep : Int) : Int := writesR ks.reverse ep
theorem writesOf_snoc (l : List RKey) (k : RKey) (ep : Int) : writesOf (l ++ [k]) ep = if decide (0 < k.writes) && decide (k.writes ≤ ep) then (l.length + 1 : Int) else writesOf l ep := by
  simp [writesOf, writesR]
theorem take_snoc {α : Type} {l : List α} {i : Nat} {x : α} (h : l[i]? = some x) : l.take (i + 1) = l.take i ++ [x] := by
  rw [List.take_add_one, h]; rfl
set_option maxHeartbeats 400000 in
theorem writes_any (w : World) (ep : Int) (h : RIn w F b Y) (hk : Y.keys.length ≤ 6) :
    Calls Tryz.prog 65 #[.pointer (some ⟨b, 0, none⟩), .int .i64 ep] w fun e w' => e = .returned (.int .i64 (writesOf Y.keys ep)) ∧ w' = w := by
  obtain ⟨a, cap, hc, hel⟩ := h.keys
  rw [List.length_map] at hc
  have HEL := hid hel
  clear hel
  go_enter Tryz.func65, Tryz.ntmps65
  go_wp2
  go_loopw [5, 6] (fun kv iv wr => ∃ i : Nat, i ≤ Y.keys.length ∧ kv = .int .i64 (writesOf (Y.keys.take i) ep) ∧ iv = .int .i64 (i : Int) ∧ w = wr) (fun _ iv _ => Y.keys.length - (intOf iv).toNat)
  case atStart => exact ⟨0, Nat.zero_le _, rfl, rfl, rfl⟩
  case round =>
    obtain ⟨i, hi, rfl, rfl, rfl⟩ := hrel
    by_cases h1 : i < Y.keys.length
    · have q1 : decide ((i : Int) < (Y.keys.length : Int)) = true := by simp; omega
      obtain ⟨k, hk2⟩ : ∃ k, Y.keys[i]? = some k := ⟨_, List.getElem?_eq_getElem h1⟩
      obtain ⟨g, rfl, hg, hcs, _⟩ := HEL.out i k.cells (by simp [hk2])
      have c2 : w.cell? ⟨g, i * 4 + 2, none⟩ = some (.int .i64 k.writes) := hcs 2 (by omega)
      have HS := hid (writesOf_snoc (Y.keys.take i) k ep)
      have HT := hid (take_snoc hk2)
      have hlt : (Y.keys.take i).length = i := by simp; omega
      have HL := hid hlt
      clear hcs hk2 hlt
      cases q3 : decide (0 < k.writes)
      · go_wp2_with fail
        go_roundw
        case rel => exact ⟨i + 1, by omega, by rw [HT.out, HS.out, q3]; rfl, by simp, by trivial⟩
        case measure => simp [intOf]; omega
      · cases q4 : decide (k.writes ≤ ep)
        · go_wp2_with fail
          go_roundw
          case rel => exact ⟨i + 1, by omega, by rw [HT.out, HS.out, q3, q4]; rfl, by simp, by trivial⟩
          case measure => simp [intOf]; omega
        · go_wp2_with fail
          go_roundw
          case rel => exact ⟨i + 1, by omega, by rw [HT.out, HS.out, q3, q4, HL.out]; rfl, by simp, by trivial⟩
          case measure => simp [intOf]; omega
    · have q1 : decide ((i : Int) < (Y.keys.length : Int)) = false := by simp; omega
      obtain rfl : i = Y.keys.length := by omega
      go_wp2_with fail
      go_ret
      exact ⟨by rw [List.take_length]; rfl, rfl⟩

/-- The greatest of the epochs in which a key but the first began to write. -/
def promR (ks : List RKey) : Int := match ks with
  | [] => 0
  | k :: r => if decide (promR r < k.writes) then k.writes else promR r
def promOf (ks : List RKey) : Int := promR (ks.drop 1).reverse
theorem promR_snoc (l : List RKey) (k : RKey) : promR (l ++ [k]).reverse = if decide (promR l.reverse < k.writes) then k.writes else promR l.reverse := by
  simp [promR]
set_option maxHeartbeats 400000 in
theorem promoted_any (w : World) (h : RIn w F b Y) (hk : Y.keys.length ≤ 6) (hk1 : 1 ≤ Y.keys.length) :
    Calls Tryz.prog 69 #[.pointer (some ⟨b, 0, none⟩)] w fun e w' => e = .returned (.int .i64 (promOf Y.keys)) ∧ w' = w := by
  obtain ⟨a, cap, hc, hel⟩ := h.keys
  rw [List.length_map] at hc
  have HEL := hid hel
  clear hel
  go_enter Tryz.func69, Tryz.ntmps69
  go_wp2
  go_loopw [3, 4] (fun kv iv wr => ∃ i : Nat, i + 1 ≤ Y.keys.length ∧ kv = .int .i64 (promR ((Y.keys.drop 1).take i).reverse) ∧ iv = .int .i64 ((i : Int) + 1) ∧ w = wr) (fun _ iv _ => Y.keys.length - (intOf iv).toNat)
  case atStart => exact ⟨0, by omega, rfl, rfl, rfl⟩
  case round =>
    obtain ⟨i, hi, rfl, rfl, rfl⟩ := hrel
    generalize hM : promR ((Y.keys.drop 1).take i).reverse = M
    have HM := hid hM
    clear hM
    by_cases h1 : i + 1 < Y.keys.length
    · have q1 : decide ((i : Int) + 1 < (Y.keys.length : Int)) = true := by simp; omega
      obtain ⟨k, hk2⟩ : ∃ k, Y.keys[i + 1]? = some k := ⟨_, List.getElem?_eq_getElem h1⟩
      obtain ⟨g, rfl, hg, hcs, _⟩ := HEL.out (i + 1) k.cells (by simp [hk2])
      have c2 : w.cell? ⟨g, (i + 1) * 4 + 2, none⟩ = some (.int .i64 k.writes) := hcs 2 (by omega)
      have HS := hid (promR_snoc ((Y.keys.drop 1).take i) k)
      have HT := hid (take_snoc (l := Y.keys.drop 1) (i := i) (x := k) (by rw [List.getElem?_drop, Nat.add_comm]; exact hk2))
      clear hcs hk2
      cases q3 : decide (M < k.writes)
      · go_wp2_with fail
        go_roundw
        case rel => exact ⟨i + 1, by omega, by rw [HT.out, HS.out, HM.out, q3]; rfl, by simp, by trivial⟩
        case measure => simp [intOf]; omega
      · go_wp2_with fail
        go_roundw
        case rel => exact ⟨i + 1, by omega, by rw [HT.out, HS.out, HM.out, q3]; rfl, by simp, by trivial⟩
        case measure => simp [intOf]; omega
    · have q1 : decide ((i : Int) + 1 < (Y.keys.length : Int)) = false := by simp; omega
      have hE : Hid (promOf Y.keys = M) := by
        show promOf Y.keys = M
        rw [← HM.out, promOf, List.take_of_length_le (by simp; omega)]
      go_wp2_with fail
      go_ret
      exact ⟨by rw [hE.out]; rfl, rfl⟩
end Go.Proofs.YtphapknfkbgapaaGreatDoor
