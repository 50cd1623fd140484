import Derived.Test.YtphapknfkbgapabDoorMem
namespace Go.Proofs.YtphapknfkbgapabDoor
open Go.RowKit

/-! A struct in memory with slices of its own. -/

/-- A slice of an object: which cell of the struct holds it; its elements' type and how many cells each has; how many elements; their cells. -/
structure Row where
  off : Nat
  e : TypeId
  size : Nat
  n : Nat
  xs : List Value

/-- In block b lies a struct with the cells C; the rows R are its own; all lies in blocks of F. -/
structure Own (w : World) (F : Nat → Prop) (b : Nat) (t : TypeId) (C : List Value) (R : List Row) : Prop where
  blk : Blk w b t C
  inF : F b
  below : ∀ k, F k → k < w.heap.size
  rows : ∃ τ : Nat → Nat, τ b = 0 ∧ ∀ j r, R[j]? = some r → ∃ v, C[r.off]? = some v ∧ w.ownsRow 0 r.e r.size v r.n r.xs ∧ ∀ k, v.ownBlock = some k → F k ∧ τ k = j + 1

/-- F, and the blocks that have come. -/
def grow (F : Nat → Prop) (w w' : World) : Nat → Prop := fun k => F k ∨ (w.heap.size ≤ k ∧ k < w'.heap.size)

theorem ownsRow_at {w w' : World} {e : TypeId} {size : Nat} {v : Value} {n : Nat} {xs : List Value} (h : w.ownsRow 0 e size v n xs) (hb : ∀ k, v.ownBlock = some k → w'.heap[k]? = w.heap[k]?) : w'.ownsRow 0 e size v n xs := by
  refine ⟨h.1, ?_⟩
  rcases h.2 with hn | ⟨g, cap, cur, rfl, hb0, hgg, rest⟩
  · exact Or.inl hn
  · exact Or.inr ⟨g, cap, cur, rfl, hb0, (hb g rfl).trans hgg, rest⟩

variable {w w' : World} {F G : Nat → Prop} {b : Nat} {t : TypeId} {C : List Value} {R : List Row}

theorem Own.cell (h : Own w F b t C R) (i : Nat) : w.cell? ⟨b, i, none⟩ = C[i]? := h.blk.cell i
theorem Own.frozen (h : Own w F b t C R) (i : Nat) : w.frozen? ⟨b, i, none⟩ = false := h.blk.frozen i
theorem Own.lt (h : Own w F b t C R) : b < w.heap.size := h.blk.lt
/-- What touches no block of the object leaves it. -/
theorem Own.kept (h : Own w F b t C R) (k : Kept G w w') (hd : ∀ i, F i → ¬ G i) : Own w' F b t C R := by
  refine ⟨h.blk.kept k (hd _ h.inF), h.inF, fun i hi => Nat.lt_of_lt_of_le (h.below i hi) k.size, ?_⟩
  obtain ⟨τ, t0, hr⟩ := h.rows
  refine ⟨τ, t0, fun j r hj => ?_⟩
  obtain ⟨v, hv, ho, hb⟩ := hr j r hj
  exact ⟨v, hv, ownsRow_at ho (fun q hq => k.block q (h.below q (hb q hq).1) (hd q (hb q hq).1)), hb⟩
theorem Own.low (h : Own w F b t C R) (k : Low w.heap.size w w') : Own w' F b t C R := h.kept k.kept (fun _ _ f => f)
theorem Own.alloc (h : Own w F b t C R) (o : Obj) : Own (w.alloc o) F b t C R := h.low ((Low.refl _ w).alloc (Nat.le_refl _) o)
theorem Own.more (h : Own w F b t C R) (hs : ∀ k, F k → G k) (hb : ∀ k, G k → k < w.heap.size) : Own w G b t C R := by
  obtain ⟨τ, t0, hr⟩ := h.rows
  exact ⟨h.blk, hs _ h.inF, hb, τ, t0, fun j r hj => by
    obtain ⟨v, hv, ho, hk⟩ := hr j r hj
    exact ⟨v, hv, ho, fun k e => ⟨hs k (hk k e).1, (hk k e).2⟩⟩⟩
/-- A number, a text, a flag of the struct is written. -/
theorem Own.set (h : Own w F b t C R) (i : Nat) (v : Value) (hi : ∀ r ∈ R, r.off ≠ i) : Own (w.setCell ⟨b, i, none⟩ v) F b t (C.set i v) R := by
  obtain ⟨τ, t0, hr⟩ := h.rows
  refine ⟨h.blk.set i v, h.inF, fun k hk => by simpa using h.below k hk, τ, t0, fun j r hj => ?_⟩
  obtain ⟨u, hu, ho, hk⟩ := hr j r hj
  refine ⟨u, ?_, ownsRow_at ho (fun k e => Below.heap_setCell _ _ _ _ (fun q => ?_)), hk⟩
  · rw [List.getElem?_set_ne (fun q => hi r (List.mem_of_getElem? hj) q.symm)]; exact hu
  · have h1 := (hk k e).2
    have q' : k = b := q
    rw [q', t0] at h1; omega
theorem setCell_kept (w : World) (a : Addr) (v : Value) : Kept (fun k => k = a.block) w (w.setCell a v) := ⟨rfl, rfl, by simp, fun _ _ hk => Below.heap_setCell _ _ _ _ hk⟩
/-- A row, as it lies. -/
theorem Own.row (h : Own w F b t C R) (j : Nat) {r : Row} (hj : R[j]? = some r) : ∃ v, C[r.off]? = some v ∧ w.ownsRow 0 r.e r.size v r.n r.xs ∧ (∀ k, v.ownBlock = some k → F k) := by
  obtain ⟨τ, t0, hr⟩ := h.rows
  obtain ⟨v, hv, ho, hk⟩ := hr j r hj
  exact ⟨v, hv, ho, fun k e => (hk k e).1⟩
/-- A row does not lie in the struct's own block. -/
theorem Own.apart (h : Own w F b t C R) (j : Nat) {r : Row} (hj : R[j]? = some r) {v : Value} (hv : C[r.off]? = some v) : v.ownBlock ≠ some b := by
  obtain ⟨τ, t0, hr⟩ := h.rows
  obtain ⟨v0, hv0, _, hk⟩ := hr j r hj
  obtain rfl : v0 = v := Option.some.inj (hv0.symm.trans hv)
  intro e
  have := (hk b e).2
  omega
/-- A row's cells are written. -/
theorem Own.rowSet (h : Own w F b t C R) (j : Nat) {r : Row} (hj : R[j]? = some r) {v : Value} (hv : C[r.off]? = some v) (k : Kept (fun q => v.ownBlock = some q) w w') {xs : List Value} (ho : w'.ownsRow 0 r.e r.size v r.n xs) :
    Own w' F b t C (R.set j { r with xs := xs }) := by
  obtain ⟨τ, t0, hr⟩ := h.rows
  obtain ⟨v0, hv0, ho0, hk0⟩ := hr j r hj
  obtain rfl : v0 = v := Option.some.inj (hv0.symm.trans hv)
  have hjl : j < R.length := (List.getElem?_eq_some_iff.1 hj).1
  refine ⟨h.blk.kept k (fun e => by have := (hk0 b e).2; omega), h.inF, fun i hi => Nat.lt_of_lt_of_le (h.below i hi) k.size, τ, t0, fun i s hi => ?_⟩
  by_cases e : i = j
  · subst e
    rw [List.getElem?_set_self hjl] at hi
    obtain rfl := (Option.some.inj hi).symm
    exact ⟨v0, hv, ho, hk0⟩
  · rw [List.getElem?_set_ne (fun q => e q.symm)] at hi
    obtain ⟨u, hu, hou, hku⟩ := hr i s hi
    refine ⟨u, hu, ownsRow_at hou (fun q hq => k.block q (h.below q (hku q hq).1) (fun e2 => ?_)), hku⟩
    have a1 := (hku q hq).2
    have a2 := (hk0 q e2).2
    omega
/-- A row is another one now, where it was or in a new block, and the struct tells it. -/
theorem Own.rowNew (h : Own w F b t C R) (j : Nat) {r : Row} (hj : R[j]? = some r) {v : Value} (hv : C[r.off]? = some v) (k : Kept (fun q => v.ownBlock = some q) w w') {v' : Value} {n : Nat} {xs : List Value}
    (ho : w'.ownsRow 0 r.e r.size v' n xs) (hw : v'.ownBlock = v.ownBlock ∨ ∀ q, v'.ownBlock = some q → w.heap.size ≤ q) (hoff : ∀ i s, R[i]? = some s → i ≠ j → s.off ≠ r.off) :
    Own (w'.setCell ⟨b, r.off, none⟩ v') (grow F w w') b t (C.set r.off v') (R.set j { r with n := n, xs := xs }) := by
  obtain ⟨τ, t0, hr⟩ := h.rows
  obtain ⟨v0, hv0, ho0, hk0⟩ := hr j r hj
  obtain rfl : v0 = v := Option.some.inj (hv0.symm.trans hv)
  have hjl : j < R.length := (List.getElem?_eq_some_iff.1 hj).1
  have hol : r.off < C.length := (List.getElem?_eq_some_iff.1 hv).1
  have hbk : Blk w' b t C := h.blk.kept k (fun e => by have := (hk0 b e).2; omega)
  have hlt' := fun q e => (ho.lt q e).2
  have hbl := h.lt
  refine ⟨hbk.set _ _, Or.inl h.inF, fun i hi => ?_, fun q => if w.heap.size ≤ q then j + 1 else τ q, ?_, fun i s hi => ?_⟩
  · rcases hi with hi | hi
    · simpa using Nat.lt_of_lt_of_le (h.below i hi) k.size
    · simpa using hi.2
  · show (if w.heap.size ≤ b then j + 1 else τ b) = 0
    rw [if_neg (by omega)]; exact t0
  · by_cases e : i = j
    · subst e
      rw [List.getElem?_set_self hjl] at hi
      obtain rfl := (Option.some.inj hi).symm
      have hplace : ∀ q, v'.ownBlock = some q → grow F w w' q ∧ (if w.heap.size ≤ q then i + 1 else τ q) = i + 1 ∧ q ≠ b := by
        intro q hq
        rcases hw with hw | hw
        · rw [hw] at hq
          have h3 := hk0 q hq
          have h4 := h.below q h3.1
          refine ⟨Or.inl h3.1, by rw [if_neg (by omega)]; exact h3.2, fun e => ?_⟩
          rw [e, t0] at h3; omega
        · have h3 := hw q hq
          exact ⟨Or.inr ⟨h3, hlt' q hq⟩, by rw [if_pos h3], by omega⟩
      refine ⟨v', List.getElem?_set_self hol, ownsRow_at ho (fun q hq => Below.heap_setCell _ _ _ _ (hplace q hq).2.2), fun q hq => ⟨(hplace q hq).1, (hplace q hq).2.1⟩⟩
    · rw [List.getElem?_set_ne (fun q => e q.symm)] at hi
      obtain ⟨u, hu, hou, hku⟩ := hr i s hi
      refine ⟨u, ?_, ownsRow_at hou (fun q hq => ?_), fun q hq => ⟨Or.inl (hku q hq).1, ?_⟩⟩
      · rw [List.getElem?_set_ne (fun q => hoff i s hi e q.symm)]; exact hu
      · have a1 := hku q hq
        have a3 := h.below q a1.1
        rw [Below.heap_setCell _ _ _ _ (fun (e2 : q = b) => by rw [e2, t0] at a1; omega)]
        exact k.block q a3 (fun e2 => by have a2 := (hk0 q e2).2; omega)
      · have a1 := hku q hq
        have a3 := h.below q a1.1
        show (if w.heap.size ≤ q then j + 1 else τ q) = i + 1
        rw [if_neg (by omega)]; exact a1.2

/-- A slice, whatever it is, in one form. -/
theorem ownsRow_view {e : TypeId} {size : Nat} {v : Value} {n : Nat} {xs : List Value} (h : w.ownsRow 0 e size v n xs) :
    ∃ a cap, v = .slice a n cap ∧ n ≤ cap ∧ (0 < n → ∃ g, a = some ⟨g, 0, none⟩ ∧ g < w.heap.size ∧ (∀ j, j < n * size → w.cell? ⟨g, j, none⟩ = xs[j]?) ∧ ∀ j, w.frozen? ⟨g, j, none⟩ = false) := by
  rcases h.2 with ⟨rfl, rfl⟩ | ⟨g, cap, cur, rfl, _, hg, hn, _⟩
  · exact ⟨none, 0, rfl, Nat.le_refl _, fun h => absurd h (Nat.lt_irrefl _)⟩
  · exact ⟨_, cap, rfl, hn, fun _ => ⟨g, rfl, (Array.getElem?_eq_some_iff.1 hg).1, fun j hj => h.cellAt j hj, fun j => h.frozenAt j⟩⟩

/-- The cells of a list of things of k cells each. -/
theorem flat_length {α : Type} (k : Nat) (f : α → List Value) (hf : ∀ x, (f x).length = k) : ∀ l : List α, (l.flatMap f).length = l.length * k
  | [] => by simp
  | x :: r => by rw [List.flatMap_cons, List.length_append, hf, flat_length k f hf r, List.length_cons, Nat.add_mul]; omega
theorem flat_at {α : Type} (k : Nat) (f : α → List Value) (hf : ∀ x, (f x).length = k) : ∀ (l : List α) (i j : Nat) (x : α), l[i]? = some x → j < k → (l.flatMap f)[i * k + j]? = (f x)[j]?
  | [], i, j, x, h, _ => by simp at h
  | y :: r, 0, j, x, h, hj => by
    obtain rfl : y = x := by simpa using h
    rw [List.flatMap_cons, Nat.zero_mul, Nat.zero_add, List.getElem?_append_left (by rw [hf]; exact hj)]
  | y :: r, i + 1, j, x, h, hj => by
    rw [List.flatMap_cons, List.getElem?_append_right (by rw [hf, Nat.add_mul]; omega), hf, show (i + 1) * k + j - k = i * k + j by rw [Nat.add_mul]; omega]
    exact flat_at k f hf r i j x (by simpa using h) hj
theorem flat_set {α : Type} (k : Nat) (f : α → List Value) (hf : ∀ x, (f x).length = k) (l : List α) (i : Nat) (x : α) (hi : i < l.length) : over (l.flatMap f) (i * k) (f x) = (l.set i x).flatMap f := by
  have hL := flat_length k f hf
  have hle : i * k + k ≤ l.length * k := by rw [← Nat.succ_mul]; exact Nat.mul_le_mul_right _ hi
  apply List.ext_getElem?
  intro q
  rw [over_at _ _ _ _ (by rw [hL, hf]; exact hle), hf]
  by_cases hk : k = 0
  · subst hk
    rw [if_neg (by omega), List.getElem?_eq_none (by rw [hL]; omega), List.getElem?_eq_none (by rw [hL]; omega)]
  by_cases hq : q < l.length * k
  · obtain ⟨a, c, hc, rfl⟩ : ∃ a c, c < k ∧ q = a * k + c := ⟨q / k, q % k, Nat.mod_lt _ (by omega), by rw [Nat.mul_comm]; exact (Nat.div_add_mod q k).symm⟩
    have ha : a < l.length := by
      rcases Nat.lt_or_ge a l.length with h | h
      · exact h
      · have := Nat.mul_le_mul_right k h; omega
    by_cases e : a = i
    · subst e
      rw [if_pos (by omega), Nat.add_sub_cancel_left, flat_at k f hf (l.set a x) a c x (List.getElem?_set_self ha) hc]
    · rw [if_neg (by
        intro ⟨h1, h2⟩
        rcases Nat.lt_or_ge a i with h | h
        · have : (a + 1) * k ≤ i * k := Nat.mul_le_mul_right _ h
          rw [Nat.add_mul] at this; omega
        · have : (i + 1) * k ≤ a * k := Nat.mul_le_mul_right _ (by omega)
          rw [Nat.add_mul] at this; omega), flat_at k f hf l a c l[a] (List.getElem?_eq_getElem ha) hc, flat_at k f hf (l.set i x) a c l[a] (by rw [List.getElem?_set_ne (fun q => e q.symm)]; exact List.getElem?_eq_getElem ha) hc]
  · rw [if_neg (by omega), List.getElem?_eq_none (by rw [hL]; omega), List.getElem?_eq_none (by rw [hL, List.length_set]; omega)]
/-- An element of a row is written whole. -/
theorem ownsRow_over {e : TypeId} {size : Nat} {g n cap : Nat} : ∀ (vs : List Value) (o : Nat) {w : World} {xs : List Value}, w.ownsRow 0 e size (.slice (some ⟨g, 0, none⟩) n cap) n xs →
    (w.setCells g o vs).ownsRow 0 e size (.slice (some ⟨g, 0, none⟩) n cap) n (over xs o vs)
  | [], _, _, _, h => h
  | v :: r, o, _, _, h => ownsRow_over r (o + 1) (h.stored o v).1
theorem ownsRow_there {e : TypeId} {size : Nat} {g n cap : Nat} {xs : List Value} (h : w.ownsRow 0 e size (.slice (some ⟨g, 0, none⟩) n cap) n xs) {o m : Nat} (hm : o + m ≤ n * size) : w.there g o m := fun j hj => by
  refine ⟨?_, h.frozenAt _⟩
  rw [h.cellAt _ (by omega), List.getElem?_eq_getElem (by rw [h.1]; omega)]; rfl

/-- A slice of the call's own, behind an append. -/
theorem append_low {w wr w1 : World} {v v' : Value} {o : Obj} (l0 : Low w.heap.size w wr) (b0 : ∀ k, v.ownBlock = some k → w.heap.size ≤ k) (K : Kept (fun k => v.ownBlock = some k) (wr.alloc o) w1)
    (P : v'.ownBlock = v.ownBlock ∨ v'.ownBlock = some (wr.alloc o).heap.size) : Low w.heap.size w w1 ∧ ∀ q, v'.ownBlock = some q → w.heap.size ≤ q := by
  have hs := l0.size
  have l1 : Low w.heap.size w (wr.alloc o) := l0.alloc hs o
  refine ⟨⟨K.os.trans l1.os, K.output.trans l1.output, Nat.le_trans l1.size K.size, fun q hq => ?_⟩, fun q hq => ?_⟩
  · rw [K.block q (Nat.lt_of_lt_of_le hq l1.size) (fun e => by have := b0 q e; omega)]
    exact l1.block q hq
  · rcases P with e | e
    · exact b0 q (e ▸ hq)
    · rw [e] at hq
      have h2 := Option.some.inj hq
      simp at h2
      omega
theorem flat_snoc {α : Type} (f : α → List Value) (l : List α) (x : α) : (l ++ [x]).flatMap f = l.flatMap f ++ f x := by simp

/-- A row of the object is appended to, and the struct tells the new slice. -/
theorem Own.appended {W w1 : World} (h : Own w F b t C R) (L : Low w.heap.size w W) (j : Nat) {r : Row} (hj : R[j]? = some r) {v : Value} (hv : C[r.off]? = some v) {o : Obj} (k : Kept (fun q => v.ownBlock = some q) (W.alloc o) w1) {v' : Value} {n : Nat} {xs : List Value}
    (ho : w1.ownsRow 0 r.e r.size v' n xs) (P : v'.ownBlock = v.ownBlock ∨ v'.ownBlock = some (W.alloc o).heap.size) (hoff : ∀ i s, R[i]? = some s → i ≠ j → s.off ≠ r.off) :
    Own (w1.setCell ⟨b, r.off, none⟩ v') (grow F w (w1.setCell ⟨b, r.off, none⟩ v')) b t (C.set r.off v') (R.set j { r with n := n, xs := xs }) ∧ Kept F w (w1.setCell ⟨b, r.off, none⟩ v') := by
  have hl : Low w.heap.size w (W.alloc o) := L.alloc L.size o
  have hk : Kept (fun q => v.ownBlock = some q) w w1 := hl.kept.trans k (fun _ f => f.elim) (fun _ _ e => e)
  have hs := L.size
  have hkb : ∀ q, v.ownBlock = some q → F q := by
    obtain ⟨v0, hv0, _, hF⟩ := h.row j hj
    obtain rfl : v0 = v := Option.some.inj (hv0.symm.trans hv)
    exact hF
  have hN := h.rowNew j hj hv hk ho (P.imp id (fun e q hq => by rw [e] at hq; have := Option.some.inj hq; simp at this; omega)) hoff
  refine ⟨hN.more (fun q hq => ?_) (fun q hq => ?_), ?_⟩
  · rcases hq with hq | hq
    · exact Or.inl hq
    · exact Or.inr ⟨hq.1, by simpa using hq.2⟩
  · rcases hq with hq | hq
    · exact hN.below q (Or.inl hq)
    · exact hq.2
  · refine hk.trans (setCell_kept w1 _ v') hkb (fun q _ e => ?_)
    have : q = b := e
    rw [this]; exact h.inF
theorem Own.cast {C' : List Value} {R' : List Row} (h : Own w F b t C R) (hC : C = C') (hR : R = R') : Own w F b t C' R' := by subst hC; subst hR; exact h

/-- An element of a row of the object is written whole. -/
theorem Own.elem (h : Own w F b t C R) (j : Nat) {off : Nat} {e : TypeId} {k : Nat} {α : Type} {l : List α} {f : α → List Value} (hf : ∀ x, (f x).length = k) (hj : R[j]? = some ⟨off, e, k, l.length, l.flatMap f⟩)
    {g cap : Nat} (hv : C[off]? = some (.slice (some ⟨g, 0, none⟩) l.length cap)) (i : Nat) (hi : i < l.length) (x : α) :
    Own (w.setCells g (i * k) (f x)) F b t C (R.set j ⟨off, e, k, l.length, (l.set i x).flatMap f⟩) ∧ Kept F w (w.setCells g (i * k) (f x)) ∧ w.there g (i * k) k := by
  obtain ⟨v0, hv0, ho, hF⟩ := h.row j hj
  obtain rfl : v0 = .slice (some ⟨g, 0, none⟩) l.length cap := Option.some.inj (hv0.symm.trans hv)
  have hle : (i + 1) * k ≤ l.length * k := Nat.mul_le_mul_right _ hi
  rw [Nat.add_mul] at hle
  have hk : Kept (fun q => (Value.slice (some ⟨g, 0, none⟩) l.length cap).ownBlock = some q) w (w.setCells g (i * k) (f x)) :=
    (setCells_kept g (f x) (i * k) w).mono (fun q _ (e : q = g) => by rw [e]; rfl)
  have h2 := h.rowSet j hj hv0 hk (ownsRow_over (f x) (i * k) ho)
  rw [flat_set k f hf l i x hi] at h2
  exact ⟨h2, hk.mono (fun q _ e => hF q e), ownsRow_there ho (by show i * k + k ≤ l.length * k; omega)⟩
end Go.Proofs.YtphapknfkbgapabDoor
