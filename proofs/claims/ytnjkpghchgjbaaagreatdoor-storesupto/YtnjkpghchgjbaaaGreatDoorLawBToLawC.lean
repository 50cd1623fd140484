import Derived.Test.YtnjkpghchgjbaaaGreatDoorRefMToLawA
namespace Go.Proofs.YtnjkpghchgjbaaaGreatDoor
open Go.RowKit

/-! A list that came out is the caller's. -/

/-- A row is another one now; what is owned is told exactly. -/
theorem own_rowNew2 {w w' : World} {F : Nat → Prop} {b : Nat} {t : TypeId} {C : List Value} {r : Row} (h : Own w F b t C [r]) {v : Value} (hv : C[r.off]? = some v) (k : Kept (fun q => v.ownBlock = some q) w w') {v' : Value} {n : Nat} {xs : List Value}
    (ho : w'.ownsRow 0 r.e r.size v' n xs) (hw : v'.ownBlock = v.ownBlock ∨ ∀ q, v'.ownBlock = some q → w.heap.size ≤ q) :
    Own (w'.setCell ⟨b, r.off, none⟩ v') (fun q => F q ∨ v'.ownBlock = some q) b t (C.set r.off v') [{ r with n := n, xs := xs }] := by
  have h1 := h.rowNew 0 rfl hv k ho hw (fun i s hi hne => by
    have : i < 1 := (List.getElem?_eq_some_iff.1 hi).1
    omega)
  have hne := h.apart 0 rfl hv
  have hb := h.lt
  have hvb : v'.ownBlock ≠ some b := by
    rcases hw with e | e
    · rw [e]; exact hne
    · intro q; have := e b q; omega
  refine ⟨h1.blk, Or.inl h.inF, fun q hq => ?_, fun q => if q = b then 0 else 1, by simp, fun j s hj => ?_⟩
  · rcases hq with hq | hq
    · exact h1.below q (Or.inl hq)
    · simpa using (ho.lt q hq).2
  · have hj0 : j = 0 := by
      have : j < 1 := (List.getElem?_eq_some_iff.1 hj).1
      omega
    subst hj0
    obtain rfl := (Option.some.inj hj).symm
    refine ⟨v', List.getElem?_set_self (List.getElem?_eq_some_iff.1 hv).1, ownsRow_at ho (fun q hq => Below.heap_setCell _ _ _ _ (fun e => hvb (by rw [hq]; rw [show q = b from e]))), fun q hq => ⟨Or.inr hq, ?_⟩⟩
    show (if q = b then 0 else 1) = 1
    rw [if_neg (fun e => hvb (by rw [hq, e]))]
theorem info48 : (Tryz.prog.info? 48).map (fun i => (i.zero, i.size, i.bytes)) = some (some (.agg #[.slice none 0 0, .int .i64 0]), 2, 32) := by kernel_rfl
theorem fits_serve (w : World) (k s n q : Int) (p t : ByteArray) (on : Bool) (hk : k < 8 ∨ 16 < k) (parts : Int) :
    Calls Tryz.prog 12 #[.agg #[.int .i64 k, .int .i64 s, .int .i64 n, .int .i64 q, .string p, .string t, .bool on], .int .i64 parts] w fun e w' => e = .returned (.bool true) ∧ Low w.heap.size w w' := by
  have q8 : (k == 8) = false := beq_eq_false_iff_ne.2 (by omega)
  have q9 : (k == 9) = false := beq_eq_false_iff_ne.2 (by omega)
  have q10 : (k == 10) = false := beq_eq_false_iff_ne.2 (by omega)
  have q11 : (k == 11) = false := beq_eq_false_iff_ne.2 (by omega)
  have q12 : (k == 12) = false := beq_eq_false_iff_ne.2 (by omega)
  have q13 : (k == 13) = false := beq_eq_false_iff_ne.2 (by omega)
  have q14 : (k == 14) = false := beq_eq_false_iff_ne.2 (by omega)
  have q15 : (k == 15) = false := beq_eq_false_iff_ne.2 (by omega)
  have q16 : (k == 16) = false := beq_eq_false_iff_ne.2 (by omega)
  clear hk
  go_enter Tryz.func12, Tryz.ntmps12
  go_wp2
  go_ret
  exact ⟨rfl, (Low.refl _ w).alloc (Nat.le_refl _) _⟩
end Go.Proofs.YtnjkpghchgjbaaaGreatDoor
namespace Go.Proofs.YtnjkpghchgjbaaaGreatDoor
open Go.RowKit

section
variable {P : Program} (w : World)
/-- Behind an append the old slice reads as it did. -/
theorem append_old (t ty e : TypeId) (i : TypeInfo) (z : Value) (size bytes : Nat) (ht : P.underlying t = some (.slice e)) (hi : P.info? e = some i) (hz : i.zero = some z)
    (hsize : i.size = size) (hby : i.bytes = bytes) (hzs : z.cells.size = size) (hsz : 0 < size)
    (v : Value) (n : Nat) (xs : List Value) (hown : w.ownsRow 0 e size v n xs)
    (a : Addr) (m c : Nat) (news : List Value) (hl : news.length = m * size) (hnews : ∀ j u, news[j]? = some u → w.cell? (a.add j) = some u) (h1 : ∀ u ∈ news, u.oneCell' = true)
    (h63 : n + m ≤ maxLen) (hbytes : (n + m) * bytes ≤ 140737488355328) (v' : Value) (w' : World)
    (hr : (Builtin.append_ #[t, t] ty #[v, .slice (some a) m c]).run P w = .ok v' w') : w'.ownsRow 0 e size v n xs := by
  subst hsize
  subst hby
  have hsmall : n + m ≤ 9223372036854775807 := by simp only [maxLen] at h63; omega
  have hown0 := hown
  rcases hown.2 with ⟨rfl, rfl⟩ | ⟨g, cap, cur, rfl, hbg, hg, hnc, hcm, hcs, htake⟩
  · have : xs = [] := List.eq_nil_of_length_eq_zero (by simpa using hown.1)
    subst this
    exact World.ownsRow_nil _ _ _ _
  · by_cases hroom : n + m ≤ cap
    · have hfit : n * i.size + news.length ≤ cur.size := by rw [hl, hcs, ← Nat.add_mul]; exact Nat.mul_le_mul_right _ hroom
      have e2 := run_append_room (P := P) w t ty e i ht hi g n cap cur hg a m c news hl hnews h1 hroom hfit
      rw [e2] at hr
      injection hr with q1 q2
      subst q2
      refine ⟨hown.1, Or.inr ⟨g, cap, _, rfl, hbg, setRow_heap w g cur _ e _ hg, hnc, hcm, ?_, ?_⟩⟩
      · simp only [List.size_toArray, List.length_append, List.length_take, List.length_drop, Array.length_toList]
        omega
      · have hlen : (cur.toList.take (n * i.size)).length = n * i.size := by rw [htake]; exact hown.1
        show List.take (n * i.size) (cur.toList.take (n * i.size) ++ news ++ cur.toList.drop (n * i.size + news.length)) = xs
        rw [List.append_assoc, List.take_append_of_le_length (by omega), List.take_of_length_le (by omega)]
        exact htake
    · have holds : ∀ j u, xs[j]? = some u → w.cell? ((⟨g, 0, none⟩ : Addr).add j) = some u := hown.cells (g := g) rfl
      have e2 := run_append_grow (P := P) w t ty e i z ht hi hz ⟨g, 0, none⟩ n cap xs hown.1 holds a m c news hl hnews (by omega) (by omega) (growslice_fits (by omega) hbytes)
      rw [e2] at hr
      injection hr with q1 q2
      subst q2
      exact World.ownsRow.alloc (w := w.drew) hown0 _
theorem wpList_append_both {ops : Array Oper} {rest : List Oper} {o : Oper} {a : Act} {Q : Exit → Act → World → Prop} (hgd : o.guard = none) (s x : Operand) (t : TypeId)
    (ho : o.op = .call { callee := .builtin .append, args := #[s, x], argTypes := #[t, t] })
    (e : TypeId) (z : Value) (size bytes : Nat) (ht : P.underlying t = some (.slice e)) (hinfo : (P.info? e).map (fun i => (i.zero, i.size, i.bytes)) = some (some z, size, bytes)) (hzs : z.cells.size = size) (hsz : 0 < size)
    (v : Value) (n : Nat) (xs : List Value) (hs : a.eval s = v) (hown : w.ownsRow 0 e size v n xs)
    (ad : Addr) (m c : Nat) (news : List Value) (hx : a.eval x = .slice (some ad) m c) (hl : news.length = m * size) (hnews : ∀ j u, news[j]? = some u → w.cell? (ad.add j) = some u) (h1 : ∀ u ∈ news, u.oneCell' = true)
    (hbytes : n + m ≤ 1000000000 ∧ bytes ≤ 100)
    (h : ∀ v' w', w'.ownsRow 0 e size v' (n + m) (xs ++ news) → Kept (fun k => v.ownBlock = some k) w w' → (v'.ownBlock = v.ownBlock ∨ v'.ownBlock = some w.heap.size) → w'.ownsRow 0 e size v n xs → wpList P ops Q rest (a.put o.dst v') w') : wpList P ops Q (o :: rest) a w := by
  refine wpList_plain hgd fun K hK => ?_
  obtain ⟨i, hi, hz, hsize, hby⟩ := info_parts hinfo
  have h63 : n + m ≤ maxLen := by unfold maxLen; omega
  have hb2 : (n + m) * bytes ≤ 140737488355328 := Nat.le_trans (Nat.mul_le_mul hbytes.1 hbytes.2) (by decide)
  obtain ⟨v', w', hr, h2, h3, _⟩ := run_append_own (P := P) w 0 t o.type e i z size bytes ht hi hz hsize hby hzs hsz v n xs hown ad m c news hl hnews h1 h63 hb2 (Nat.zero_le _)
  have hw := append_where (P := P) w t o.type e i z size bytes ht hi hz hsize hby hzs hsz v n xs hown ad m c news hl hnews h1 h63 hb2 v' w' hr
  have h4 := append_old (P := P) w t o.type e i z size bytes ht hi hz hsize hby hzs hsz v n xs hown ad m c news hl hnews h1 h63 hb2 v' w' hr
  unfold Oper.wp execOp
  simp only [ho, resolve, invoke, builtin, Sem.run_bind, Sem.run_pure, Result.andThen_ok, List.map_toArray, List.map_cons, List.map_nil, hs, hx, hr]
  exact hK _ _ (h v' w' h2 ⟨h3.os, h3.output, h3.size, fun k hk hn => h3.block k hk (fun e => hn e.symm)⟩ hw h4)
end
/-- n marks. -/
def marks (n : Nat) (k : Int) : List Ent := List.replicate n (markE k)
/-- A slice full of marks is one of the caller's lists. -/
theorem out_marks {w : World} {H : Nat → Prop} {v : Value} {n : Nat} {k : Int} (h : w.ownsRow 0 50 6 v n ((marks n k).flatMap Ent.cells)) (hH : ∀ g, v.ownBlock = some g → H g) (k0 : 0 ≤ k) (k1 : k ≤ 1000000000) (hn : n ≤ 1000000) : OutOk w H ⟨v, k⟩ := by
  obtain ⟨a, cap, rfl, _, hg⟩ := ownsRow_view h
  refine ⟨k0, k1, a, n, cap, rfl, hn, fun h0 => ?_⟩
  obtain ⟨g, rfl, hlt, hc, _⟩ := hg h0
  refine ⟨g, rfl, hH g rfl, hlt, fun j hj q u hu => ?_⟩
  have hq : q < 6 := (List.getElem?_eq_some_iff.1 hu).1
  rw [hc (j * 6 + q) (by omega), flat_at 6 Ent.cells Ent.len (marks n k) j q (markE k) (by simp [marks, hj]) hq]
  exact hu
theorem out_more {w : World} {H H' : Nat → Prop} {o : LOut} (h : OutOk w H o) (hs : ∀ g, H g → H' g) : OutOk w H' o := by
  obtain ⟨m0, m1, a, n, cap, hl, hn, hg⟩ := h
  exact ⟨m0, m1, a, n, cap, hl, hn, fun h0 => by obtain ⟨g, ha, hH, r⟩ := hg h0; exact ⟨g, ha, hs g hH, r⟩⟩
theorem out_kept {w w' : World} {H G : Nat → Prop} {o : LOut} (h : OutOk w H o) (k : Kept G w w') (hd : ∀ g, H g → ¬ G g) : OutOk w' H o := by
  obtain ⟨m0, m1, a, n, cap, hl, hn, hg⟩ := h
  refine ⟨m0, m1, a, n, cap, hl, hn, fun h0 => ?_⟩
  obtain ⟨g, ha, hH, hlt, hr⟩ := hg h0
  exact ⟨g, ha, hH, Nat.lt_of_lt_of_le hlt k.size, fun j hj q v hv => k.cell (hr j hj q v hv) (hd g hH)⟩
/-- One more list is told. -/
theorem win_app {w w1 : World} {F : Nat → Prop} {b bx r : Nat} {outs : List LOut} {v v' : Value} {ob : Obj} (h : WIn w F b bx r outs) (hv : w.cell? ⟨b, 2, none⟩ = some v) (k : Kept (fun q => v.ownBlock = some q) (w.alloc ob) w1) (o : LOut)
    (ho : w1.ownsRow 0 48 2 v' (outs.length + 1) (outs.flatMap LOut.cells ++ o.cells)) (P : v'.ownBlock = v.ownBlock ∨ v'.ownBlock = some (w.alloc ob).heap.size) :
    WIn (w1.setCell ⟨b, 2, none⟩ v') (fun q => F q ∨ v'.ownBlock = some q) b bx r (outs ++ [o]) ∧ Kept F w (w1.setCell ⟨b, 2, none⟩ v') ∧ ∀ q, v'.ownBlock = some q → F q ∨ w.heap.size ≤ q := by
  obtain ⟨u, hO⟩ := h
  obtain rfl : u = v := Option.some.inj ((hO.cell 2).symm.trans hv)
  have hk : Kept (fun q => u.ownBlock = some q) w w1 := ((Low.refl _ w).alloc (Nat.le_refl _) ob).kept.trans k (fun _ f => f.elim) (fun _ _ e => e)
  obtain ⟨u2, hu2, _, hF⟩ := hO.row 0 rfl
  obtain rfl : u2 = u := (Option.some.inj hu2).symm
  have hw : v'.ownBlock = u2.ownBlock ∨ ∀ q, v'.ownBlock = some q → w.heap.size ≤ q := P.imp id (fun e q hq => by rw [e] at hq; have := Option.some.inj hq; simp at this; omega)
  have h2 := own_rowNew2 hO rfl hk ho hw
  refine ⟨⟨v', h2.cast rfl (by simp)⟩, hk.trans (setCell_kept w1 ⟨b, 2, none⟩ v') (fun q e => hF q e) (fun q _ e => by rw [show q = b from e]; exact hO.inF), fun q hq => ?_⟩
  rcases hw with e | e
  · exact Or.inl (hF q (by rw [← e]; exact hq))
  · exact Or.inr (e q hq)
theorem win_row {w : World} {F : Nat → Prop} {b bx r : Nat} {outs : List LOut} (h : WIn w F b bx r outs) : ∃ a cap, w.cell? ⟨b, 2, none⟩ = some (.slice a outs.length cap) ∧ w.ownsRow 0 48 2 (.slice a outs.length cap) outs.length (outs.flatMap LOut.cells) ∧ (Value.slice a outs.length cap).ownBlock ≠ some b ∧ w.frozen? ⟨b, 2, none⟩ = false ∧ (∀ q, (Value.slice a outs.length cap).ownBlock = some q → F q) := by
  obtain ⟨u, hO⟩ := h
  obtain ⟨v, hv, ho, hF⟩ := hO.row 0 rfl
  have hn := hO.apart 0 rfl hv
  obtain ⟨a, cap, rfl, _, _⟩ := ownsRow_view ho
  exact ⟨a, cap, by rw [hO.cell]; exact hv, ho, hn, hO.frozen 2, hF⟩
end Go.Proofs.YtnjkpghchgjbaaaGreatDoor
