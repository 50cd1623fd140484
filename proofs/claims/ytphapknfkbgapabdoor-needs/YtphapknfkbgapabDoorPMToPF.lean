import Derived.Test.YtphapknfkbgapabDoorRefBToPH
import Derived.Deep.DeepCutAuto
import Derived.Deep.OwnRows
namespace Go.Proofs.YtphapknfkbgapabDoor
open Go.RowKit

variable {F : Nat → Prop} {b : Nat} {X : PS}

def outl (X : PS) (e : Ent) (rev : Int) : Bool := decide (rev < e.rev) || ((e.rev == (newestOf X.entries e.path rev).rev) && !e.gone)
set_option maxRecDepth 100000 in
set_option maxHeartbeats 1000000 in
theorem outlives_any (w : World) (e : Ent) (rev : Int) (h : XIn w F b X) (hn : X.entries.length ≤ 1000) :
    Calls Tryd.prog 59 #[.pointer (some ⟨b, 0, none⟩), .agg #[.string e.path, .int .i64 e.rev, .int .i64 e.key, .int .i64 e.draw, .string e.sealed, .bool e.gone], .int .i64 rev] w fun r w' => r = .returned (.bool (outl X e rev)) ∧ Low w.heap.size w w' := by
  have HR := hid h
  obtain ⟨E, hE⟩ : ∃ E, newestOf X.entries e.path rev = E := ⟨_, rfl⟩
  have HE := hid hE
  clear h hE
  cases h1 : decide (rev < e.rev)
  · cases h2 : (e.rev == E.rev)
    all_goals
      go_enter Tryd.func59, Tryd.ntmps59
      go_wp2_with (first | (go_at_call 27; refine (newest_any _ _ _ (by exact HR.out.alloc _) hn).mono ?_; rw [HE.out]; rintro r y1 ⟨rfl, l1⟩; have bE : Blk y1 w.heap.size 65 e.cells := (Blk.new w 65 e.cells).low l1 (by simp); have L1 : Hid (Low w.heap.size w y1) := ((Low.refl _ w).alloc (Nat.le_refl _) _).trans (l1.mono (by simp)); have BE := hid bE; clear l1 bE) | ((with_reducible refine st50 (.tmp 7) (.tmp 16) y1.heap.size Ent.zero E ?_ ?_ ?_ ?_); rfl; rfl; exact (Blk.new y1 65 Ent.zero.cells); intro W b2 k2 s2; have m1 : W.cell? ⟨y1.heap.size, 1, none⟩ = some (.int .i64 E.rev) := b2.cell 1; have BW : Blk W w.heap.size 65 e.cells := (BE.out.alloc _).kept k2 (by have := BE.out.lt; omega); have n1 : W.cell? ⟨w.heap.size, 1, none⟩ = some (.int .i64 e.rev) := BW.cell 1; have n5 : W.cell? ⟨w.heap.size, 5, none⟩ = some (.bool e.gone) := BW.cell 5; have LW : Hid (Low w.heap.size w W) := low_set (L1.out.alloc L1.out.size _) k2 L1.out.size (by have := L1.out.size; simp; omega); clear b2 k2 s2 BW))
      go_ret
      exact ⟨by simp [outl, h1, HE.out, h2], LW.out⟩
  · go_enter Tryd.func59, Tryd.ntmps59
    go_wp2_with fail
    go_ret
    exact ⟨by simp [outl, h1], (Low.refl _ w).alloc (Nat.le_refl _) _⟩
def pBadCut (X : PS) (rev : Int) : Bool := decide (rev ≤ X.floor) || decide (X.rev < rev)
set_option maxRecDepth 100000 in
theorem pCompact_no (w : World) (rev : Int) (h : XIn w F b X) (hr : pBadCut X rev = true) :
    Calls Tryd.prog 40 #[.pointer (some ⟨b, 0, none⟩), .int .i64 rev] w fun e w' => e = .returned (.int .i64 15) ∧ w' = w := by
  have c0 := xin_rev h
  have c1 := xin_floor h
  clear h
  cases h1 : decide (rev ≤ X.floor)
  · have h2 : decide (X.rev < rev) = true := by simpa [pBadCut, h1] using hr
    clear hr
    go_enter Tryd.func40, Tryd.ntmps40
    go_wp2_with fail
    go_ret
    exact ⟨rfl, rfl⟩
  · clear hr
    go_enter Tryd.func40, Tryd.ntmps40
    go_wp2_with fail
    go_ret
    exact ⟨rfl, rfl⟩
def PS.compact (X : PS) (rev : Int) : PS := { X with floor := rev, entries := X.entries.filter (fun e => outl X e rev) }
theorem filter_snoc {α : Type} (p : α → Bool) (l : List α) (x : α) : (l ++ [x]).filter p = if p x then l.filter p ++ [x] else l.filter p := by
  rw [List.filter_append]
  cases h : p x <;> simp [h]
theorem xin_newE {w w1 : World} {v v' : Value} {n : List Ent} (h : XIn w F b X) (hv : w.cell? ⟨b, 9, none⟩ = some v) (k : Low w.heap.size w w1) (ho : w1.ownsRow 0 65 6 v' n.length (n.flatMap Ent.cells)) (hw : ∀ q, v'.ownBlock = some q → w.heap.size ≤ q) :
    XIn (w1.setCell ⟨b, 9, none⟩ v') (grow F w w1) b { X with entries := n } ∧ Kept F w (w1.setCell ⟨b, 9, none⟩ v') := by
  obtain ⟨vK, vS, vE, vN, hN, hO⟩ := h
  obtain rfl : vE = v := Option.some.inj ((hO.cell 9).symm.trans hv)
  have q1 := hO.rowNew 2 rfl rfl (k.kept.mono (fun _ _ f => f.elim)) ho (Or.inr hw) (X.offs 2 rfl)
  exact ⟨⟨vK, vS, v', vN, hN, q1.cast rfl (by simp [PS.rows])⟩, k.kept.trans (setCell_kept w1 ⟨b, 9, none⟩ v') (fun _ f => f.elim) (fun q _ e => by rw [show q = b from e]; exact hO.inF)⟩
set_option maxRecDepth 100000 in
set_option maxHeartbeats 1000000 in
theorem pCompact_yes (w : World) (rev : Int) (h : XIn w F b X) (hr : pBadCut X rev = false) (hn : X.entries.length ≤ 1000) :
    Calls Tryd.prog 40 #[.pointer (some ⟨b, 0, none⟩), .int .i64 rev] w fun e w' => e = .returned (.int .i64 0) ∧ XIn w' (grow F w w') b (X.compact rev) ∧ Kept F w w' := by
  have HR := hid h
  have c0 := xin_rev h
  have c1 := xin_floor h
  simp only [pBadCut, Bool.or_eq_false_iff] at hr
  have h1 := hr.1
  have h2 := hr.2
  clear h hr
  go_enter Tryd.func40, Tryd.ntmps40
  go_wp2_with fail
  go_loopg [5, 6] X.entries.length (fun left kv iv wr => ∃ i : Nat, left = X.entries.length - i ∧ i ≤ X.entries.length ∧ iv = .int .i64 (i : Int) ∧ Hid (Low w.heap.size w wr ∧ wr.ownsRow 0 65 6 kv ((X.entries.take i).filter (fun e => outl X e rev)).length (((X.entries.take i).filter (fun e => outl X e rev)).flatMap Ent.cells) ∧ ∀ q, kv.ownBlock = some q → w.heap.size ≤ q))
  case atStart =>
    refine ⟨0, rfl, Nat.zero_le _, rfl, (Low.refl _ w).alloc (Nat.le_refl _) _, ?_, fun q hq => ?_⟩
    · exact World.ownsRow_lit w #[] 0 (Nat.zero_le _) (Nat.zero_le _) rfl
    · exact Nat.le_of_eq (Option.some.inj hq)
  case round =>
    obtain ⟨i, hgk, hi, rfl, HI⟩ := hrel
    have HGK := hid hgk
    clear hgk c0 c1
    have XR := hid (HR.out.low HI.out.1)
    obtain ⟨a, cap, c9, hel⟩ := xin_entries XR.out
    rw [List.length_map] at c9
    by_cases h3 : i < X.entries.length
    · have q1 : decide ((i : Int) < (X.entries.length : Int)) = true := by simp; omega
      obtain ⟨k, hk⟩ : ∃ k, X.entries[i]? = some k := ⟨_, List.getElem?_eq_getElem h3⟩
      obtain ⟨g, rfl, hg, hcs, _⟩ := hel i k.cells (by rw [List.getElem?_map, hk]; rfl)
      have d0a : wr.cell? ⟨g, i * 6, none⟩ = some (.string k.path) := hcs 0 (by omega)
      have d1a : wr.cell? ⟨g, i * 6 + 1, none⟩ = some (.int .i64 k.rev) := hcs 1 (by omega)
      have d2a : wr.cell? ⟨g, i * 6 + 2, none⟩ = some (.int .i64 k.key) := hcs 2 (by omega)
      have d3a : wr.cell? ⟨g, i * 6 + 3, none⟩ = some (.int .i64 k.draw) := hcs 3 (by omega)
      have d4a : wr.cell? ⟨g, i * 6 + 4, none⟩ = some (.string k.sealed) := hcs 4 (by omega)
      have d5a : wr.cell? ⟨g, i * 6 + 5, none⟩ = some (.bool k.gone) := hcs 5 (by omega)
      have HT := hid (take_snoc hk)
      have HS := hid (filter_snoc (fun e => outl X e rev) (X.entries.take i) k)
      have hil : (i : Int) < (X.entries.length : Int) := by omega
      have hle : Hid (((X.entries.take i).filter (fun e => outl X e rev)).length + 1 ≤ 1000000000) := by
        have q := List.length_filter_le (fun e => outl X e rev) (X.entries.take i)
        have q2 := List.length_take_le i X.entries
        show _ ≤ _
        omega
      clear hcs hk hel
      cases hqq : outl X k rev
      · have hq := hid hqq
        go_wp2_with (go_at_call 59; refine (outlives_any _ k rev (by exact XR.out) hn).mono ?_; rw [hq.out]; rintro r y1 ⟨rfl, l1⟩; have c9b : y1.cell? ⟨b, 9, none⟩ = some (.slice (some ⟨g, 0, none⟩) X.entries.length cap) := (l1.cell XR.out.lt).trans c9; have d0b : y1.cell? ⟨g, i * 6, none⟩ = some (.string k.path) := (l1.cell hg).trans d0a; have d1b : y1.cell? ⟨g, i * 6 + 1, none⟩ = some (.int .i64 k.rev) := (l1.cell hg).trans d1a; have d2b : y1.cell? ⟨g, i * 6 + 2, none⟩ = some (.int .i64 k.key) := (l1.cell hg).trans d2a; have d3b : y1.cell? ⟨g, i * 6 + 3, none⟩ = some (.int .i64 k.draw) := (l1.cell hg).trans d3a; have d4b : y1.cell? ⟨g, i * 6 + 4, none⟩ = some (.string k.sealed) := (l1.cell hg).trans d4a; have d5b : y1.cell? ⟨g, i * 6 + 5, none⟩ = some (.bool k.gone) := (l1.cell hg).trans d5a; have hgy : g < y1.heap.size := Nat.lt_of_lt_of_le hg l1.size; have L1 : Hid (Low w.heap.size w y1) := HI.out.1.trans (l1.mono HI.out.1.size); have O1 : Hid (y1.ownsRow 0 65 6 u5 ((X.entries.take i).filter (fun e => outl X e rev)).length (((X.entries.take i).filter (fun e => outl X e rev)).flatMap Ent.cells)) := ownsRow_at HI.out.2.1 (fun q hq => l1.block q (HI.out.2.1.lt q hq).2); clear l1)
        go_roundg (X.entries.length - (i + 1))
        case rel => exact ⟨i + 1, rfl, by omega, by simp, L1.out, by rw [HT.out, HS.out, hqq]; exact O1.out, HI.out.2.2⟩
        case measure => have := HGK.out; omega
      · have hq := hid hqq
        go_wp2_with (first | (go_at_call 59; refine (outlives_any _ k rev (by exact XR.out) hn).mono ?_; rw [hq.out]; rintro r y1 ⟨rfl, l1⟩; have c9b : y1.cell? ⟨b, 9, none⟩ = some (.slice (some ⟨g, 0, none⟩) X.entries.length cap) := (l1.cell XR.out.lt).trans c9; have d0b : y1.cell? ⟨g, i * 6, none⟩ = some (.string k.path) := (l1.cell hg).trans d0a; have d1b : y1.cell? ⟨g, i * 6 + 1, none⟩ = some (.int .i64 k.rev) := (l1.cell hg).trans d1a; have d2b : y1.cell? ⟨g, i * 6 + 2, none⟩ = some (.int .i64 k.key) := (l1.cell hg).trans d2a; have d3b : y1.cell? ⟨g, i * 6 + 3, none⟩ = some (.int .i64 k.draw) := (l1.cell hg).trans d3a; have d4b : y1.cell? ⟨g, i * 6 + 4, none⟩ = some (.string k.sealed) := (l1.cell hg).trans d4a; have d5b : y1.cell? ⟨g, i * 6 + 5, none⟩ = some (.bool k.gone) := (l1.cell hg).trans d5a; have hgy : g < y1.heap.size := Nat.lt_of_lt_of_le hg l1.size; have L1 : Hid (Low w.heap.size w y1) := HI.out.1.trans (l1.mono HI.out.1.size); have O1 : Hid (y1.ownsRow 0 65 6 u5 ((X.entries.take i).filter (fun e => outl X e rev)).length (((X.entries.take i).filter (fun e => outl X e rev)).flatMap Ent.cells)) := ownsRow_at HI.out.2.1 (fun q hq => l1.block q (HI.out.2.1.lt q hq).2); clear l1) | (at_builtin; refine wpList_append_mine _ rfl (.tmp 43) (.tmp 51) 46 rfl 65 _ 6 64 Tryd.underlying46 info50 rfl (by omega) u5 _ _ rfl (O1.out.alloc _) ⟨y1.heap.size, 0, none⟩ 1 1 k.cells rfl rfl (by exact news_new y1 k.cells 65) (Ent.one _) ⟨hle.out, by omega⟩ ?_; intro v' w1 o1 k1 p1; have O2 := hid o1; have A2 := hid (append_low L1.out HI.out.2.2 k1 p1); clear o1 k1 p1))
        go_roundg (X.entries.length - (i + 1))
        case rel =>
          refine ⟨i + 1, rfl, by omega, by simp, A2.out.1, ?_, A2.out.2⟩
          rw [HT.out, HS.out, hqq, if_pos rfl, List.length_append, flat_snoc]
          exact O2.out
        case measure => have := HGK.out; omega
    · have q1 : decide ((i : Int) < (X.entries.length : Int)) = false := by simp; omega
      obtain rfl : i = X.entries.length := by omega
      rw [List.take_length] at HI
      have f9 := XR.out.frozen 9
      have f1 := XR.out.frozen 1
      have d1 := xin_floor XR.out
      obtain ⟨a5, cap5, rfl, _, _⟩ := ownsRow_view HI.out.2.1
      obtain ⟨a9, cap9, c9', _, _⟩ := xin_rowE HR.out
      obtain ⟨r1, k1⟩ := xin_newE HR.out c9' HI.out.1 HI.out.2.1 HI.out.2.2
      have r2 := xin_set_floor r1 rev
      have R2 := hid r2
      have K1 := hid k1
      clear r1 k1 r2 hel c9'
      go_wp2_with fail
      go_ret
      refine ⟨rfl, XIn.more R2.out (fun k hk => ?_) (fun k hk => ?_), K1.out.trans (setCell_kept _ ⟨b, 1, none⟩ _) (fun _ f => f) (fun q _ e => by rw [show q = b from e]; exact HR.out.inF)⟩
      · exact hk.imp id (fun hk => ⟨hk.1, by simpa using hk.2⟩)
      · exact hk.elim (fun hk => R2.out.below k (Or.inl hk)) (fun hk => hk.2)
end Go.Proofs.YtphapknfkbgapabDoor
namespace Go.Proofs.YtphapknfkbgapabDoor
open Go.RowKit

/-! What the program keeps, and what the document's answer keeps: plain data. -/

/-- Revisions are places. -/
def Revs (all : List RKept) : Prop := ∀ (i : Nat) (k : RKept), all[i]? = some k → k.e.rev = (i : Int) + 1
theorem Revs.init {l : List RKept} {k : RKept} (h : Revs (l ++ [k])) : Revs l := fun i x hx => h i x (by rw [List.getElem?_append_left (List.getElem?_eq_some_iff.1 hx).1]; exact hx)
theorem Revs.last {l : List RKept} {k : RKept} (h : Revs (l ++ [k])) : k.e.rev = (l.length : Int) + 1 := h l.length k (by rw [List.getElem?_append_right (Nat.le_refl _)]; simp)
theorem snoc_ind {α : Type} {P : List α → Prop} (h0 : P []) (h1 : ∀ l x, P l → P (l ++ [x])) (l : List α) : P l := by
  have : ∀ m : List α, P m.reverse := by
    intro m
    induction m with
    | nil => exact h0
    | cons x r ih => rw [List.reverse_cons]; exact h1 _ _ ih
  have := this l.reverse
  rwa [List.reverse_reverse] at this
theorem newest_last (p : ByteArray) (rev : Int) (all : List RKept) : Revs all → newestOf (keptOf all) p rev = (lastOf (all.take rev.toNat) p).getD Ent.zero := by
  refine snoc_ind (P := fun all => Revs all → newestOf (keptOf all) p rev = (lastOf (all.take rev.toNat) p).getD Ent.zero) ?_ ?_ all
  · intro _
    simp [keptOf, newestOf, lastOf]
  · intro l k ih h
    have hl := h.last
    have ih := ih h.init
    rw [keptOf_snoc]
    by_cases hr : l.length + 1 ≤ rev.toNat
    · have hd : decide (k.e.rev ≤ rev) = true := by simp; omega
      rw [List.take_of_length_le (by simp; omega), lastOf_snoc]
      rw [List.take_of_length_le (by omega)] at ih
      cases ho : k.out
      · simp only [Bool.false_eq_true, if_false, newestOf_snoc, hd, Bool.true_and, Bool.not_false]
        cases k.e.path.toList == p.toList
        · exact ih
        · rfl
      · simpa using ih
    · have hd : decide (k.e.rev ≤ rev) = false := by simp; omega
      rw [List.take_append_of_le_length (by omega)]
      cases ho : k.out
      · simp only [Bool.false_eq_true, if_false, newestOf_snoc, hd, Bool.false_and]
        exact ih
      · simpa using ih
/-- The newest of a path, up to the last revision. -/
theorem newest_all (p : ByteArray) (all : List RKept) (h : Revs all) : newestOf (keptOf all) p (all.length : Int) = (lastOf all p).getD Ent.zero := by
  have := newest_last p (all.length : Int) all h
  rw [Int.toNat_natCast, List.take_length] at this
  exact this
theorem lastOf_mem {l : List RKept} {p : ByteArray} {e : Ent} (h : lastOf l p = some e) : ∃ k ∈ l, k.e = e ∧ k.out = false ∧ e.path.toList = p.toList := by
  unfold lastOf at h
  obtain ⟨k, hk, rfl⟩ := Option.map_eq_some_iff.1 h
  have h1 := List.mem_of_find?_eq_some hk
  have h2 := List.find?_some hk
  simp only [Bool.and_eq_true, Bool.not_eq_true', beq_iff_eq] at h2
  exact ⟨k, List.mem_reverse.1 h1, rfl, h2.1, h2.2⟩
end Go.Proofs.YtphapknfkbgapabDoor
namespace Go.Proofs.YtphapknfkbgapabDoor
open Go.RowKit

variable {F : Nat → Prop} {b : Nat} {Y : RS}

def RS.commit (Y : RS) (i : Nat) (u : RUnd) : RS :=
  if commitErr Y u == 0 then { Y.setOp i RUnd.zero with all := Y.all ++ [⟨{ u.e with rev := (Y.all.length : Int) + 1 }, false⟩] } else Y.setOp i RUnd.zero
def RS.commitRev (Y : RS) (u : RUnd) : Int := if commitErr Y u == 0 then (Y.all.length : Int) + 1 else 0
theorem Blk.drew {w : World} {b : Nat} {t : TypeId} {cs : List Value} (h : Blk w b t cs) : Blk w.drew b t cs := h
theorem metA {W y2 : World} {X : Ent} {T : Bool} (l : Low W.heap.size W y2) : ∃ M, Value.pointer (some ⟨y2.heap.size, 0, none⟩) = Value.pointer (some ⟨M, 0, none⟩) ∧ Value.bool T = Value.bool T ∧
    Hid (Low W.heap.size W (y2.alloc (Obj.cells #[Value.string X.path, Value.int .i64 X.rev, Value.int .i64 X.key, Value.int .i64 X.draw, Value.string X.sealed, Value.bool X.gone] 65)) ∧ W.heap.size ≤ M ∧ Blk (y2.alloc (Obj.cells #[Value.string X.path, Value.int .i64 X.rev, Value.int .i64 X.key, Value.int .i64 X.draw, Value.string X.sealed, Value.bool X.gone] 65)) M 65 X.cells) :=
  ⟨_, rfl, rfl, l.alloc l.size _, l.size, Blk.new y2 65 X.cells⟩
theorem metB {W y2 : World} {X : Ent} {T : Bool} (l : Low W.heap.size W y2) (z : Blk y2 W.heap.size 65 Ent.zero.cells) : ∃ M, Value.pointer (some ⟨W.heap.size, 0, none⟩) = Value.pointer (some ⟨M, 0, none⟩) ∧ Value.bool T = Value.bool T ∧
    Hid (Low W.heap.size W ((((((y2.setCell ⟨W.heap.size, 0, none⟩ (Value.string X.path)).setCell ⟨W.heap.size, 1, none⟩ (Value.int .i64 X.rev)).setCell ⟨W.heap.size, 2, none⟩ (Value.int .i64 X.key)).setCell ⟨W.heap.size, 3, none⟩ (Value.int .i64 X.draw)).setCell ⟨W.heap.size, 4, none⟩ (Value.string X.sealed)).setCell ⟨W.heap.size, 5, none⟩ (Value.bool X.gone)) ∧ W.heap.size ≤ M ∧ Blk ((((((y2.setCell ⟨W.heap.size, 0, none⟩ (Value.string X.path)).setCell ⟨W.heap.size, 1, none⟩ (Value.int .i64 X.rev)).setCell ⟨W.heap.size, 2, none⟩ (Value.int .i64 X.key)).setCell ⟨W.heap.size, 3, none⟩ (Value.int .i64 X.draw)).setCell ⟨W.heap.size, 4, none⟩ (Value.string X.sealed)).setCell ⟨W.heap.size, 5, none⟩ (Value.bool X.gone)) M 65 X.cells) :=
  ⟨_, rfl, rfl, (((((l.setCell (Nat.le_refl _) _).setCell (Nat.le_refl _) _).setCell (Nat.le_refl _) _).setCell (Nat.le_refl _) _).setCell (Nat.le_refl _) _).setCell (Nat.le_refl _) _, Nat.le_refl _, (((((z.set 0 _).set 1 _).set 2 _).set 3 _).set 4 _).set 5 _⟩
theorem Ent.lit (X : Ent) : X.cells.toArray = #[Value.string X.path, Value.int .i64 X.rev, Value.int .i64 X.key, Value.int .i64 X.draw, Value.string X.sealed, Value.bool X.gone] := rfl
end Go.Proofs.YtphapknfkbgapabDoor
namespace Go.Proofs.YtphapknfkbgapabDoor
open Go.RowKit

variable {F : Nat → Prop} {b : Nat} {X : PS}

theorem psrv {i : Nat} {s : PSrv} (ha : X.servers[i]? = some s) : isSrv X.servers.length (i : Int) = true ∧ (i : Int) < (X.servers.length : Int) := by
  have := (List.getElem?_eq_some_iff.1 ha).1
  rw [isSrv_iff]; omega
theorem mayRead_srv (w : World) (s : Int) (h : XIn w F b X) (hs : isSrv X.servers.length s = false) :
    Calls Tryd.prog 26 #[.pointer (some ⟨b, 0, none⟩), .int .i64 s] w fun e w' => e = .returned (.int .i64 4) ∧ w' = w := by
  have HR := hid h
  have HS := hid hs
  clear h hs
  go_enter Tryd.func26, Tryd.ntmps26
  go_wp2_with (go_at_call 23; refine (isServer_any _ _ HR.out).mono ?_; rw [HS.out]; rintro e y1 ⟨rfl, hy⟩; obtain rfl := hy.symm)
  go_ret
  exact ⟨rfl, rfl⟩
def readErr (s : PSrv) : Int := if s.seen == 0 then 6 else 0
set_option maxRecDepth 100000 in
theorem mayRead_any (w : World) (i : Nat) (s : PSrv) (h : XIn w F b X) (ha : X.servers[i]? = some s) :
    Calls Tryd.prog 26 #[.pointer (some ⟨b, 0, none⟩), .int .i64 (i : Int)] w fun e w' => e = .returned (.int .i64 (readErr s)) ∧ w' = w := by
  obtain ⟨g, cap, hc, hg, hcs, _⟩ := xin_srvAt h ha
  have c0 : w.cell? ⟨g, i * 10, none⟩ = some (.int .i64 s.seen) := hcs 0 (by omega)
  have hl := (psrv ha).2
  have HS := hid (psrv ha).1
  have HR := hid h
  clear h ha hcs
  cases hz : (s.seen == 0)
  all_goals
    have HE := hid (show readErr s = _ from by unfold readErr; rw [hz])
    go_enter Tryd.func26, Tryd.ntmps26
    go_wp2_with (go_at_call 23; refine (isServer_any _ _ HR.out).mono ?_; rw [HS.out]; rintro e y1 ⟨rfl, hy⟩; obtain rfl := hy.symm)
    go_ret
    exact ⟨by rw [HE.out]; rfl, rfl⟩
def PS.refresh (X : PS) (i : Nat) (s : PSrv) : PS := { X with servers := X.servers.set i { s with seen := X.epoch } }
def PS.crash (X : PS) (i : Nat) : PS := { X with servers := X.servers.set i PSrv.zero }
theorem pRefresh_no (w : World) (s : Int) (h : XIn w F b X) (hs : isSrv X.servers.length s = false) :
    Calls Tryd.prog 14 #[.pointer (some ⟨b, 0, none⟩), .int .i64 s] w fun e w' => e = .returned (.int .i64 4) ∧ w' = w := by
  have HR := hid h
  have HS := hid hs
  clear h hs
  go_enter Tryd.func14, Tryd.ntmps14
  go_wp2_with (go_at_call 23; refine (isServer_any _ _ HR.out).mono ?_; rw [HS.out]; rintro e y1 ⟨rfl, hy⟩; obtain rfl := hy.symm)
  go_ret
  exact ⟨rfl, rfl⟩
set_option maxRecDepth 100000 in
set_option maxHeartbeats 1000000 in
theorem pRefresh_yes (w : World) (i : Nat) (s : PSrv) (h : XIn w F b X) (ha : X.servers[i]? = some s) :
    Calls Tryd.prog 14 #[.pointer (some ⟨b, 0, none⟩), .int .i64 (i : Int)] w fun e w' => e = .returned (.int .i64 0) ∧ XIn w' F b (X.refresh i s) ∧ Kept F w w' := by
  obtain ⟨g, cap, hc, hg, hcs, hf⟩ := xin_srvAt h ha
  have c0 : w.cell? ⟨g, i * 10, none⟩ = some (.int .i64 s.seen) := hcs 0 (by omega)
  have f0 := hf (i * 10)
  have c2 := xin_epoch h
  have hl := (psrv ha).2
  have HS := hid (psrv ha).1
  have HR := hid h
  obtain ⟨p1, p2⟩ := xin_setSeen h hc i s ha X.epoch
  have P1 := hid p1
  have P2 := hid p2
  clear h ha hcs hf p1 p2
  go_enter Tryd.func14, Tryd.ntmps14
  go_upto_region 3 with (go_at_call 23; refine (isServer_any _ _ HR.out).mono ?_; rw [HS.out]; rintro e y1 ⟨rfl, hy⟩; obtain rfl := hy.symm)
  go_region
  all_goals go_wp2_with fail
  all_goals go_ret
  all_goals exact ⟨rfl, P1.out.drew, P2.out.drew⟩
theorem pCrash_no (w : World) (s : Int) (h : XIn w F b X) (hs : isSrv X.servers.length s = false) :
    Calls Tryd.prog 18 #[.pointer (some ⟨b, 0, none⟩), .int .i64 s] w fun e w' => e = .returned (.int .i64 4) ∧ w' = w := by
  have HR := hid h
  have HS := hid hs
  clear h hs
  go_enter Tryd.func18, Tryd.ntmps18
  go_wp2_with (go_at_call 23; refine (isServer_any _ _ HR.out).mono ?_; rw [HS.out]; rintro e y1 ⟨rfl, hy⟩; obtain rfl := hy.symm)
  go_ret
  exact ⟨rfl, rfl⟩
set_option maxRecDepth 100000 in
set_option maxHeartbeats 1000000 in
theorem pCrash_yes (w : World) (i : Nat) (s : PSrv) (h : XIn w F b X) (ha : X.servers[i]? = some s) :
    Calls Tryd.prog 18 #[.pointer (some ⟨b, 0, none⟩), .int .i64 (i : Int)] w fun e w' => e = .returned (.int .i64 0) ∧ XIn w' F b (X.crash i) ∧ Kept F w w' := by
  obtain ⟨g, cap, hc, hg, hcs, hf⟩ := xin_srvAt h ha
  have hl := (psrv ha).2
  have HS := hid (psrv ha).1
  have HR := hid h
  obtain ⟨p1, p2, p3⟩ := xin_putSrv h hc i (List.getElem?_eq_some_iff.1 ha).1 PSrv.zero
  have P1 := hid p1
  have P2 := hid p2
  have P3 := hid p3
  clear h ha hcs hf p1 p2 p3
  go_enter Tryd.func18, Tryd.ntmps18
  go_wp2_with (first | (go_at_call 23; refine (isServer_any _ _ HR.out).mono ?_; rw [HS.out]; rintro e y1 ⟨rfl, hy⟩; obtain rfl := hy.symm) | ((with_reducible refine st96 (.tmp 15) (.tmp 14) g (i * 10) PSrv.zero ?_ ?_ P3.out ?_); rfl; rfl))
  go_ret
  exact ⟨rfl, P1.out, P2.out⟩
end Go.Proofs.YtphapknfkbgapabDoor
namespace Go.Proofs.YtphapknfkbgapabDoor
open Go.RowKit

variable {F : Nat → Prop} {b : Nat} {X : PS}

def opCells (u : PSrv) : List Value := [.int .i64 u.epoch, .int .i64 u.rev, .string u.e.path, .int .i64 u.e.rev, .int .i64 u.e.key, .int .i64 u.e.draw, .string u.e.sealed, .bool u.e.gone]
/-- Why an operation may not be committed. -/
def pErr (wrote : Int) (rev : Int) (fu : Bool) (u : PSrv) : Int :=
  if decide (u.epoch < wrote) then 9 else if (u.rev != -1) && (u.rev != rev) then 10 else if u.e.gone && (rev == 0) then 12 else if fu then 11 else 0
set_option maxRecDepth 100000 in
set_option maxHeartbeats 1000000 in
theorem mayCommit_any (w : World) (u : PSrv) (K : PKey) (ki : Nat) (h : XIn w F b X) (hw : X.write = (ki : Int) + 1) (hk : X.keys[ki]? = some K) (hl : X.keys.length ≤ 6) (hn : X.entries.length ≤ 1000) :
    Calls Tryd.prog 57 #[.pointer (some ⟨b, 0, none⟩), .agg #[.int .i64 u.epoch, .int .i64 u.rev, .string u.e.path, .int .i64 u.e.rev, .int .i64 u.e.key, .int .i64 u.e.draw, .string u.e.sealed, .bool u.e.gone]] w fun e w' => e = .returned (.int .i64 (pErr K.wrote (pRevOf X u.e.path) (pFull X) u)) ∧ Low w.heap.size w w' := by
  have HR := hid h
  have HK := hid hk
  have c3 : w.cell? ⟨b, 3, none⟩ = some (.int .i64 ((ki : Int) + 1)) := by rw [← hw]; exact xin_write h
  have hb := h.lt
  have hki : ki < X.keys.length := (List.getElem?_eq_some_iff.1 hk).1
  obtain ⟨rv, hrv⟩ : ∃ rv, pRevOf X u.e.path = rv := ⟨_, rfl⟩
  obtain ⟨fu, hfu⟩ : ∃ fu, pFull X = fu := ⟨_, rfl⟩
  have HRV := hid hrv
  have HFU := hid hfu
  obtain ⟨er, her⟩ : ∃ er, er = pErr K.wrote rv fu u := ⟨_, rfl⟩
  have HER := hid her
  rw [hrv, hfu, ← her]
  clear h hk hw hrv hfu her
  go_enter Tryd.func57, Tryd.ntmps57
  go_wp2_with (first | (go_at_call 53; refine (key_any _ ki K (by exact HR.out.alloc _) HK.out (by omega)).mono ?_; rintro r y1 ⟨rfl, l1⟩; have b1 : Blk y1 w.heap.size 84 (opCells u) := (Blk.new w 84 (opCells u)).low l1 (by simp); have L1 : Hid (Low w.heap.size w y1) := ((Low.refl _ w).alloc (Nat.le_refl _) _).trans (l1.mono (by simp)); have v0a : y1.cell? ⟨w.heap.size, 0, none⟩ = some (.int .i64 u.epoch) := b1.cell 0; have v1a : y1.cell? ⟨w.heap.size, 1, none⟩ = some (.int .i64 u.rev) := b1.cell 1; have v2a : y1.cell? ⟨w.heap.size, 2, none⟩ = some (.string u.e.path) := b1.cell 2; have v7a : y1.cell? ⟨w.heap.size, 7, none⟩ = some (.bool u.e.gone) := b1.cell 7; have ly := b1.lt; have B1 := hid b1; have X1 := hid (HR.out.low L1.out); clear l1 b1) | (go_at_call 79; refine (revOf_any _ _ (by exact X1.out.alloc _) hn).mono ?_; rw [HRV.out]; rintro r y2 ⟨rfl, l2⟩; have b2 : Blk y2 w.heap.size 84 (opCells u) := (B1.out.alloc _).low l2 (by have := B1.out.lt; simp; omega); have L2 : Hid (Low w.heap.size w y2) := (L1.out.alloc L1.out.size _).trans (l2.mono (by have := L1.out.size; simp; omega)); have v0b : y2.cell? ⟨w.heap.size, 0, none⟩ = some (.int .i64 u.epoch) := b2.cell 0; have v1b : y2.cell? ⟨w.heap.size, 1, none⟩ = some (.int .i64 u.rev) := b2.cell 1; have v2b : y2.cell? ⟨w.heap.size, 2, none⟩ = some (.string u.e.path) := b2.cell 2; have v7b : y2.cell? ⟨w.heap.size, 7, none⟩ = some (.bool u.e.gone) := b2.cell 7; have B2 := hid b2; have X2 := hid (HR.out.low L2.out); clear l2 b2) | (go_at_call 80; refine (pfull_any _ X2.out).mono ?_; rw [HFU.out]; rintro r y3 ⟨rfl, l3⟩; have L3 : Hid (Low w.heap.size w y3) := L2.out.trans (l3.mono L2.out.size); clear l3))
  all_goals
    go_ret
    refine ⟨?_, ?_⟩
    · rw [HER.out]
      (try have hh : ¬ u.epoch < K.wrote := by omega)
      (first | (simp [pErr, *]; done) | (simp [pErr, *]; omega) | (simp [pErr, *]; simp_all; done))
    · first | exact L3.out | exact L2.out | exact L1.out.alloc L1.out.size _
end Go.Proofs.YtphapknfkbgapabDoor
namespace Go.Proofs.YtphapknfkbgapabDoor
open Go.RowKit

variable {F : Nat → Prop} {b : Nat} {X : PS}

def byteV (n : Int) (i j : Nat) : Value := .int .u8 (if j < i then ((nonceB n j).toNat : Int) else 0)
def bytesTo (n : Int) (i : Nat) : List Value := (List.range 12).map (byteV n i)
theorem bytesTo_len (n : Int) (i : Nat) : (bytesTo n i).length = 12 := by simp [bytesTo]
theorem bytesTo_at (n : Int) (i j : Nat) (h : j < 12) : (bytesTo n i)[j]? = some (byteV n i j) := by simp [bytesTo, h]
theorem bytesTo_succ (n : Int) (i : Nat) : (bytesTo n i).set i (.int .u8 ((nonceB n i).toNat : Int)) = bytesTo n (i + 1) := by
  apply List.ext_getElem?
  intro p
  by_cases hr : p < 12
  · by_cases hp : p = i
    · subst hp
      rw [List.getElem?_set_self (by rw [bytesTo_len]; exact hr), bytesTo_at _ _ _ hr]
      simp [byteV]
    · rw [List.getElem?_set_ne (fun e => hp e.symm), bytesTo_at _ _ _ hr, bytesTo_at _ _ _ hr]
      unfold byteV
      by_cases h2 : p < i
      · rw [if_pos h2, if_pos (by omega)]
      · rw [if_neg h2, if_neg (by omega)]
  · rw [List.getElem?_eq_none (by rw [List.length_set, bytesTo_len]; omega), List.getElem?_eq_none (by rw [bytesTo_len]; omega)]
theorem byte_of (n x : Int) (i : Nat) (h : x = n / 256 ^ i) : ((nonceB n i).toNat : Int) = x % 256 := by
  unfold nonceB
  rw [← h]
  have h1 : 0 ≤ x % 256 ∧ x % 256 < 256 := by omega
  rw [UInt8.toNat_ofNat']
  omega
theorem made_bytes (n : Int) : madeCells #[Value.int .u8 0] 12 = (bytesTo n 0).toArray := by
  have : bytesTo n 0 = List.replicate 12 (Value.int .u8 0) := by
    apply List.ext_getElem?
    intro p
    by_cases hr : p < 12
    · rw [bytesTo_at _ _ _ hr, List.getElem?_replicate, if_pos hr]; simp [byteV]
    · rw [List.getElem?_eq_none (by rw [bytesTo_len]; omega), List.getElem?_eq_none (by simp; omega)]
  rw [this, ← toList_madeCells_one]
theorem info5b : (Tryd.prog.info? 5).map (fun i => (i.zero, i.size, i.bytes)) = some (some (.int .u8 0), 1, 1) := by kernel_rfl
theorem make12 (n : Int) (w : World) : (Instr.makeSlice 114 (.int .i64 12) (.int .i64 12)).run Tryd.prog w = .ok (.slice (some ⟨w.heap.size, 0, none⟩) 12 12) (w.alloc (.cells (bytesTo n 0).toArray 5)) := by
  rw [← made_bytes n]
  exact run_make_row' (P := Tryd.prog) 114 5 (.int .u8 0) 1 Tryd.underlying114 info5b rfl .i64 .i64 12 (by omega) (by omega) w
set_option maxRecDepth 100000 in
set_option maxHeartbeats 1000000 in
theorem nonceOf_any (w : World) (n : Int) (h0 : 0 ≤ n) (h1 : n ≤ 100000000000000) :
    Calls Tryd.prog 75 #[.int .i64 n] w fun e w' => e = .returned (.string (nonceTo n 12)) ∧ Low w.heap.size w w' := by
  have hmk := make12 n
  go_enter Tryd.func75, Tryd.ntmps75
  go_wp2_with fail
  clear hmk
  generalize hG : w.heap.size = G at *
  go_loopg [4, 5] 12 (fun left xv iv wr => ∃ (i : Nat) (x : Int), left = 12 - i ∧ i ≤ 12 ∧ 0 ≤ x ∧ x ≤ 100000000000000 ∧ xv = .int .i64 x ∧ iv = .int .i64 (i : Int) ∧ Hid (x = n / 256 ^ i ∧ Low G w wr ∧ Blk wr G 5 (bytesTo n i)))
  case atStart =>
    refine ⟨0, n, rfl, by omega, h0, h1, rfl, rfl, by simp, ?_, ?_⟩
    · exact (Low.refl _ w).alloc (by omega) _
    · have q := Blk.new w 5 (bytesTo n 0)
      rw [hG] at q
      exact q
  case round =>
    obtain ⟨i, x, hgk, hi, x0, x1, rfl, rfl, HI⟩ := hrel
    have HGK := hid hgk
    clear hgk h0 h1
    by_cases h2 : i < 12
    · have q1 : decide ((i : Int) < 12) = true := by simp; omega
      have c0 : wr.cell? ⟨G, i, none⟩ = some (.int .u8 0) := by rw [HI.out.2.2.cell, bytesTo_at _ _ _ h2, byteV, if_neg (by omega)]
      have f0 := HI.out.2.2.frozen i
      have i1 : (i : Int) < 12 := by omega
      go_wp2_with fail
      go_roundg (12 - (i + 1))
      case rel =>
        obtain ⟨e1, e2, e3⟩ := HI.out
        refine ⟨i + 1, x / 256, rfl, by omega, Int.ediv_nonneg x0 (by omega), by omega, rfl, by simp, ?_, e2.setCell (Nat.le_refl _) _, ?_⟩
        · rw [e1, Int.ediv_ediv_of_nonneg (Int.pow_nonneg (by omega)), ← Int.pow_succ]
        · rw [← bytesTo_succ, byte_of n x i e1]
          exact e3.set i _
      case measure => have := HGK.out; omega
    · have q1 : decide ((i : Int) < 12) = false := by simp; omega
      obtain rfl : i = 12 := by omega
      have hcv : (convert 114 9 (.slice (some ⟨G, 0, none⟩) 12 12)).run Tryd.prog wr = .ok (.string (nonceTo n 12)) wr := by
        have hl : (nonceTo n 12).data.toList.length = 12 := nonceTo_size n 12
        have e := run_convert_bytes_back (P := Tryd.prog) wr 114 9 5 ⟨G, 0, none⟩ 12 (nonceTo n 12).data.toList Tryd.underlying114 Tryd.underlying5 Tryd.underlying9 (fun j hj => by
          rw [hl] at hj
          rw [Addr.add_mid, Nat.zero_add, HI.out.2.2.cell, bytesTo_at _ _ _ hj, byteV, if_pos hj]
          simp [nonceTo])
        rw [hl] at e
        rw [e]
      go_wp2_with fail
      go_ret
      exact ⟨rfl, by rw [hG]; exact HI.out.2.1⟩
end Go.Proofs.YtphapknfkbgapabDoor
namespace Go.Proofs.YtphapknfkbgapabDoor
open Go.RowKit

variable {F : Nat → Prop} {b : Nat} {X : PS}

theorem Open_any (key nonce path s : ByteArray) (w : World) (h : goodP key nonce path) (s0 : 8 ≤ s.size) (s1 : s.size ≤ 72) (hF : Fours w) (h1 : 1 ≤ w.heap.size) :
    Calls Tryd.prog 50 #[.string key, .string nonce, .string path, .string s] w fun e w' => e = .returned (.tuple #[.string (openT key nonce path s), .int .i64 (openE key nonce path s)]) ∧ Low w.heap.size w w' := by
  unfold openT openE
  by_cases ho : opens key nonce path s
  · have : openB key nonce path s = true := by simp only [openB]; exact decide_eq_true ho
    rw [this]
    exact Open_yes _ _ _ _ w h s0 s1 ho hF h1
  · have : openB key nonce path s = false := by simp only [openB]; exact decide_eq_false ho
    rw [this]
    exact Open_bad _ _ _ _ w h s0 s1 ho
/-- The table is where it was. -/
theorem fours_low {w w' : World} (h : Fours w) (h1 : 1 ≤ w.heap.size) (k : Low w.heap.size w w') : Fours w' := h.later (k.mono h1)
def pOpened (K : PKey) (e : Ent) : ByteArray × Int := if keyGone K then (⟨#[]⟩, 14) else if openB K.text (nonceTo e.draw 12) e.path e.sealed then (maskOf K.text (nonceTo e.draw 12) (coverOf e.sealed), 0) else (⟨#[]⟩, 3)
set_option maxRecDepth 100000 in
set_option maxHeartbeats 1000000 in
theorem popened_any (w : World) (e : Ent) (K : PKey) (i : Nat) (h : XIn w F b X) (hk : X.keys[i]? = some K) (hi : e.key = (i : Int) + 1) (hi6 : i ≤ 6) (hK : K.text.size = 48) (hE : EntOk e) (hF : Fours w) (h1 : 1 ≤ w.heap.size) :
    Calls Tryd.prog 54 #[.pointer (some ⟨b, 0, none⟩), .agg #[.string e.path, .int .i64 e.rev, .int .i64 e.key, .int .i64 e.draw, .string e.sealed, .bool e.gone]] w fun r w' =>
      r = .returned (.tuple #[.string (pOpened K e).1, .int .i64 (pOpened K e).2]) ∧ Low w.heap.size w w' := by
  have HG : Hid (goodP K.text (nonceTo e.draw 12) e.path) := ⟨hK, nonceTo_size _ _, hE.path.1, hE.path.2⟩
  have HE := hid hE
  have HF := hid hF
  have hD := hE.draw
  have HR := hid h
  have HK := hid hk
  have kg : keyGone K = false := by
    unfold keyGone
    rw [beq_eq_false_iff_ne]
    intro q
    have := toList_inj q
    rw [this] at hK
    cases hK
  have KG := hid kg
  rw [hi]
  clear h hk hK hE hF hi kg
  go_enter Tryd.func54, Tryd.ntmps54
  go_upto_region 6 with (first | (go_at_call 53; refine (key_any _ i K (by exact HR.out.alloc _) HK.out (by omega)).mono ?_; rintro r y1 ⟨rfl, l1⟩; have bEa : Blk y1 w.heap.size 65 (Ent.mk e.path e.rev ((i : Int) + 1) e.draw e.sealed e.gone).cells := (Blk.new w 65 (Ent.mk e.path e.rev ((i : Int) + 1) e.draw e.sealed e.gone).cells).low l1 (by simp); have L1 : Hid (Low w.heap.size w y1) := ((Low.refl _ w).alloc (Nat.le_refl _) _).trans (l1.mono (by simp)); have x0a : y1.cell? ⟨w.heap.size, 0, none⟩ = some (.string e.path) := bEa.cell 0; have x3a : y1.cell? ⟨w.heap.size, 3, none⟩ = some (.int .i64 e.draw) := bEa.cell 3; have x4a : y1.cell? ⟨w.heap.size, 4, none⟩ = some (.string e.sealed) := bEa.cell 4; have BE1 := hid bEa; clear l1 bEa) | (go_at_call 66; refine (destroyed_any _ K).mono ?_; rw [KG.out]; rintro r y2 ⟨rfl, l2⟩; have bEb : Blk y2 w.heap.size 65 (Ent.mk e.path e.rev ((i : Int) + 1) e.draw e.sealed e.gone).cells := (BE1.out.alloc _).low l2 (by have := BE1.out.lt; simp; omega); have bKb : Blk y2 y1.heap.size 81 K.cells := (Blk.new y1 81 K.cells).low l2 (by simp); have x0b : y2.cell? ⟨w.heap.size, 0, none⟩ = some (.string e.path) := bEb.cell 0; have x3b : y2.cell? ⟨w.heap.size, 3, none⟩ = some (.int .i64 e.draw) := bEb.cell 3; have x4b : y2.cell? ⟨w.heap.size, 4, none⟩ = some (.string e.sealed) := bEb.cell 4; have t0b : y2.cell? ⟨y1.heap.size, 0, none⟩ = some (.string K.text) := bKb.cell 0; have L2 : Hid (Low w.heap.size w y2) := (L1.out.alloc L1.out.size _).trans (l2.mono (by have := L1.out.size; simp; omega)); have BE2 := hid bEb; have BK2 := hid bKb; clear l2 bEb bKb x0a x3a x4a) | (go_at_call 75; refine (nonceOf_any _ _ hD.1 hD.2).mono ?_; rintro r y3 ⟨rfl, l3⟩; have bEc : Blk y3 w.heap.size 65 (Ent.mk e.path e.rev ((i : Int) + 1) e.draw e.sealed e.gone).cells := BE2.out.low l3 BE2.out.lt; have bKc : Blk y3 y1.heap.size 81 K.cells := BK2.out.low l3 BK2.out.lt; have x0c : y3.cell? ⟨w.heap.size, 0, none⟩ = some (.string e.path) := bEc.cell 0; have x3c : y3.cell? ⟨w.heap.size, 3, none⟩ = some (.int .i64 e.draw) := bEc.cell 3; have x4c : y3.cell? ⟨w.heap.size, 4, none⟩ = some (.string e.sealed) := bEc.cell 4; have t0c : y3.cell? ⟨y1.heap.size, 0, none⟩ = some (.string K.text) := bKc.cell 0; have L3 : Hid (Low w.heap.size w y3) := L2.out.trans (l3.mono L2.out.size); clear l3 bEc bKc x0b x3b x4b t0b) | (go_at_call 50; refine (Open_any _ _ _ _ _ HG.out HE.out.sealed.1 HE.out.sealed.2 (fours_low HF.out h1 L3.out) (Nat.le_trans h1 L3.out.size)).mono ?_; rintro r y4 ⟨rfl, l4⟩; have L4 : Hid (Low w.heap.size w y4) := L3.out.trans (l4.mono L3.out.size); clear l4))
  cases q3 : openB K.text (nonceTo e.draw 12) e.path e.sealed
  · have q4 : (openE K.text (nonceTo e.draw 12) e.path e.sealed != 0) = true := by simp [openE, q3]
    go_wp2_with fail
    go_ret2
    exact ⟨by simp [pOpened, KG.out, q3], L4.out⟩
  · have q4 : (openE K.text (nonceTo e.draw 12) e.path e.sealed != 0) = false := by simp [openE, q3]
    go_wp2_with fail
    go_ret2
    exact ⟨by simp [pOpened, KG.out, q3, openT], L4.out⟩
end Go.Proofs.YtphapknfkbgapabDoor
namespace Go.Proofs.YtphapknfkbgapabDoor
open Go.RowKit

variable {F : Nat → Prop} {b : Nat} {X : PS}

theorem keyGone_no {K : PKey} (hK : K.text.size = 48) : keyGone K = false := by
  unfold keyGone
  rw [beq_eq_false_iff_ne]
  intro q
  have := toList_inj q
  rw [this] at hK
  cases hK
set_option maxRecDepth 100000 in
set_option maxHeartbeats 1000000 in
theorem sealed_any (w : World) (path plain : ByteArray) (K : PKey) (i : Nat) (h : XIn w F b X) (hk : X.keys[i]? = some K) (hi6 : i ≤ 6) (hK : K.text.size = 48) (hp : 1 ≤ path.size ∧ path.size ≤ 16) (hs : plain.size ≤ 64) (hd : 0 ≤ X.draws ∧ X.draws + 1 ≤ 100000000000000) (hF : Fours w) (h1 : 1 ≤ w.heap.size) :
    Calls Tryd.prog 78 #[.pointer (some ⟨b, 0, none⟩), .int .i64 ((i : Int) + 1), .string path, .string plain] w fun r w' =>
      r = .returned (.tuple #[.agg (closedOf K.text ((i : Int) + 1) path plain (X.draws + 1)).cells.toArray, .int .i64 0]) ∧ XIn w' F b { X with draws := X.draws + 1 } ∧ Kept F w w' := by
  have HG : Hid (goodP K.text (nonceTo (X.draws + 1) 12) path) := ⟨hK, nonceTo_size _ _, hp.1, hp.2⟩
  have HF := hid hF
  have HR := hid h
  have HK := hid hk
  have KG := hid (keyGone_no hK)
  have hd0 := hd.1
  have hd1 := hd.2
  have hb := h.lt
  clear h hk hK hF hd
  go_enter Tryd.func78, Tryd.ntmps78
  go_upto_region 10 with (first | (go_at_call 53; refine (key_any _ i K (by exact HR.out.alloc _) HK.out (by omega)).mono ?_; rintro r y1 ⟨rfl, l1⟩; have bN : Blk y1 w.heap.size 65 Ent.zero.cells := (Blk.new w 65 Ent.zero.cells).low l1 (by simp); have L1 : Hid (Low w.heap.size w y1) := ((Low.refl _ w).alloc (Nat.le_refl _) _).trans (l1.mono (by simp)); have BN1 := hid bN; clear l1 bN) | (go_at_call 66; refine (destroyed_any _ K).mono ?_; rw [KG.out]; rintro r y2 ⟨rfl, l2⟩; have bNb : Blk y2 w.heap.size 65 Ent.zero.cells := (BN1.out.alloc _).low l2 (by have := BN1.out.lt; simp; omega); have bKb : Blk y2 y1.heap.size 81 K.cells := (Blk.new y1 81 K.cells).low l2 (by simp); have L2 : Hid (Low w.heap.size w y2) := (L1.out.alloc L1.out.size _).trans (l2.mono (by have := L1.out.size; simp; omega)); have d2 := xin_draws (HR.out.low L2.out); have BN2 := hid bNb; have BK2 := hid bKb; clear l2 bNb bKb) | (go_at_call 75; refine (nonceOf_any _ _ (by omega) hd1).mono ?_; rintro r y3 ⟨rfl, l3⟩; have bNc : Blk y3 w.heap.size 65 Ent.zero.cells := BN2.out.low l3 BN2.out.lt; have bKc : Blk y3 y1.heap.size 81 K.cells := BK2.out.low l3 BK2.out.lt; have t0c : y3.cell? ⟨y1.heap.size, 0, none⟩ = some (.string K.text) := bKc.cell 0; have L3 : Hid (Low w.heap.size w y3) := L2.out.trans (l3.mono L2.out.size); have BN3 := hid bNc; clear l3 bNc bKc d2) | (go_at_call 86; refine (Seal_yes _ _ _ _ _ HG.out hs (fours_low HF.out h1 L3.out) (Nat.le_trans h1 L3.out.size)).mono ?_; rintro r y4 ⟨rfl, l4⟩; have L4 : Hid (Low w.heap.size w y4) := L3.out.trans (l4.mono L3.out.size); have BN4 := hid (BN3.out.low l4 BN3.out.lt); have X4 := hid (HR.out.low L4.out); have d4 := xin_draws X4.out; have f4 := X4.out.frozen 6; clear l4))
  go_name_world W hW
  have RW : Hid (XIn W F b { X with draws := X.draws + 1 }) := by
    show XIn W F b _
    rw [← hW]; exact xin_set_draws X4.out (X.draws + 1)
  have hne : w.heap.size ≠ b := by omega
  have BW : Hid (Blk W w.heap.size 65 Ent.zero.cells) := by
    show Blk W _ _ _
    rw [← hW]; exact BN4.out.setOther hne _
  have KW : Hid (Kept F w W) := by
    show Kept F w W
    rw [← hW]; exact L4.out.kept.trans (setCell_kept y4 ⟨b, 6, none⟩ _) (fun _ f => f.elim) (fun q _ e => by rw [show q = b from e]; exact HR.out.inF)
  clear hW d4 f4
  go_wp2_with ((with_reducible refine st50 (.tmp 8) (.tmp 49) w.heap.size Ent.zero (closedOf K.text ((i : Int) + 1) path plain (X.draws + 1)) ?_ ?_ BW.out ?_); rfl; rfl; intro w1 b1 k1 t1; have B1 := hid b1; have K1 := hid k1; clear b1 k1 t1)
  (try simp only [Exit.inBlock, Exit.then])
  refine bodyPost_ret (results_cell_tmp rfl w.heap.size (closedOf K.text ((i : Int) + 1) path plain (X.draws + 1)).cells _ rfl B1.out.whole Tryd.underlying65 rfl (sz50 _)) rfl ?_
  refine ⟨rfl, RW.out.kept K1.out (fun q hq e => by have := HR.out.below q hq; omega), KW.out.trans K1.out (fun _ f => f) (fun q hq e => by omega)⟩
end Go.Proofs.YtphapknfkbgapabDoor
namespace Go.Proofs.YtphapknfkbgapabDoor
open Go.RowKit

variable {F : Nat → Prop} {b : Nat} {X : PS}

theorem nilB (p : ByteArray) : (p.toList == (⟨#[]⟩ : ByteArray).toList) = (p.size == 0) := by
  rw [Bool.eq_iff_iff]
  simp only [beq_iff_eq]
  constructor
  · intro e
    have := toList_inj e
    rw [this]; rfl
  · intro e
    have : p = ⟨#[]⟩ := by
      apply bytes_ext
      exact List.eq_nil_of_length_eq_zero (by simpa using e)
    rw [this]
set_option maxRecDepth 100000 in
set_option maxHeartbeats 1000000 in
theorem isOperation_any (w : World) (o : AOp) (hp : o.path.size ≤ maxLen) (hq : o.plain.size ≤ maxLen) :
    Calls Tryd.prog 55 #[.agg #[.int .i64 o.kind, .string o.path, .string o.plain, .int .i64 o.rev]] w fun e w' => e = .returned (.bool (properOf o)) ∧ Low w.heap.size w w' := by
  have HP := hid hp
  have HQ := hid hq
  clear hp hq
  cases hN : (o.plain.toList == (⟨#[]⟩ : ByteArray).toList)
  · have hN2 : (o.plain.toList != (⟨#[]⟩ : ByteArray).toList) = true := by rw [bne, hN]; rfl
    have HN : Hid ((o.plain.size == 0) = false) := by show _ = _; rw [← nilB]; exact hN
    go_enter Tryd.func55, Tryd.ntmps55
    go_wp2_with (first | (go_at_call 69; refine (pisPath_any _ _ HP.out).mono ?_; rintro e y1 ⟨rfl, hy⟩; obtain rfl := hy.symm; generalize hI : isPath o.path = I; have HI := hid hI; clear hI) | (go_at_call 76; refine (isSecret_any _ _ HQ.out).mono ?_; rintro e y1 ⟨rfl, hy⟩; obtain rfl := hy.symm; generalize hJ : decide (o.plain.size ≤ 64) = J; have HJ := hid hJ; clear hJ))
    all_goals
      go_ret
      refine ⟨?_, (Low.refl _ w).alloc (Nat.le_refl _) _⟩
      have hz := HN.out
      simp only [properOf, hz]
      (try rw [HI.out])
      (try rw [HJ.out])
      simp_all
    all_goals exact False.elim HJ.out
  · have hN2 : (o.plain.toList != (⟨#[]⟩ : ByteArray).toList) = false := by rw [bne, hN]; rfl
    have HN : Hid ((o.plain.size == 0) = true) := by show _ = _; rw [← nilB]; exact hN
    go_enter Tryd.func55, Tryd.ntmps55
    go_wp2_with (first | (go_at_call 69; refine (pisPath_any _ _ HP.out).mono ?_; rintro e y1 ⟨rfl, hy⟩; obtain rfl := hy.symm; generalize hI : isPath o.path = I; have HI := hid hI; clear hI) | (go_at_call 76; refine (isSecret_any _ _ HQ.out).mono ?_; rintro e y1 ⟨rfl, hy⟩; obtain rfl := hy.symm; generalize hJ : decide (o.plain.size ≤ 64) = J; have HJ := hid hJ; clear hJ))
    all_goals
      go_ret
      refine ⟨?_, (Low.refl _ w).alloc (Nat.le_refl _) _⟩
      have hz := HN.out
      simp only [properOf, hz]
      (try rw [HI.out])
      (try rw [HJ.out])
      simp_all
    all_goals exact False.elim HJ.out
/-- What an operation comes to be. -/
theorem prepared_del (w : World) (seen : Int) (o : AOp) (hk : (o.kind == 2) = true) :
    Calls Tryd.prog 56 #[.pointer (some ⟨b, 0, none⟩), .int .i64 seen, .agg #[.int .i64 o.kind, .string o.path, .string o.plain, .int .i64 o.rev]] w fun e w' => e = .returned (.tuple #[.agg (delEnt o.path).cells.toArray, .int .i64 0]) ∧ Low w.heap.size w w' := by
  go_enter Tryd.func56, Tryd.ntmps56
  go_wp2
  (try simp only [Exit.inBlock, Exit.then])
  refine bodyPost_ret (results_cell_tmp rfl (w.heap.size + 1) (delEnt o.path).cells _ rfl ?_ Tryd.underlying65 rfl (sz50 _)) rfl ?_
  · have q := Blk.new (w.alloc (.cells o.cells.toArray 90)) 65 (delEnt o.path).cells
    rw [World.size_alloc] at q
    exact q.whole
  · exact ⟨rfl, ((Low.refl _ w).alloc (Nat.le_refl _) _).alloc (by simp) _⟩
set_option maxRecDepth 100000 in
set_option maxHeartbeats 1000000 in
theorem prepared_put (w : World) (seen : Int) (o : AOp) (K : PKey) (i : Nat) (hk2 : (o.kind == 2) = false) (h : XIn w F b X) (hw : writerOf X.keys seen = (i : Int) + 1) (hk : X.keys[i]? = some K) (hl : X.keys.length ≤ 6) (hK : K.text.size = 48) (hp : 1 ≤ o.path.size ∧ o.path.size ≤ 16) (hs : o.plain.size ≤ 64) (hd : 0 ≤ X.draws ∧ X.draws + 1 ≤ 100000000000000) (hF : Fours w) (h1 : 1 ≤ w.heap.size) :
    Calls Tryd.prog 56 #[.pointer (some ⟨b, 0, none⟩), .int .i64 seen, .agg #[.int .i64 o.kind, .string o.path, .string o.plain, .int .i64 o.rev]] w fun e w' =>
      e = .returned (.tuple #[.agg (closedOf K.text ((i : Int) + 1) o.path o.plain (X.draws + 1)).cells.toArray, .int .i64 0]) ∧ XIn w' F b { X with draws := X.draws + 1 } ∧ Kept F w w' := by
  have HR := hid h
  have HW := hid hw
  have HK := hid hk
  have HT := hid hK
  have HP := hid hp
  have HD := hid hd
  have HF := hid hF
  have hil : i < X.keys.length := (List.getElem?_eq_some_iff.1 hk).1
  clear h hw hk hK hp hd hF
  have hV : Hid (∀ A B : Obj, Low w.heap.size w ((w.alloc A).alloc B)) := fun A B => ((Low.refl _ w).alloc (Nat.le_refl _) A).alloc (by simp) B
  go_enter Tryd.func56, Tryd.ntmps56
  go_wp2_with (first | (go_at_call 77; refine (writer_any _ _ (by exact (HR.out.alloc _).alloc _) hl (by omega)).mono ?_; rw [HW.out]; rintro e y1 ⟨rfl, rfl⟩) | (go_at_call 78; refine (sealed_any _ _ _ K i (by exact (HR.out.alloc _).alloc _) HK.out (by omega) HT.out HP.out hs HD.out (by exact fours_low HF.out h1 (hV.out _ _)) (by simp)).mono ?_; rintro e y2 ⟨rfl, r2, k2⟩; have R2 := hid r2; have K2 := hid k2; have BN : Hid (Blk y2 (w.heap.size + 1) 65 Ent.zero.cells) := (show Blk ((w.alloc (.cells o.cells.toArray 90)).alloc (.cells Ent.zero.cells.toArray 65)) (w.heap.size + 1) 65 Ent.zero.cells from (by (have q := Blk.new (w.alloc (.cells o.cells.toArray 90)) 65 Ent.zero.cells); rw [World.size_alloc] at q; exact q)).kept k2 (fun f => by have := HR.out.below _ f; omega); clear r2 k2) | ((with_reducible refine st50 (.tmp 6) (.tmp 25) (w.heap.size + 1) Ent.zero (closedOf K.text ((i : Int) + 1) o.path o.plain (X.draws + 1)) ?_ ?_ BN.out ?_); rfl; rfl; intro w1 b1 k1 t1; have B1 := hid b1; have K1 := hid k1; clear b1 k1 t1))
  (try simp only [Exit.inBlock, Exit.then])
  refine bodyPost_ret (results_cell_tmp rfl (w.heap.size + 1) (closedOf K.text ((i : Int) + 1) o.path o.plain (X.draws + 1)).cells _ rfl B1.out.whole Tryd.underlying65 rfl (sz50 _)) rfl ?_
  refine ⟨rfl, R2.out.kept K1.out (fun q hq e => by have := HR.out.below q hq; omega), ?_⟩
  exact ((hV.out _ _).kept.trans K2.out (H := F) (fun _ f => f.elim) (fun _ _ f => f)).trans K1.out (fun _ f => f) (fun q hq e => by omega)
end Go.Proofs.YtphapknfkbgapabDoor
