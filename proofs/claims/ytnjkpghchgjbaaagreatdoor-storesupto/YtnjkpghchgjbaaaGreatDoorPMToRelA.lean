import Derived.Test.YtnjkpghchgjbaaaGreatDoorPNToPH
import Derived.Test.YtnjkpghchgjbaaaGreatDoorRefMToLawA
namespace Go.Proofs.YtnjkpghchgjbaaaGreatDoor
open Go.RowKit

variable {F : Nat → Prop} {b : Nat} {X : PS}

def outl (X : PS) (e : Ent) (rev : Int) : Bool := decide (rev < e.rev) || ((e.rev == (newestOf X.entries e.path rev).rev) && !e.gone)
set_option maxRecDepth 100000 in
set_option maxHeartbeats 1000000 in
theorem outlives_any (w : World) (e : Ent) (rev : Int) (h : XIn w F b X) (hn : X.entries.length ≤ 1000) :
    Calls Tryz.prog 75 #[.pointer (some ⟨b, 0, none⟩), .agg #[.string e.path, .int .i64 e.rev, .int .i64 e.key, .int .i64 e.draw, .string e.sealed, .bool e.gone], .int .i64 rev] w fun r w' => r = .returned (.bool (outl X e rev)) ∧ Low w.heap.size w w' := by
  have HR := hid h
  obtain ⟨E, hE⟩ : ∃ E, newestOf X.entries e.path rev = E := ⟨_, rfl⟩
  have HE := hid hE
  clear h hE
  cases h1 : decide (rev < e.rev)
  · cases h2 : (e.rev == E.rev)
    all_goals
      go_enter Tryz.func75, Tryz.ntmps75
      go_wp2_with (first | (go_at_call 89; refine (newest_any _ _ _ (by exact HR.out.alloc _) hn).mono ?_; rw [HE.out]; rintro r y1 ⟨rfl, l1⟩; have bE : Blk y1 w.heap.size 50 e.cells := (Blk.new w 50 e.cells).low l1 (by simp); have L1 : Hid (Low w.heap.size w y1) := ((Low.refl _ w).alloc (Nat.le_refl _) _).trans (l1.mono (by simp)); have BE := hid bE; clear l1 bE) | ((with_reducible refine st50 (.tmp 7) (.tmp 16) y1.heap.size Ent.zero E ?_ ?_ ?_ ?_); rfl; rfl; exact (Blk.new y1 50 Ent.zero.cells); intro W b2 k2 s2; have m1 : W.cell? ⟨y1.heap.size, 1, none⟩ = some (.int .i64 E.rev) := b2.cell 1; have BW : Blk W w.heap.size 50 e.cells := (BE.out.alloc _).kept k2 (by have := BE.out.lt; omega); have n1 : W.cell? ⟨w.heap.size, 1, none⟩ = some (.int .i64 e.rev) := BW.cell 1; have n5 : W.cell? ⟨w.heap.size, 5, none⟩ = some (.bool e.gone) := BW.cell 5; have LW : Hid (Low w.heap.size w W) := low_set (L1.out.alloc L1.out.size _) k2 L1.out.size (by have := L1.out.size; simp; omega); clear b2 k2 s2 BW))
      go_ret
      exact ⟨by simp [outl, h1, HE.out, h2], LW.out⟩
  · go_enter Tryz.func75, Tryz.ntmps75
    go_wp2_with fail
    go_ret
    exact ⟨by simp [outl, h1], (Low.refl _ w).alloc (Nat.le_refl _) _⟩
def pBadCut (X : PS) (rev : Int) : Bool := decide (rev ≤ X.floor) || decide (X.rev < rev)
set_option maxRecDepth 100000 in
theorem pCompact_no (w : World) (rev : Int) (h : XIn w F b X) (hr : pBadCut X rev = true) :
    Calls Tryz.prog 36 #[.pointer (some ⟨b, 0, none⟩), .int .i64 rev] w fun e w' => e = .returned (.int .i64 15) ∧ w' = w := by
  have c0 := xin_rev h
  have c1 := xin_floor h
  clear h
  cases h1 : decide (rev ≤ X.floor)
  · have h2 : decide (X.rev < rev) = true := by simpa [pBadCut, h1] using hr
    clear hr
    go_enter Tryz.func36, Tryz.ntmps36
    go_wp2_with fail
    go_ret
    exact ⟨rfl, rfl⟩
  · clear hr
    go_enter Tryz.func36, Tryz.ntmps36
    go_wp2_with fail
    go_ret
    exact ⟨rfl, rfl⟩
def PS.compact (X : PS) (rev : Int) : PS := { X with floor := rev, entries := X.entries.filter (fun e => outl X e rev) }
theorem filter_snoc {α : Type} (p : α → Bool) (l : List α) (x : α) : (l ++ [x]).filter p = if p x then l.filter p ++ [x] else l.filter p := by
  rw [List.filter_append]
  cases h : p x <;> simp [h]
theorem xin_newE {w w1 : World} {v v' : Value} {n : List Ent} (h : XIn w F b X) (hv : w.cell? ⟨b, 9, none⟩ = some v) (k : Low w.heap.size w w1) (ho : w1.ownsRow 0 50 6 v' n.length (n.flatMap Ent.cells)) (hw : ∀ q, v'.ownBlock = some q → w.heap.size ≤ q) :
    XIn (w1.setCell ⟨b, 9, none⟩ v') (grow F w w1) b { X with entries := n } ∧ Kept F w (w1.setCell ⟨b, 9, none⟩ v') := by
  obtain ⟨vK, vS, vE, hO⟩ := h
  obtain rfl : vE = v := Option.some.inj ((hO.cell 9).symm.trans hv)
  have q1 := hO.rowNew 2 rfl rfl (k.kept.mono (fun _ _ f => f.elim)) ho (Or.inr hw) (X.offs 2 rfl)
  exact ⟨⟨vK, vS, v', q1.cast rfl (by simp [PS.rows])⟩, k.kept.trans (setCell_kept w1 ⟨b, 9, none⟩ v') (fun _ f => f.elim) (fun q _ e => by rw [show q = b from e]; exact hO.inF)⟩
set_option maxRecDepth 100000 in
set_option maxHeartbeats 1000000 in
theorem pCompact_yes (w : World) (rev : Int) (h : XIn w F b X) (hr : pBadCut X rev = false) (hn : X.entries.length ≤ 1000) :
    Calls Tryz.prog 36 #[.pointer (some ⟨b, 0, none⟩), .int .i64 rev] w fun e w' => e = .returned (.int .i64 0) ∧ XIn w' (grow F w w') b (X.compact rev) ∧ Kept F w w' := by
  have HR := hid h
  have c0 := xin_rev h
  have c1 := xin_floor h
  simp only [pBadCut, Bool.or_eq_false_iff] at hr
  have h1 := hr.1
  have h2 := hr.2
  clear h hr
  go_enter Tryz.func36, Tryz.ntmps36
  go_wp2_with fail
  go_loopg [5, 6] X.entries.length (fun left kv iv wr => ∃ i : Nat, left = X.entries.length - i ∧ i ≤ X.entries.length ∧ iv = .int .i64 (i : Int) ∧ Hid (Low w.heap.size w wr ∧ wr.ownsRow 0 50 6 kv ((X.entries.take i).filter (fun e => outl X e rev)).length (((X.entries.take i).filter (fun e => outl X e rev)).flatMap Ent.cells) ∧ ∀ q, kv.ownBlock = some q → w.heap.size ≤ q))
  case atStart =>
    refine ⟨0, rfl, Nat.zero_le _, rfl, (Low.refl _ w).alloc (Nat.le_refl _) _, ?_, fun q hq => ?_⟩
    · exact World.ownsRow_lit w #[] 0 (Nat.zero_le _) (Nat.zero_le _) rfl
    · exact Nat.le_of_eq (Option.some.inj hq)
  case round =>
    obtain ⟨i, hgk, hi, rfl, HI⟩ := hrel
    have HGK := hid hgk
    clear hgk c0 c1
    have XR := hid (HR.out.low HI.out.1)
    obtain ⟨a, cap, c9, hel⟩ := xin_entries XR.out
    rw [List.length_map] at c9
    by_cases h3 : i < X.entries.length
    · have q1 : decide ((i : Int) < (X.entries.length : Int)) = true := by simp; omega
      obtain ⟨k, hk⟩ : ∃ k, X.entries[i]? = some k := ⟨_, List.getElem?_eq_getElem h3⟩
      obtain ⟨g, rfl, hg, hcs, _⟩ := hel i k.cells (by rw [List.getElem?_map, hk]; rfl)
      have d0a : wr.cell? ⟨g, i * 6, none⟩ = some (.string k.path) := hcs 0 (by omega)
      have d1a : wr.cell? ⟨g, i * 6 + 1, none⟩ = some (.int .i64 k.rev) := hcs 1 (by omega)
      have d2a : wr.cell? ⟨g, i * 6 + 2, none⟩ = some (.int .i64 k.key) := hcs 2 (by omega)
      have d3a : wr.cell? ⟨g, i * 6 + 3, none⟩ = some (.int .i64 k.draw) := hcs 3 (by omega)
      have d4a : wr.cell? ⟨g, i * 6 + 4, none⟩ = some (.string k.sealed) := hcs 4 (by omega)
      have d5a : wr.cell? ⟨g, i * 6 + 5, none⟩ = some (.bool k.gone) := hcs 5 (by omega)
      have HT := hid (take_snoc hk)
      have HS := hid (filter_snoc (fun e => outl X e rev) (X.entries.take i) k)
      have hil : (i : Int) < (X.entries.length : Int) := by omega
      have hle : Hid (((X.entries.take i).filter (fun e => outl X e rev)).length + 1 ≤ 1000000000) := by
        have q := List.length_filter_le (fun e => outl X e rev) (X.entries.take i)
        have q2 := List.length_take_le i X.entries
        show _ ≤ _
        omega
      clear hcs hk hel
      cases hqq : outl X k rev
      · have hq := hid hqq
        go_wp2_with (go_at_call 75; refine (outlives_any _ k rev (by exact XR.out) hn).mono ?_; rw [hq.out]; rintro r y1 ⟨rfl, l1⟩; have c9b : y1.cell? ⟨b, 9, none⟩ = some (.slice (some ⟨g, 0, none⟩) X.entries.length cap) := (l1.cell XR.out.lt).trans c9; have d0b : y1.cell? ⟨g, i * 6, none⟩ = some (.string k.path) := (l1.cell hg).trans d0a; have d1b : y1.cell? ⟨g, i * 6 + 1, none⟩ = some (.int .i64 k.rev) := (l1.cell hg).trans d1a; have d2b : y1.cell? ⟨g, i * 6 + 2, none⟩ = some (.int .i64 k.key) := (l1.cell hg).trans d2a; have d3b : y1.cell? ⟨g, i * 6 + 3, none⟩ = some (.int .i64 k.draw) := (l1.cell hg).trans d3a; have d4b : y1.cell? ⟨g, i * 6 + 4, none⟩ = some (.string k.sealed) := (l1.cell hg).trans d4a; have d5b : y1.cell? ⟨g, i * 6 + 5, none⟩ = some (.bool k.gone) := (l1.cell hg).trans d5a; have hgy : g < y1.heap.size := Nat.lt_of_lt_of_le hg l1.size; have L1 : Hid (Low w.heap.size w y1) := HI.out.1.trans (l1.mono HI.out.1.size); have O1 : Hid (y1.ownsRow 0 50 6 u5 ((X.entries.take i).filter (fun e => outl X e rev)).length (((X.entries.take i).filter (fun e => outl X e rev)).flatMap Ent.cells)) := ownsRow_at HI.out.2.1 (fun q hq => l1.block q (HI.out.2.1.lt q hq).2); clear l1)
        go_roundg (X.entries.length - (i + 1))
        case rel => exact ⟨i + 1, rfl, by omega, by simp, L1.out, by rw [HT.out, HS.out, hqq]; exact O1.out, HI.out.2.2⟩
        case measure => have := HGK.out; omega
      · have hq := hid hqq
        go_wp2_with (first | (go_at_call 75; refine (outlives_any _ k rev (by exact XR.out) hn).mono ?_; rw [hq.out]; rintro r y1 ⟨rfl, l1⟩; have c9b : y1.cell? ⟨b, 9, none⟩ = some (.slice (some ⟨g, 0, none⟩) X.entries.length cap) := (l1.cell XR.out.lt).trans c9; have d0b : y1.cell? ⟨g, i * 6, none⟩ = some (.string k.path) := (l1.cell hg).trans d0a; have d1b : y1.cell? ⟨g, i * 6 + 1, none⟩ = some (.int .i64 k.rev) := (l1.cell hg).trans d1a; have d2b : y1.cell? ⟨g, i * 6 + 2, none⟩ = some (.int .i64 k.key) := (l1.cell hg).trans d2a; have d3b : y1.cell? ⟨g, i * 6 + 3, none⟩ = some (.int .i64 k.draw) := (l1.cell hg).trans d3a; have d4b : y1.cell? ⟨g, i * 6 + 4, none⟩ = some (.string k.sealed) := (l1.cell hg).trans d4a; have d5b : y1.cell? ⟨g, i * 6 + 5, none⟩ = some (.bool k.gone) := (l1.cell hg).trans d5a; have hgy : g < y1.heap.size := Nat.lt_of_lt_of_le hg l1.size; have L1 : Hid (Low w.heap.size w y1) := HI.out.1.trans (l1.mono HI.out.1.size); have O1 : Hid (y1.ownsRow 0 50 6 u5 ((X.entries.take i).filter (fun e => outl X e rev)).length (((X.entries.take i).filter (fun e => outl X e rev)).flatMap Ent.cells)) := ownsRow_at HI.out.2.1 (fun q hq => l1.block q (HI.out.2.1.lt q hq).2); clear l1) | (at_builtin; refine wpList_append_mine _ rfl (.tmp 43) (.tmp 51) 46 rfl 50 _ 6 64 Tryz.underlying46 info50 rfl (by omega) u5 _ _ rfl (O1.out.alloc _) ⟨y1.heap.size, 0, none⟩ 1 1 k.cells rfl rfl (by exact news_new y1 k.cells 50) (Ent.one _) ⟨hle.out, by omega⟩ ?_; intro v' w1 o1 k1 p1; have O2 := hid o1; have A2 := hid (append_low L1.out HI.out.2.2 k1 p1); clear o1 k1 p1))
        go_roundg (X.entries.length - (i + 1))
        case rel =>
          refine ⟨i + 1, rfl, by omega, by simp, A2.out.1, ?_, A2.out.2⟩
          rw [HT.out, HS.out, hqq, if_pos rfl, List.length_append, flat_snoc]
          exact O2.out
        case measure => have := HGK.out; omega
    · have q1 : decide ((i : Int) < (X.entries.length : Int)) = false := by simp; omega
      obtain rfl : i = X.entries.length := by omega
      rw [List.take_length] at HI
      have f9 := XR.out.frozen 9
      have f1 := XR.out.frozen 1
      have d1 := xin_floor XR.out
      obtain ⟨a5, cap5, rfl, _, _⟩ := ownsRow_view HI.out.2.1
      obtain ⟨a9, cap9, c9', _, _⟩ := xin_rowE HR.out
      obtain ⟨r1, k1⟩ := xin_newE HR.out c9' HI.out.1 HI.out.2.1 HI.out.2.2
      have r2 := xin_set_floor r1 rev
      have R2 := hid r2
      have K1 := hid k1
      clear r1 k1 r2 hel c9'
      go_wp2_with fail
      go_ret
      refine ⟨rfl, XIn.more R2.out (fun k hk => ?_) (fun k hk => ?_), K1.out.trans (setCell_kept _ ⟨b, 1, none⟩ _) (fun _ f => f) (fun q _ e => by rw [show q = b from e]; exact HR.out.inF)⟩
      · exact hk.imp id (fun hk => ⟨hk.1, by simpa using hk.2⟩)
      · exact hk.elim (fun hk => R2.out.below k (Or.inl hk)) (fun hk => hk.2)
end Go.Proofs.YtnjkpghchgjbaaaGreatDoor
namespace Go.Proofs.YtnjkpghchgjbaaaGreatDoor
open Go.RowKit

/-! What the program keeps, and what the document's answer keeps: plain data. -/

/-- Revisions are places. -/
def Revs (all : List RKept) : Prop := ∀ (i : Nat) (k : RKept), all[i]? = some k → k.e.rev = (i : Int) + 1
theorem Revs.init {l : List RKept} {k : RKept} (h : Revs (l ++ [k])) : Revs l := fun i x hx => h i x (by rw [List.getElem?_append_left (List.getElem?_eq_some_iff.1 hx).1]; exact hx)
theorem Revs.last {l : List RKept} {k : RKept} (h : Revs (l ++ [k])) : k.e.rev = (l.length : Int) + 1 := h l.length k (by rw [List.getElem?_append_right (Nat.le_refl _)]; simp)
theorem snoc_ind {α : Type} {P : List α → Prop} (h0 : P []) (h1 : ∀ l x, P l → P (l ++ [x])) (l : List α) : P l := by
  have : ∀ m : List α, P m.reverse := by
    intro m
    induction m with
    | nil => exact h0
    | cons x r ih => rw [List.reverse_cons]; exact h1 _ _ ih
  have := this l.reverse
  rwa [List.reverse_reverse] at this
theorem newest_last (p : ByteArray) (rev : Int) (all : List RKept) : Revs all → newestOf (keptOf all) p rev = (lastOf (all.take rev.toNat) p).getD Ent.zero := by
  refine snoc_ind (P := fun all => Revs all → newestOf (keptOf all) p rev = (lastOf (all.take rev.toNat) p).getD Ent.zero) ?_ ?_ all
  · intro _
    simp [keptOf, newestOf, lastOf]
  · intro l k ih h
    have hl := h.last
    have ih := ih h.init
    rw [keptOf_snoc]
    by_cases hr : l.length + 1 ≤ rev.toNat
    · have hd : decide (k.e.rev ≤ rev) = true := by simp; omega
      rw [List.take_of_length_le (by simp; omega), lastOf_snoc]
      rw [List.take_of_length_le (by omega)] at ih
      cases ho : k.out
      · simp only [Bool.false_eq_true, if_false, newestOf_snoc, hd, Bool.true_and, Bool.not_false]
        cases k.e.path.toList == p.toList
        · exact ih
        · rfl
      · simpa using ih
    · have hd : decide (k.e.rev ≤ rev) = false := by simp; omega
      rw [List.take_append_of_le_length (by omega)]
      cases ho : k.out
      · simp only [Bool.false_eq_true, if_false, newestOf_snoc, hd, Bool.false_and]
        exact ih
      · simpa using ih
/-- The newest of a path, up to the last revision. -/
theorem newest_all (p : ByteArray) (all : List RKept) (h : Revs all) : newestOf (keptOf all) p (all.length : Int) = (lastOf all p).getD Ent.zero := by
  have := newest_last p (all.length : Int) all h
  rw [Int.toNat_natCast, List.take_length] at this
  exact this
theorem lastOf_mem {l : List RKept} {p : ByteArray} {e : Ent} (h : lastOf l p = some e) : ∃ k ∈ l, k.e = e ∧ k.out = false ∧ e.path.toList = p.toList := by
  unfold lastOf at h
  obtain ⟨k, hk, rfl⟩ := Option.map_eq_some_iff.1 h
  have h1 := List.mem_of_find?_eq_some hk
  have h2 := List.find?_some hk
  simp only [Bool.and_eq_true, Bool.not_eq_true', beq_iff_eq] at h2
  exact ⟨k, List.mem_reverse.1 h1, rfl, h2.1, h2.2⟩
end Go.Proofs.YtnjkpghchgjbaaaGreatDoor
