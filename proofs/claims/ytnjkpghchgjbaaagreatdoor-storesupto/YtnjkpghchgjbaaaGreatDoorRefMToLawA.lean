import Derived.Test.YtnjkpghchgjbaaaGreatDoorRefHToRefJ
import Derived.Deep.DeepCutAuto
import Derived.Deep.OwnRows
namespace Go.Proofs.YtnjkpghchgjbaaaGreatDoor
open Go.RowKit

variable {F : Nat → Prop} {b : Nat} {Y : RS}

theorem flat_set1 {α : Type} (k : Nat) (f : α → List Value) (hf : ∀ x, (f x).length = k) (l : List α) (i q : Nat) (x x' : α) (hx : l[i]? = some x) (hq : q < k) (u : Value) (hx' : f x' = (f x).set q u) : (l.flatMap f).set (i * k + q) u = (l.set i x').flatMap f := by
  have hi : i < l.length := (List.getElem?_eq_some_iff.1 hx).1
  rw [← flat_set k f hf l i x' hi]
  have hL := flat_length k f hf l
  have hle : (i + 1) * k ≤ l.length * k := Nat.mul_le_mul_right _ hi
  rw [Nat.add_mul] at hle
  apply List.ext_getElem?
  intro p
  rw [over_at _ _ _ _ (by rw [hL, hf]; omega), hf]
  by_cases h1 : p = i * k + q
  · subst h1
    rw [List.getElem?_set_self (by rw [hL]; omega), if_pos (by omega), Nat.add_sub_cancel_left, hx', List.getElem?_set_self (by rw [hf]; exact hq)]
  · rw [List.getElem?_set_ne (fun e => h1 e.symm)]
    by_cases h2 : i * k ≤ p ∧ p < i * k + k
    · rw [if_pos h2, hx', List.getElem?_set_ne (by omega)]
      obtain ⟨c, rfl⟩ : ∃ c, p = i * k + c := ⟨p - i * k, by omega⟩
      rw [Nat.add_sub_cancel_left, flat_at k f hf l i c x hx (by omega)]
    · rw [if_neg h2]
theorem own_cellSet {w : World} {t : TypeId} {C : List Value} {R : List Row} (h : Own w F b t C R) (j : Nat) {off : Nat} {e : TypeId} {k : Nat} {α : Type} {l : List α} {f : α → List Value} (hf : ∀ x, (f x).length = k) (hj : R[j]? = some ⟨off, e, k, l.length, l.flatMap f⟩)
    {g cap : Nat} (hv : C[off]? = some (.slice (some ⟨g, 0, none⟩) l.length cap)) (i : Nat) (x x' : α) (hx : l[i]? = some x) (q : Nat) (hq : q < k) (u : Value) (hx' : f x' = (f x).set q u) :
    Own (w.setCell ⟨g, i * k + q, none⟩ u) F b t C (R.set j ⟨off, e, k, l.length, (l.set i x').flatMap f⟩) ∧ Kept F w (w.setCell ⟨g, i * k + q, none⟩ u) := by
  obtain ⟨v0, hv0, ho, hF⟩ := h.row j hj
  obtain rfl : v0 = .slice (some ⟨g, 0, none⟩) l.length cap := Option.some.inj (hv0.symm.trans hv)
  have hk : Kept (fun p => (Value.slice (some ⟨g, 0, none⟩) l.length cap).ownBlock = some p) w (w.setCell ⟨g, i * k + q, none⟩ u) :=
    (setCell_kept w ⟨g, i * k + q, none⟩ u).mono (fun p _ (e : p = g) => by rw [e]; rfl)
  have h2 := h.rowSet j hj hv0 hk (ho.stored (i * k + q) u).1
  rw [flat_set1 k f hf l i q x x' hx hq u hx'] at h2
  exact ⟨h2, hk.mono (fun p _ e => hF p e)⟩
theorem rin_setOut {w : World} (h : RIn w F b Y) {g cap : Nat} (hc : w.cell? ⟨b, 3, none⟩ = some (.slice (some ⟨g, 0, none⟩) Y.all.length cap)) (i : Nat) (k : RKept) (hk : Y.all[i]? = some k) (v : Bool) :
    RIn (w.setCell ⟨g, i * 7 + 6, none⟩ (.bool v)) F b { Y with all := Y.all.set i { k with out := v } } ∧ Kept F w (w.setCell ⟨g, i * 7 + 6, none⟩ (.bool v)) := by
  obtain ⟨vA, vK, vS, vO, vN, hO, c3, c4, c5, c6⟩ := h.vals
  obtain rfl : vA = _ := Option.some.inj (c3.symm.trans hc)
  obtain ⟨q1, q2⟩ := own_cellSet hO 0 RKept.len rfl rfl i k { k with out := v } hk 6 (by omega) (.bool v) rfl
  exact ⟨⟨h.1, _, vK, vS, vO, vN, q1.cast rfl (by simp [RS.rows])⟩, q2⟩
theorem rin_setFloor {w : World} (h : RIn w F b Y) (n : Int) : RIn (w.setCell ⟨b, 8, none⟩ (.int .i64 n)) F b { Y with floor := n } := by
  obtain ⟨h8, vA, vK, vS, vO, vN, h⟩ := h
  exact ⟨h8, vA, vK, vS, vO, vN, (h.set 8 (.int .i64 n) (by simp [RS.rows])).cast rfl rfl⟩
/-- Is the j-th entry given up, when all is compacted up to r? -/
def outAt (all : List RKept) (r j : Nat) : Bool := match all[j]? with
  | some k => (((lastOf (all.take r) k.e.path).getD Ent.zero).rev != (j : Int) + 1) || ((lastOf (all.take r) k.e.path).getD Ent.zero).gone
  | none => false
def allTo (all : List RKept) (f : Nat → Bool) (n : Nat) : List RKept := all.mapIdx (fun j k => if j < n then { k with out := k.out || f j } else k)
theorem allTo_zero (all : List RKept) (f : Nat → Bool) : allTo all f 0 = all := by
  apply List.ext_getElem?
  intro p
  simp [allTo, List.getElem?_mapIdx]
theorem allTo_len (all : List RKept) (f : Nat → Bool) (n : Nat) : (allTo all f n).length = all.length := by simp [allTo]
theorem allTo_at (all : List RKept) (f : Nat → Bool) (n : Nat) (k : RKept) (h : all[n]? = some k) : (allTo all f n)[n]? = some k := by
  simp [allTo, List.getElem?_mapIdx, h]
theorem allTo_succ (all : List RKept) (f : Nat → Bool) (n : Nat) (k : RKept) (h : all[n]? = some k) : (allTo all f n).set n { k with out := k.out || f n } = allTo all f (n + 1) := by
  have hn : n < all.length := (List.getElem?_eq_some_iff.1 h).1
  apply List.ext_getElem?
  intro p
  by_cases hp : p = n
  · subst hp
    rw [List.getElem?_set_self (by rw [allTo_len]; exact hn)]
    simp [allTo, List.getElem?_mapIdx, h]
  · rw [List.getElem?_set_ne (fun e => hp e.symm)]
    simp only [allTo, List.getElem?_mapIdx]
    cases all[p]? with
    | none => rfl
    | some k2 =>
      simp only [Option.map_some]
      by_cases h2 : p < n
      · rw [if_pos h2, if_pos (by omega)]
      · rw [if_neg h2, if_neg (by omega)]
def boolsTo (f : Nat → Bool) (i r : Nat) : List Value := (List.range r).map (fun j => .bool (if j < i then f j else false))
theorem boolsTo_len (f : Nat → Bool) (i r : Nat) : (boolsTo f i r).length = r := by simp [boolsTo]
theorem boolsTo_succ (f : Nat → Bool) (i r : Nat) : (boolsTo f i r).set i (.bool (f i)) = boolsTo f (i + 1) r := by
  apply List.ext_getElem?
  intro p
  by_cases hr : p < r
  · by_cases hp : p = i
    · subst hp
      rw [List.getElem?_set_self (by rw [boolsTo_len]; exact hr)]
      simp [boolsTo, hr]
    · rw [List.getElem?_set_ne (fun e => hp e.symm)]
      simp only [boolsTo, List.getElem?_map, List.getElem?_range hr, Option.map_some]
      by_cases h2 : p < i
      · rw [if_pos h2, if_pos (by omega)]
      · rw [if_neg h2, if_neg (by omega)]
  · rw [List.getElem?_eq_none (by rw [List.length_set, boolsTo_len]; omega), List.getElem?_eq_none (by rw [boolsTo_len]; omega)]
theorem boolsTo_zero (f : Nat → Bool) (r : Nat) : boolsTo f 0 r = List.replicate r (.bool false) := by
  apply List.ext_getElem?
  intro p
  by_cases hr : p < r
  · simp [boolsTo, hr]
  · rw [List.getElem?_eq_none (by rw [boolsTo_len]; omega), List.getElem?_eq_none (by simp; omega)]
theorem boolsTo_at (f : Nat → Bool) (i r j : Nat) (h : j < r) : (boolsTo f i r)[j]? = some (.bool (if j < i then f j else false)) := by simp [boolsTo, h]
theorem made_bools (f : Nat → Bool) (r : Nat) : madeCells #[Value.bool false] r = (boolsTo f 0 r).toArray := by
  rw [boolsTo_zero, ← toList_madeCells_one]
theorem info4 : (Tryz.prog.info? 4).map (fun i => (i.zero, i.size, i.bytes)) = some (some (.bool false), 1, 1) := by kernel_rfl
def badCut (Y : RS) (rev : Int) : Bool := decide (rev ≤ Y.floor) || decide ((Y.all.length : Int) < rev)
set_option maxRecDepth 100000 in
set_option maxHeartbeats 1000000 in
theorem Compact_no (w : World) (rev : Int) (h : RIn w F b Y) (hr : badCut Y rev = true) :
    Calls Tryz.prog 37 #[.pointer (some ⟨b, 0, none⟩), .int .i64 rev] w fun e w' => e = .returned (.int .i64 15) ∧ w' = w := by
  obtain ⟨a3, cap3, hc3, _⟩ := h.all
  rw [List.length_map] at hc3
  have c8 := h.floor
  clear h
  cases h1 : decide (rev ≤ Y.floor)
  · have h2 : decide ((Y.all.length : Int) < rev) = true := by simpa [badCut, h1] using hr
    clear hr
    go_enter Tryz.func37, Tryz.ntmps37
    go_wp2_with fail
    go_ret
    exact ⟨rfl, rfl⟩
  · clear hr
    go_enter Tryz.func37, Tryz.ntmps37
    go_wp2_with fail
    go_ret
    exact ⟨rfl, rfl⟩
def RS.compact (Y : RS) (r : Nat) : RS := { Y with floor := r, all := allTo Y.all (outAt Y.all r) r }
set_option maxRecDepth 100000 in
set_option maxHeartbeats 2000000 in
theorem Compact_yes (w : World) (r : Nat) (h : RIn w F b Y) (h1 : Y.floor < (r : Int)) (h2 : r ≤ Y.all.length) (hn : Y.all.length ≤ 100000000) :
    Calls Tryz.prog 37 #[.pointer (some ⟨b, 0, none⟩), .int .i64 (r : Int)] w fun e w' => e = .returned (.int .i64 0) ∧ RIn w' F b (Y.compact r) ∧ Kept F w w' := by
  obtain ⟨a3, cap3, hc3, _⟩ := h.all
  rw [List.length_map] at hc3
  have c8 := h.floor
  have f8 := h.frozen 8
  have p1 : decide ((r : Int) ≤ Y.floor) = false := by simp; omega
  have p2 : decide ((Y.all.length : Int) < (r : Int)) = false := by simp; omega
  have p3 : decide (Y.all.length < r) = false := by simp; omega
  have hmk := run_make_row' (P := Tryz.prog) 111 4 (.bool false) 1 Tryz.underlying111 info4 rfl .i64 .i64 r (by omega) (by omega)
  have hb := h.lt
  have HR := hid h
  obtain ⟨f, hf⟩ : ∃ f, f = outAt Y.all r := ⟨_, rfl⟩
  have HF := hid hf
  clear h h1 hf
  go_enter Tryz.func37, Tryz.ntmps37
  go_wp2_with fail
  generalize hG : w.heap.size = G at *
  go_loopg [6, 7, 8] r (fun left iv ev ov wr => ∃ i : Nat, left = r - i ∧ i ≤ r ∧ iv = .int .i64 (i : Int) ∧ Hid (RIn wr F b { Y with floor := r } ∧ Kept F w wr ∧ Blk wr G 4 (boolsTo f i r)))
  case atStart =>
    refine ⟨0, rfl, Nat.zero_le _, rfl, (rin_setFloor HR.out r).alloc _, ?_, ?_⟩
    · exact (setCell_kept w ⟨b, 8, none⟩ _).trans ((Low.refl _ _).alloc (Nat.le_refl _) _).kept (fun q e => by rw [show q = b from e]; exact HR.out.inF) (fun _ _ f => f.elim)
    · have q := Blk.new (w.setCell ⟨b, 8, none⟩ (.int .i64 (r : Int))) 4 (boolsTo f 0 r)
      rw [World.size_setCell, hG, ← made_bools] at q
      exact q
  case round =>
    obtain ⟨i, hgk, hi, rfl, HI⟩ := hrel
    clear hmk c8 f8 hc3
    have HGK := hid hgk
    clear hgk
    by_cases h3 : i < r
    · have q1 : decide ((i : Int) < (r : Int)) = true := by simp; omega
      obtain ⟨a, cap, hc, hel⟩ := HI.out.1.all
      rw [List.length_map] at hc
      have hc : wr.cell? ⟨b, 3, none⟩ = some (.slice a Y.all.length cap) := hc
      obtain ⟨k, hk⟩ : ∃ k, Y.all[i]? = some k := ⟨_, List.getElem?_eq_getElem (by omega)⟩
      obtain ⟨g, rfl, hg, hcs, _⟩ := hel i k.cells (by rw [List.getElem?_map, show ({ Y with floor := (r : Int) } : RS).all[i]? = some k from hk]; rfl)
      have c0 : wr.cell? ⟨g, i * 7, none⟩ = some (.string k.e.path) := hcs 0 (by omega)
      have hil : (i : Int) < (Y.all.length : Int) := by omega
      obtain ⟨X, hX⟩ : ∃ X, (lastOf (Y.all.take r) k.e.path).getD Ent.zero = X := ⟨_, rfl⟩
      have HX : Hid ((lastOf (({ Y with floor := (r : Int) } : RS).all.take (Int.toNat (r : Int))) k.e.path).getD Ent.zero = X) := by show _ = _; rw [Int.toNat_natCast]; exact hX
      have HV : Hid (f i = ((X.rev != (i : Int) + 1) || X.gone)) := by show _ = _; rw [HF.out]; unfold outAt; rw [hk]; simp only [hX]
      have HGF : Hid (¬ F G) := fun ff => by have := HR.out.below _ ff; omega
      have lG := HI.out.2.2.lt
      clear hcs hel hk hX
      go_upto_region 9 with (first | (go_at_call 69; refine (last_any (Y := { Y with floor := (r : Int) }) _ _ _ HI.out.1 hn).mono ?_; rw [HX.out]; rintro e y1 ⟨rfl, l1⟩; have L1 := hid l1; clear l1) | ((with_reducible refine st50 (.tmp 7) (.tmp 49) y1.heap.size Ent.zero X ?_ ?_ ?_ ?_); rfl; rfl; exact (Blk.new y1 50 Ent.zero.cells); intro W b2 k2 s2; have B2 := hid b2; have LW : Hid (Low wr.heap.size wr W) := low_set (L1.out.alloc L1.out.size _) k2 L1.out.size (by have := L1.out.size; simp; omega); clear b2 k2 s2))
      have bG : Hid (Blk W G 4 (boolsTo f i r)) := HI.out.2.2.low LW.out lG
      have x1 : W.cell? ⟨y1.heap.size, 1, none⟩ = some (.int .i64 X.rev) := B2.out.cell 1
      have x5 : W.cell? ⟨y1.heap.size, 5, none⟩ = some (.bool X.gone) := B2.out.cell 5
      have gI : W.cell? ⟨G, i, none⟩ = some (.bool false) := by rw [bG.out.cell, boolsTo_at f i r i h3, if_neg (by omega)]
      have gF : W.frozen? ⟨G, i, none⟩ = false := bG.out.frozen i
      have lGW : G < W.heap.size := bG.out.lt
      clear hc c0 hg
      cases qa : (X.rev != (i : Int) + 1)
      · go_wp2_with fail
        go_roundg (r - (i + 1))
        case rel =>
          refine ⟨i + 1, rfl, by omega, by simp, (HI.out.1.low LW.out).kept (setCell_kept W ⟨G, i, none⟩ _) (fun q hq e => HGF.out (by rw [← show q = G from e]; exact hq)), ?_, ?_⟩
          · exact (HI.out.2.1.trans LW.out.kept (H := F) (fun _ f => f) (fun _ _ f => f.elim)).trans (setCell_kept W ⟨G, i, none⟩ _) (fun _ f => f) (fun q hq e => by have : q = G := e; omega)
          · rw [← boolsTo_succ, HV.out, qa]
            exact bG.out.set i _
        case measure => have := HGK.out; omega
      · go_wp2_with fail
        go_roundg (r - (i + 1))
        case rel =>
          refine ⟨i + 1, rfl, by omega, by simp, (HI.out.1.low LW.out).kept (setCell_kept W ⟨G, i, none⟩ _) (fun q hq e => HGF.out (by rw [← show q = G from e]; exact hq)), ?_, ?_⟩
          · exact (HI.out.2.1.trans LW.out.kept (H := F) (fun _ f => f) (fun _ _ f => f.elim)).trans (setCell_kept W ⟨G, i, none⟩ _) (fun _ f => f) (fun q hq e => by have : q = G := e; omega)
          · rw [← boolsTo_succ, HV.out, qa]
            exact bG.out.set i _
        case measure => have := HGK.out; omega
    · have q1 : decide ((i : Int) < (r : Int)) = false := by simp; omega
      obtain rfl : i = r := by omega
      go_wp2_with fail
      go_loopw [9] (fun iv wx => ∃ j : Nat, j ≤ i ∧ iv = .int .i64 (j : Int) ∧ Hid (RIn wx F b { Y with floor := i, all := allTo Y.all f j } ∧ Kept F w wx ∧ Blk wx G 4 (boolsTo f i i))) (fun iv _ => i - (intOf iv).toNat)
      case atStart =>
        refine ⟨0, Nat.zero_le _, rfl, ?_, HI.out.2.1, HI.out.2.2⟩
        rw [allTo_zero]
        exact HI.out.1
      case round =>
        obtain ⟨j, hj, rfl, HJ⟩ := hrel
        clear HI
        by_cases h3 : j < i
        · have q2 : decide ((j : Int) < (i : Int)) = true := by simp; omega
          obtain ⟨a, cap, hcx, hel⟩ := HJ.out.1.all
          rw [List.length_map] at hcx
          have hc : wr.cell? ⟨b, 3, none⟩ = some (.slice a Y.all.length cap) := by
            have q : wr.cell? ⟨b, 3, none⟩ = some (.slice a (allTo Y.all f j).length cap) := hcx
            rw [allTo_len] at q; exact q
          obtain ⟨k, hk⟩ : ∃ k, Y.all[j]? = some k := ⟨_, List.getElem?_eq_getElem (by omega)⟩
          obtain ⟨g, rfl, hg, hcs, hfz⟩ := hel j k.cells (by rw [List.getElem?_map, show ({ Y with floor := (i : Int), all := allTo Y.all f j } : RS).all[j]? = some k from allTo_at _ _ _ _ hk]; rfl)
          have c6 : wr.cell? ⟨g, j * 7 + 6, none⟩ = some (.bool k.out) := hcs 6 (by omega)
          have f6 := hfz (j * 7 + 6)
          have gJ : wr.cell? ⟨G, j, none⟩ = some (.bool (f j)) := by rw [HJ.out.2.2.cell, boolsTo_at f i i j h3, if_pos h3]
          obtain ⟨r1, k1⟩ := rin_setOut HJ.out.1 hcx j k (allTo_at _ _ _ _ hk) (k.out || f j)
          have e1 : Hid ((allTo Y.all f j).set j { k with out := k.out || f j } = allTo Y.all f (j + 1)) := allTo_succ _ _ _ _ hk
          have R1 := hid r1
          have K1 := hid k1
          have B1 : Hid (Blk (wr.setCell ⟨g, j * 7 + 6, none⟩ (.bool (k.out || f j))) G 4 (boolsTo f i i)) := HJ.out.2.2.kept k1 (fun ff => by have := HR.out.below _ ff; omega)
          have jl : (j : Int) < (Y.all.length : Int) := by omega
          clear hcx hel hcs hfz r1 k1 hk
          cases ko : k.out
          · rw [ko, Bool.false_or] at R1 K1 B1 e1
            go_upto_region 13 with fail
            go_region
            all_goals go_wp2_with fail
            all_goals go_roundw
            all_goals first
              | (case rel => exact ⟨j + 1, by omega, by simp, by rw [← e1.out]; exact R1.out.drew, (HJ.out.2.1.trans K1.out (H := F) (fun _ f => f) (fun _ _ f => f)).drew, B1.out⟩)
              | (case measure => simp [intOf]; omega)
          · rw [ko, Bool.true_or] at R1 K1 B1 e1
            go_upto_region 13 with fail
            go_region
            all_goals go_wp2_with fail
            all_goals go_roundw
            all_goals first
              | (case rel => exact ⟨j + 1, by omega, by simp, by rw [← e1.out]; exact R1.out.drew, (HJ.out.2.1.trans K1.out (H := F) (fun _ f => f) (fun _ _ f => f)).drew, B1.out⟩)
              | (case measure => simp [intOf]; omega)
        · have q2 : decide ((j : Int) < (i : Int)) = false := by simp; omega
          obtain rfl : j = i := by omega
          go_wp2_with fail
          go_ret
          refine ⟨rfl, ?_, HJ.out.2.1⟩
          unfold RS.compact
          rw [← HF.out]
          exact HJ.out.1
end Go.Proofs.YtnjkpghchgjbaaaGreatDoor
namespace Go.Proofs.YtnjkpghchgjbaaaGreatDoor
open Go.RowKit

/-! The law's own functions: marks, and the lists that are the caller's. -/

def markE (k : Int) : Ent := ⟨⟨#[109, 97, 114, 107]⟩, -1 - k, 0, 0, ⟨#[]⟩, true⟩
theorem lmark_any (w : World) (k : Int) (h0 : 0 ≤ k) (h1 : k ≤ 1000000000) :
    Calls Tryz.prog 20 #[.int .i64 k] w fun e w' => e = .returned (.agg #[.string ⟨#[109, 97, 114, 107]⟩, .int .i64 (-1 - k), .int .i64 0, .int .i64 0, .string ⟨#[]⟩, .bool true]) ∧ Low w.heap.size w w' := by
  go_enter Tryz.func20, Tryz.ntmps20
  go_wp2
  (try simp only [Exit.inBlock, Exit.then])
  refine bodyPost_ret (results_cell rfl w.heap.size (markE k).cells _ rfl (by exact (Blk.new w 50 (markE k).cells).whole) Tryz.underlying50 rfl (sz50 _)) rfl ?_
  exact ⟨rfl, (Low.refl _ w).alloc (Nat.le_refl _) _⟩
structure LOut where
  l : Value
  mark : Int
def LOut.cells (o : LOut) : List Value := [o.l, .int .i64 o.mark]
theorem LOut.len (o : LOut) : o.cells.length = 2 := rfl
/-- A list of the caller's reads as the caller has written it. -/
def OutOk (w : World) (H : Nat → Prop) (o : LOut) : Prop := 0 ≤ o.mark ∧ o.mark ≤ 1000000000 ∧ ∃ a n cap, o.l = .slice a n cap ∧ n ≤ 1000000 ∧ (0 < n → ∃ g, a = some ⟨g, 0, none⟩ ∧ H g ∧ g < w.heap.size ∧ ∀ j, j < n → w.rangeAt g (j * 6) (markE o.mark).cells)
/-- The law's world: the two coffers, and the lists. -/
def WIn (w : World) (F : Nat → Prop) (b bx r : Nat) (outs : List LOut) : Prop := ∃ v, Own w F b 45 [.pointer (some ⟨bx, 0, none⟩), .pointer (some ⟨r, 0, none⟩), v] [⟨2, 48, 2, outs.length, outs.flatMap LOut.cells⟩]
theorem win_outs {w : World} {F : Nat → Prop} {b bx r : Nat} {outs : List LOut} (h : WIn w F b bx r outs) : Sl w b 2 2 (outs.map LOut.cells) := by
  obtain ⟨v, h⟩ := h
  exact h.sl 0 LOut.len rfl
theorem win_low {w w' : World} {F : Nat → Prop} {b bx r : Nat} {outs : List LOut} (h : WIn w F b bx r outs) (k : Low w.heap.size w w') : WIn w' F b bx r outs := by
  obtain ⟨v, h⟩ := h
  exact ⟨v, h.low k⟩
theorem out_low {w w' : World} {H : Nat → Prop} {o : LOut} (h : OutOk w H o) (k : Low w.heap.size w w') : OutOk w' H o := by
  obtain ⟨m0, m1, a, n, cap, hl, hn, hg⟩ := h
  refine ⟨m0, m1, a, n, cap, hl, hn, fun h0 => ?_⟩
  obtain ⟨g, ha, hH, hlt, hr⟩ := hg h0
  exact ⟨g, ha, hH, Nat.lt_of_lt_of_le hlt k.size, fun j hj q v hv => (k.cell hlt).trans (hr j hj q v hv)⟩
set_option maxRecDepth 100000 in
set_option maxHeartbeats 1000000 in
theorem looks_any (w : World) (F H : Nat → Prop) (b bx r : Nat) (outs : List LOut) (h : WIn w F b bx r outs) (ho : ∀ o ∈ outs, OutOk w H o) (hn : outs.length ≤ 1000000000) :
    Calls Tryz.prog 10 #[.pointer (some ⟨b, 0, none⟩)] w fun e w' => e = .returned (.bool true) ∧ Low w.heap.size w w' := by
  have HW := hid h
  have HO := hid ho
  clear h ho
  go_enter Tryz.func10, Tryz.ntmps10
  go_wp2
  go_loopg [3, 4, 5] outs.length (fun left iv ov kv wr => ∃ i : Nat, left = outs.length - i ∧ i ≤ outs.length ∧ iv = .int .i64 (i : Int) ∧ Hid (Low w.heap.size w wr))
  case atStart => exact ⟨0, rfl, Nat.zero_le _, rfl, Low.refl _ _⟩
  case round =>
    obtain ⟨i, hgk, hi, rfl, HL⟩ := hrel
    have HGK := hid hgk
    clear hgk
    obtain ⟨a, cap, hc, hel⟩ := win_outs (win_low HW.out HL.out)
    rw [List.length_map] at hc
    by_cases h1 : i < outs.length
    · have q1 : decide ((i : Int) < (outs.length : Int)) = true := by simp; omega
      obtain ⟨o, hk⟩ : ∃ o, outs[i]? = some o := ⟨_, List.getElem?_eq_getElem h1⟩
      obtain ⟨g, rfl, hg, hcs, _⟩ := hel i o.cells (by rw [List.getElem?_map, hk]; rfl)
      obtain ⟨m0, m1, a2, n, cap2, hl2, hn2, hg2⟩ := out_low (HO.out o (List.mem_of_getElem? hk)) HL.out
      have c0 : wr.cell? ⟨g, i * 2, none⟩ = some (.slice a2 n cap2) := by have := hcs 0 (by omega); rw [← hl2]; exact this
      have c1 : wr.cell? ⟨g, i * 2 + 1, none⟩ = some (.int .i64 o.mark) := hcs 1 (by omega)
      have HG2 := hid hg2
      clear hcs hel hl2 hg2
      generalize o.mark = mk at *
      go_upto_region 5 with fail
      go_name_world V hV
      have hL0 : Low w.heap.size w V := by rw [← hV]; exact HL.out.alloc HL.out.size _
      have hLV : Low wr.heap.size wr V := by rw [← hV]; exact (Low.refl _ wr).alloc (Nat.le_refl _) _
      have hBV : Blk V wr.heap.size 48 [.slice a2 n cap2, .int .i64 mk] := by rw [← hV]; exact Blk.new wr 48 [.slice a2 n cap2, .int .i64 mk]
      have L0 := hid hL0
      have LV := hid hLV
      have BV := hid hBV
      generalize hM : wr.heap.size = M at *
      clear hL0 hLV hBV hV c0 c1 hc hg
      go_wp2_with fail
      go_loopg [5] n (fun left kv wx => ∃ j : Nat, left = n - j ∧ j ≤ n ∧ kv = .int .i64 (j : Int) ∧ Hid (Low V.heap.size V wx))
      case atStart => exact ⟨0, rfl, Nat.zero_le _, rfl, Low.refl _ _⟩
      case round =>
        obtain ⟨j, hgj, hj, rfl, HX⟩ := hrel
        have HGJ := hid hgj
        clear hgj
        have bx2 := BV.out.low HX.out BV.out.lt
        have v0 : wr.cell? ⟨M, 0, none⟩ = some (.slice a2 n cap2) := bx2.cell 0
        have v1 : wr.cell? ⟨M, 1, none⟩ = some (.int .i64 mk) := bx2.cell 1
        clear bx2
        by_cases h2 : j < n
        · have q2 : decide ((j : Int) < (n : Int)) = true := by simp; omega
          obtain ⟨g2, rfl, _, hlt, hr⟩ := HG2.out (by omega)
          have hr2 : wr.rangeAt g2 (j * 6) (markE mk).cells := fun q v hv => (HX.out.cell (show g2 < V.heap.size by have := LV.out.size; omega)).trans ((LV.out.cell hlt).trans (hr j h2 q v hv))
          have e0 : wr.cell? ⟨g2, j * 6, none⟩ = some (.string ⟨#[109, 97, 114, 107]⟩) := hr2 0 _ rfl
          have e1 : wr.cell? ⟨g2, j * 6 + 1, none⟩ = some (.int .i64 (-1 - mk)) := hr2 1 _ rfl
          have e2 : wr.cell? ⟨g2, j * 6 + 2, none⟩ = some (.int .i64 0) := hr2 2 _ rfl
          have e3 : wr.cell? ⟨g2, j * 6 + 3, none⟩ = some (.int .i64 0) := hr2 3 _ rfl
          have e4 : wr.cell? ⟨g2, j * 6 + 4, none⟩ = some (.string ⟨#[]⟩) := hr2 4 _ rfl
          have e5 : wr.cell? ⟨g2, j * 6 + 5, none⟩ = some (.bool true) := hr2 5 _ rfl
          have jn : (j : Int) < (n : Int) := by omega
          clear hr2 hr hlt
          go_upto_region 8 with fail
          have lM : M < wr.heap.size := World.block_lt_of_cell? wr _ v0
          have lg : g2 < wr.heap.size := World.block_lt_of_cell? wr _ e0
          go_region_held3 (fun W' => W'.cell? ⟨M, 0, none⟩ = some (.slice (some ⟨g2, 0, none⟩) n cap2) ∧ W'.cell? ⟨M, 1, none⟩ = some (.int .i64 mk) ∧ W'.cell? ⟨g2, j * 6, none⟩ = some (.string ⟨#[109, 97, 114, 107]⟩) ∧ W'.cell? ⟨g2, j * 6 + 1, none⟩ = some (.int .i64 (-1 - mk)) ∧ W'.cell? ⟨g2, j * 6 + 2, none⟩ = some (.int .i64 0) ∧ W'.cell? ⟨g2, j * 6 + 3, none⟩ = some (.int .i64 0) ∧ W'.cell? ⟨g2, j * 6 + 4, none⟩ = some (.string ⟨#[]⟩) ∧ W'.cell? ⟨g2, j * 6 + 5, none⟩ = some (.bool true)) (first | assumption | go_keep)
            (first | (go_at_call 20; refine (lmark_any _ _ m0 m1).mono ?_; rintro e y1 ⟨rfl, l1⟩; have S1 : y1.cell? ⟨M, 0, none⟩ = some (.slice (some ⟨g2, 0, none⟩) n cap2) ∧ y1.cell? ⟨M, 1, none⟩ = some (.int .i64 mk) ∧ y1.cell? ⟨g2, j * 6, none⟩ = some (.string ⟨#[109, 97, 114, 107]⟩) ∧ y1.cell? ⟨g2, j * 6 + 1, none⟩ = some (.int .i64 (-1 - mk)) ∧ y1.cell? ⟨g2, j * 6 + 2, none⟩ = some (.int .i64 0) ∧ y1.cell? ⟨g2, j * 6 + 3, none⟩ = some (.int .i64 0) ∧ y1.cell? ⟨g2, j * 6 + 4, none⟩ = some (.string ⟨#[]⟩) ∧ y1.cell? ⟨g2, j * 6 + 5, none⟩ = some (.bool true) := ⟨(l1.cell lM).trans v0, (l1.cell lM).trans v1, (l1.cell lg).trans e0, (l1.cell lg).trans e1, (l1.cell lg).trans e2, (l1.cell lg).trans e3, (l1.cell lg).trans e4, (l1.cell lg).trans e5⟩; have L1 := hid l1; clear l1))
          go_wp2_with fail
          go_roundg (n - (j + 1))
          case rel => exact ⟨j + 1, rfl, by omega, by simp, HX.out.drew.trans (L1.out.mono (by have := HX.out.size; simpa using this))⟩
          case measure => have := HGJ.out; omega
        · have q2 : decide ((j : Int) < (n : Int)) = false := by simp; omega
          go_wp2_with fail
          go_roundg (outs.length - (i + 1))
          case rel => exact ⟨i + 1, rfl, by omega, by simp, L0.out.trans (HX.out.mono L0.out.size)⟩
          case measure => have := HGK.out; omega
    · have q1 : decide ((i : Int) < (outs.length : Int)) = false := by simp; omega
      clear hel
      go_wp2_with fail
      go_ret
      exact ⟨rfl, HL.out⟩
end Go.Proofs.YtnjkpghchgjbaaaGreatDoor
