import Derived.Test.YtnjkpghchgjbaaaGreatDoorRefKToPC
namespace Go.Proofs.YtnjkpghchgjbaaaGreatDoor
open Go.RowKit

variable {F : Nat → Prop} {b : Nat} {X : PS}

theorem Open_any (key nonce path s : ByteArray) (w : World) (h : goodP key nonce path) (s0 : 8 ≤ s.size) (s1 : s.size ≤ 72) (hF : Fours w) (h1 : 1 ≤ w.heap.size) :
    Calls Tryz.prog 99 #[.string key, .string nonce, .string path, .string s] w fun e w' => e = .returned (.tuple #[.string (openT key nonce path s), .int .i64 (openE key nonce path s)]) ∧ Low w.heap.size w w' := by
  unfold openT openE
  by_cases ho : opens key nonce path s
  · have : openB key nonce path s = true := by simp only [openB]; exact decide_eq_true ho
    rw [this]
    exact Open_yes _ _ _ _ w h s0 s1 ho hF h1
  · have : openB key nonce path s = false := by simp only [openB]; exact decide_eq_false ho
    rw [this]
    exact Open_bad _ _ _ _ w h s0 s1 ho
/-- The table is where it was. -/
theorem fours_low {w w' : World} (h : Fours w) (h1 : 1 ≤ w.heap.size) (k : Low w.heap.size w w') : Fours w' := h.later (k.mono h1)
def pOpened (K : PKey) (e : Ent) : ByteArray × Int := if keyGone K then (⟨#[]⟩, 14) else if openB K.text (nonceTo e.draw 12) e.path e.sealed then (maskOf K.text (nonceTo e.draw 12) (coverOf e.sealed), 0) else (⟨#[]⟩, 3)
set_option maxRecDepth 100000 in
set_option maxHeartbeats 1000000 in
theorem popened_any (w : World) (e : Ent) (K : PKey) (i : Nat) (h : XIn w F b X) (hk : X.keys[i]? = some K) (hi : e.key = (i : Int) + 1) (hi6 : i ≤ 6) (hK : K.text.size = 48) (hE : EntOk e) (hF : Fours w) (h1 : 1 ≤ w.heap.size) :
    Calls Tryz.prog 90 #[.pointer (some ⟨b, 0, none⟩), .agg #[.string e.path, .int .i64 e.rev, .int .i64 e.key, .int .i64 e.draw, .string e.sealed, .bool e.gone]] w fun r w' =>
      r = .returned (.tuple #[.string (pOpened K e).1, .int .i64 (pOpened K e).2]) ∧ Low w.heap.size w w' := by
  have HG : Hid (goodP K.text (nonceTo e.draw 12) e.path) := ⟨hK, nonceTo_size _ _, hE.path.1, hE.path.2⟩
  have HE := hid hE
  have HF := hid hF
  have hD := hE.draw
  have HR := hid h
  have HK := hid hk
  have kg : keyGone K = false := by
    unfold keyGone
    rw [beq_eq_false_iff_ne]
    intro q
    have := toList_inj q
    rw [this] at hK
    cases hK
  have KG := hid kg
  rw [hi]
  clear h hk hK hE hF hi kg
  go_enter Tryz.func90, Tryz.ntmps90
  go_upto_region 6 with (first | (go_at_call 86; refine (key_any _ i K (by exact HR.out.alloc _) HK.out (by omega)).mono ?_; rintro r y1 ⟨rfl, l1⟩; have bEa : Blk y1 w.heap.size 50 (Ent.mk e.path e.rev ((i : Int) + 1) e.draw e.sealed e.gone).cells := (Blk.new w 50 (Ent.mk e.path e.rev ((i : Int) + 1) e.draw e.sealed e.gone).cells).low l1 (by simp); have L1 : Hid (Low w.heap.size w y1) := ((Low.refl _ w).alloc (Nat.le_refl _) _).trans (l1.mono (by simp)); have x0a : y1.cell? ⟨w.heap.size, 0, none⟩ = some (.string e.path) := bEa.cell 0; have x3a : y1.cell? ⟨w.heap.size, 3, none⟩ = some (.int .i64 e.draw) := bEa.cell 3; have x4a : y1.cell? ⟨w.heap.size, 4, none⟩ = some (.string e.sealed) := bEa.cell 4; have BE1 := hid bEa; clear l1 bEa) | (go_at_call 93; refine (destroyed_any _ K).mono ?_; rw [KG.out]; rintro r y2 ⟨rfl, l2⟩; have bEb : Blk y2 w.heap.size 50 (Ent.mk e.path e.rev ((i : Int) + 1) e.draw e.sealed e.gone).cells := (BE1.out.alloc _).low l2 (by have := BE1.out.lt; simp; omega); have bKb : Blk y2 y1.heap.size 56 K.cells := (Blk.new y1 56 K.cells).low l2 (by simp); have x0b : y2.cell? ⟨w.heap.size, 0, none⟩ = some (.string e.path) := bEb.cell 0; have x3b : y2.cell? ⟨w.heap.size, 3, none⟩ = some (.int .i64 e.draw) := bEb.cell 3; have x4b : y2.cell? ⟨w.heap.size, 4, none⟩ = some (.string e.sealed) := bEb.cell 4; have t0b : y2.cell? ⟨y1.heap.size, 0, none⟩ = some (.string K.text) := bKb.cell 0; have L2 : Hid (Low w.heap.size w y2) := (L1.out.alloc L1.out.size _).trans (l2.mono (by have := L1.out.size; simp; omega)); have BE2 := hid bEb; have BK2 := hid bKb; clear l2 bEb bKb x0a x3a x4a) | (go_at_call 94; refine (nonceOf_any _ _ hD.1 hD.2).mono ?_; rintro r y3 ⟨rfl, l3⟩; have bEc : Blk y3 w.heap.size 50 (Ent.mk e.path e.rev ((i : Int) + 1) e.draw e.sealed e.gone).cells := BE2.out.low l3 BE2.out.lt; have bKc : Blk y3 y1.heap.size 56 K.cells := BK2.out.low l3 BK2.out.lt; have x0c : y3.cell? ⟨w.heap.size, 0, none⟩ = some (.string e.path) := bEc.cell 0; have x3c : y3.cell? ⟨w.heap.size, 3, none⟩ = some (.int .i64 e.draw) := bEc.cell 3; have x4c : y3.cell? ⟨w.heap.size, 4, none⟩ = some (.string e.sealed) := bEc.cell 4; have t0c : y3.cell? ⟨y1.heap.size, 0, none⟩ = some (.string K.text) := bKc.cell 0; have L3 : Hid (Low w.heap.size w y3) := L2.out.trans (l3.mono L2.out.size); clear l3 bEc bKc x0b x3b x4b t0b) | (go_at_call 99; refine (Open_any _ _ _ _ _ HG.out HE.out.sealed.1 HE.out.sealed.2 (fours_low HF.out h1 L3.out) (Nat.le_trans h1 L3.out.size)).mono ?_; rintro r y4 ⟨rfl, l4⟩; have L4 : Hid (Low w.heap.size w y4) := L3.out.trans (l4.mono L3.out.size); clear l4))
  cases q3 : openB K.text (nonceTo e.draw 12) e.path e.sealed
  · have q4 : (openE K.text (nonceTo e.draw 12) e.path e.sealed != 0) = true := by simp [openE, q3]
    go_wp2_with fail
    go_ret2
    exact ⟨by simp [pOpened, KG.out, q3], L4.out⟩
  · have q4 : (openE K.text (nonceTo e.draw 12) e.path e.sealed != 0) = false := by simp [openE, q3]
    go_wp2_with fail
    go_ret2
    exact ⟨by simp [pOpened, KG.out, q3, openT], L4.out⟩
end Go.Proofs.YtnjkpghchgjbaaaGreatDoor
namespace Go.Proofs.YtnjkpghchgjbaaaGreatDoor
open Go.RowKit

variable {F : Nat → Prop} {b : Nat} {X : PS}

theorem keyGone_no {K : PKey} (hK : K.text.size = 48) : keyGone K = false := by
  unfold keyGone
  rw [beq_eq_false_iff_ne]
  intro q
  have := toList_inj q
  rw [this] at hK
  cases hK
set_option maxRecDepth 100000 in
set_option maxHeartbeats 1000000 in
theorem sealed_any (w : World) (path plain : ByteArray) (K : PKey) (i : Nat) (h : XIn w F b X) (hk : X.keys[i]? = some K) (hi6 : i ≤ 6) (hK : K.text.size = 48) (hp : 1 ≤ path.size ∧ path.size ≤ 16) (hs : plain.size ≤ 64) (hd : 0 ≤ X.draws ∧ X.draws + 1 ≤ 1000000000000) (hF : Fours w) (h1 : 1 ≤ w.heap.size) :
    Calls Tryz.prog 83 #[.pointer (some ⟨b, 0, none⟩), .int .i64 ((i : Int) + 1), .string path, .string plain] w fun r w' =>
      r = .returned (.tuple #[.agg (closedOf K.text ((i : Int) + 1) path plain (X.draws + 1)).cells.toArray, .int .i64 0]) ∧ XIn w' F b { X with draws := X.draws + 1 } ∧ Kept F w w' := by
  have HG : Hid (goodP K.text (nonceTo (X.draws + 1) 12) path) := ⟨hK, nonceTo_size _ _, hp.1, hp.2⟩
  have HF := hid hF
  have HR := hid h
  have HK := hid hk
  have KG := hid (keyGone_no hK)
  have hd0 := hd.1
  have hd1 := hd.2
  have hb := h.lt
  clear h hk hK hF hd
  go_enter Tryz.func83, Tryz.ntmps83
  go_upto_region 10 with (first | (go_at_call 86; refine (key_any _ i K (by exact HR.out.alloc _) HK.out (by omega)).mono ?_; rintro r y1 ⟨rfl, l1⟩; have bN : Blk y1 w.heap.size 50 Ent.zero.cells := (Blk.new w 50 Ent.zero.cells).low l1 (by simp); have L1 : Hid (Low w.heap.size w y1) := ((Low.refl _ w).alloc (Nat.le_refl _) _).trans (l1.mono (by simp)); have BN1 := hid bN; clear l1 bN) | (go_at_call 93; refine (destroyed_any _ K).mono ?_; rw [KG.out]; rintro r y2 ⟨rfl, l2⟩; have bNb : Blk y2 w.heap.size 50 Ent.zero.cells := (BN1.out.alloc _).low l2 (by have := BN1.out.lt; simp; omega); have bKb : Blk y2 y1.heap.size 56 K.cells := (Blk.new y1 56 K.cells).low l2 (by simp); have L2 : Hid (Low w.heap.size w y2) := (L1.out.alloc L1.out.size _).trans (l2.mono (by have := L1.out.size; simp; omega)); have d2 := xin_draws (HR.out.low L2.out); have BN2 := hid bNb; have BK2 := hid bKb; clear l2 bNb bKb) | (go_at_call 94; refine (nonceOf_any _ _ (by omega) hd1).mono ?_; rintro r y3 ⟨rfl, l3⟩; have bNc : Blk y3 w.heap.size 50 Ent.zero.cells := BN2.out.low l3 BN2.out.lt; have bKc : Blk y3 y1.heap.size 56 K.cells := BK2.out.low l3 BK2.out.lt; have t0c : y3.cell? ⟨y1.heap.size, 0, none⟩ = some (.string K.text) := bKc.cell 0; have L3 : Hid (Low w.heap.size w y3) := L2.out.trans (l3.mono L2.out.size); have BN3 := hid bNc; clear l3 bNc bKc d2) | (go_at_call 95; refine (Seal_yes _ _ _ _ _ HG.out hs (fours_low HF.out h1 L3.out) (Nat.le_trans h1 L3.out.size)).mono ?_; rintro r y4 ⟨rfl, l4⟩; have L4 : Hid (Low w.heap.size w y4) := L3.out.trans (l4.mono L3.out.size); have BN4 := hid (BN3.out.low l4 BN3.out.lt); have X4 := hid (HR.out.low L4.out); have d4 := xin_draws X4.out; have f4 := X4.out.frozen 6; clear l4))
  go_name_world W hW
  have RW : Hid (XIn W F b { X with draws := X.draws + 1 }) := by
    show XIn W F b _
    rw [← hW]; exact xin_set_draws X4.out (X.draws + 1)
  have hne : w.heap.size ≠ b := by omega
  have BW : Hid (Blk W w.heap.size 50 Ent.zero.cells) := by
    show Blk W _ _ _
    rw [← hW]; exact BN4.out.setOther hne _
  have KW : Hid (Kept F w W) := by
    show Kept F w W
    rw [← hW]; exact L4.out.kept.trans (setCell_kept y4 ⟨b, 6, none⟩ _) (fun _ f => f.elim) (fun q _ e => by rw [show q = b from e]; exact HR.out.inF)
  clear hW d4 f4
  go_wp2_with ((with_reducible refine st50 (.tmp 8) (.tmp 49) w.heap.size Ent.zero (closedOf K.text ((i : Int) + 1) path plain (X.draws + 1)) ?_ ?_ BW.out ?_); rfl; rfl; intro w1 b1 k1 t1; have B1 := hid b1; have K1 := hid k1; clear b1 k1 t1)
  (try simp only [Exit.inBlock, Exit.then])
  refine bodyPost_ret (results_cell_tmp rfl w.heap.size (closedOf K.text ((i : Int) + 1) path plain (X.draws + 1)).cells _ rfl B1.out.whole Tryz.underlying50 rfl (sz50 _)) rfl ?_
  refine ⟨rfl, RW.out.kept K1.out (fun q hq e => by have := HR.out.below q hq; omega), KW.out.trans K1.out (fun _ f => f) (fun q hq e => by omega)⟩
end Go.Proofs.YtnjkpghchgjbaaaGreatDoor
namespace Go.Proofs.YtnjkpghchgjbaaaGreatDoor
open Go.RowKit

variable {F : Nat → Prop} {b : Nat} {X : PS}

theorem nilB (p : ByteArray) : (p.toList == (⟨#[]⟩ : ByteArray).toList) = (p.size == 0) := by
  rw [Bool.eq_iff_iff]
  simp only [beq_iff_eq]
  constructor
  · intro e
    have := toList_inj e
    rw [this]; rfl
  · intro e
    have : p = ⟨#[]⟩ := by
      apply bytes_ext
      exact List.eq_nil_of_length_eq_zero (by simpa using e)
    rw [this]
set_option maxRecDepth 100000 in
set_option maxHeartbeats 1000000 in
theorem isOperation_any (w : World) (o : AOp) (hp : o.path.size ≤ maxLen) (hq : o.plain.size ≤ maxLen) :
    Calls Tryz.prog 61 #[.agg #[.int .i64 o.kind, .string o.path, .string o.plain, .int .i64 o.rev]] w fun e w' => e = .returned (.bool (properOf o)) ∧ Low w.heap.size w w' := by
  have HP := hid hp
  have HQ := hid hq
  clear hp hq
  cases hN : (o.plain.toList == (⟨#[]⟩ : ByteArray).toList)
  · have hN2 : (o.plain.toList != (⟨#[]⟩ : ByteArray).toList) = true := by rw [bne, hN]; rfl
    have HN : Hid ((o.plain.size == 0) = false) := by show _ = _; rw [← nilB]; exact hN
    go_enter Tryz.func61, Tryz.ntmps61
    go_wp2_with (first | (go_at_call 80; refine (pisPath_any _ _ HP.out).mono ?_; rintro e y1 ⟨rfl, hy⟩; obtain rfl := hy.symm; generalize hI : isPath o.path = I; have HI := hid hI; clear hI) | (go_at_call 81; refine (isSecret_any _ _ HQ.out).mono ?_; rintro e y1 ⟨rfl, hy⟩; obtain rfl := hy.symm; generalize hJ : decide (o.plain.size ≤ 64) = J; have HJ := hid hJ; clear hJ))
    all_goals
      go_ret
      refine ⟨?_, (Low.refl _ w).alloc (Nat.le_refl _) _⟩
      have hz := HN.out
      simp only [properOf, hz]
      (try rw [HI.out])
      (try rw [HJ.out])
      simp_all
    all_goals exact False.elim HJ.out
  · have hN2 : (o.plain.toList != (⟨#[]⟩ : ByteArray).toList) = false := by rw [bne, hN]; rfl
    have HN : Hid ((o.plain.size == 0) = true) := by show _ = _; rw [← nilB]; exact hN
    go_enter Tryz.func61, Tryz.ntmps61
    go_wp2_with (first | (go_at_call 80; refine (pisPath_any _ _ HP.out).mono ?_; rintro e y1 ⟨rfl, hy⟩; obtain rfl := hy.symm; generalize hI : isPath o.path = I; have HI := hid hI; clear hI) | (go_at_call 81; refine (isSecret_any _ _ HQ.out).mono ?_; rintro e y1 ⟨rfl, hy⟩; obtain rfl := hy.symm; generalize hJ : decide (o.plain.size ≤ 64) = J; have HJ := hid hJ; clear hJ))
    all_goals
      go_ret
      refine ⟨?_, (Low.refl _ w).alloc (Nat.le_refl _) _⟩
      have hz := HN.out
      simp only [properOf, hz]
      (try rw [HI.out])
      (try rw [HJ.out])
      simp_all
    all_goals exact False.elim HJ.out
/-- What an operation comes to be. -/
theorem prepared_del (w : World) (seen : Int) (o : AOp) (hk : (o.kind == 2) = true) :
    Calls Tryz.prog 62 #[.pointer (some ⟨b, 0, none⟩), .int .i64 seen, .agg #[.int .i64 o.kind, .string o.path, .string o.plain, .int .i64 o.rev]] w fun e w' => e = .returned (.tuple #[.agg (delEnt o.path).cells.toArray, .int .i64 0]) ∧ Low w.heap.size w w' := by
  go_enter Tryz.func62, Tryz.ntmps62
  go_wp2
  (try simp only [Exit.inBlock, Exit.then])
  refine bodyPost_ret (results_cell_tmp rfl (w.heap.size + 1) (delEnt o.path).cells _ rfl ?_ Tryz.underlying50 rfl (sz50 _)) rfl ?_
  · have q := Blk.new (w.alloc (.cells o.cells.toArray 75)) 50 (delEnt o.path).cells
    rw [World.size_alloc] at q
    exact q.whole
  · exact ⟨rfl, ((Low.refl _ w).alloc (Nat.le_refl _) _).alloc (by simp) _⟩
set_option maxRecDepth 100000 in
set_option maxHeartbeats 1000000 in
theorem prepared_put (w : World) (seen : Int) (o : AOp) (K : PKey) (i : Nat) (hk2 : (o.kind == 2) = false) (h : XIn w F b X) (hw : writerOf X.keys seen = (i : Int) + 1) (hk : X.keys[i]? = some K) (hl : X.keys.length ≤ 6) (hK : K.text.size = 48) (hp : 1 ≤ o.path.size ∧ o.path.size ≤ 16) (hs : o.plain.size ≤ 64) (hd : 0 ≤ X.draws ∧ X.draws + 1 ≤ 1000000000000) (hF : Fours w) (h1 : 1 ≤ w.heap.size) :
    Calls Tryz.prog 62 #[.pointer (some ⟨b, 0, none⟩), .int .i64 seen, .agg #[.int .i64 o.kind, .string o.path, .string o.plain, .int .i64 o.rev]] w fun e w' =>
      e = .returned (.tuple #[.agg (closedOf K.text ((i : Int) + 1) o.path o.plain (X.draws + 1)).cells.toArray, .int .i64 0]) ∧ XIn w' F b { X with draws := X.draws + 1 } ∧ Kept F w w' := by
  have HR := hid h
  have HW := hid hw
  have HK := hid hk
  have HT := hid hK
  have HP := hid hp
  have HD := hid hd
  have HF := hid hF
  have hil : i < X.keys.length := (List.getElem?_eq_some_iff.1 hk).1
  clear h hw hk hK hp hd hF
  have hV : Hid (∀ A B : Obj, Low w.heap.size w ((w.alloc A).alloc B)) := fun A B => ((Low.refl _ w).alloc (Nat.le_refl _) A).alloc (by simp) B
  go_enter Tryz.func62, Tryz.ntmps62
  go_wp2_with (first | (go_at_call 82; refine (writer_any _ _ (by exact (HR.out.alloc _).alloc _) hl (by omega)).mono ?_; rw [HW.out]; rintro e y1 ⟨rfl, rfl⟩) | (go_at_call 83; refine (sealed_any _ _ _ K i (by exact (HR.out.alloc _).alloc _) HK.out (by omega) HT.out HP.out hs HD.out (by exact fours_low HF.out h1 (hV.out _ _)) (by simp)).mono ?_; rintro e y2 ⟨rfl, r2, k2⟩; have R2 := hid r2; have K2 := hid k2; have BN : Hid (Blk y2 (w.heap.size + 1) 50 Ent.zero.cells) := (show Blk ((w.alloc (.cells o.cells.toArray 75)).alloc (.cells Ent.zero.cells.toArray 50)) (w.heap.size + 1) 50 Ent.zero.cells from (by (have q := Blk.new (w.alloc (.cells o.cells.toArray 75)) 50 Ent.zero.cells); rw [World.size_alloc] at q; exact q)).kept k2 (fun f => by have := HR.out.below _ f; omega); clear r2 k2) | ((with_reducible refine st50 (.tmp 6) (.tmp 25) (w.heap.size + 1) Ent.zero (closedOf K.text ((i : Int) + 1) o.path o.plain (X.draws + 1)) ?_ ?_ BN.out ?_); rfl; rfl; intro w1 b1 k1 t1; have B1 := hid b1; have K1 := hid k1; clear b1 k1 t1))
  (try simp only [Exit.inBlock, Exit.then])
  refine bodyPost_ret (results_cell_tmp rfl (w.heap.size + 1) (closedOf K.text ((i : Int) + 1) o.path o.plain (X.draws + 1)).cells _ rfl B1.out.whole Tryz.underlying50 rfl (sz50 _)) rfl ?_
  refine ⟨rfl, R2.out.kept K1.out (fun q hq e => by have := HR.out.below q hq; omega), ?_⟩
  exact ((hV.out _ _).kept.trans K2.out (H := F) (fun _ f => f.elim) (fun _ _ f => f)).trans K1.out (fun _ f => f) (fun q hq e => by omega)
end Go.Proofs.YtnjkpghchgjbaaaGreatDoor
