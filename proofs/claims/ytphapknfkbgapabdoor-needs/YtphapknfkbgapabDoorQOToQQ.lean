import Derived.Test.YtphapknfkbgapabDoorQIToQN
import Derived.Test.YtphapknfkbgapabDoorQCToQG
namespace Go.Proofs.YtphapknfkbgapabDoor
open Go.RowKit

variable {N : ByteArray → Prop} {G : Nat → Prop} {b bx S n : Nat} {R : Int} {key : ByteArray} {X : PS} {D : PD} {Q : Pods}

/-! turn: the key. -/
def TurnPost (N : ByteArray → Prop) (n : Nat) (w w' : World) (G : Nat → Prop) (b bx S : Nat) (R : Int) (key : ByteArray) (D : PD) (Q : Pods) : Prop := ∃ X' D', JQ w' G b bx S R key X' D' Q ∧ (Kn N (n + 1) X' D' S R ∧ Still D D') ∧ Kept (fun k => ¬ G k) w w'
theorem JQ.boxed {w : World} (h : JQ w G b bx S R key X D Q) (o : Obj) : JQ (w.alloc o) G b bx S R key X D Q := h.low ((Low.refl _ w).alloc (Nat.le_refl _) o)
theorem JQ.setDest {w : World} (h : JQ w G b bx S R key X D Q) {k : Nat} (hk : k < 7) (v : Bool) : JQ (w.setCell ⟨b, 22 + k, none⟩ (.bool v)) G b bx S R key X { D with dest := D.dest.set k v } Q ∧ Kept (fun k => ¬ G k) w (w.setCell ⟨b, 22 + k, none⟩ (.bool v)) :=
  h.write (fun Fq q _ => ⟨Fq, qin_setDest q hk v, qset_kept q (22 + k) _, fun _ f => Or.inl f⟩)
set_option maxRecDepth 100000 in
set_option maxHeartbeats 2000000 in
theorem turnPromote (w : World) (a : AAct) (h : JQ w G b bx S R key X D Q) (k : Kn N n X D S R) (hk : a.kind = 9) :
    Calls Tryd.prog 20 #[.pointer (some ⟨b, 0, none⟩), .agg #[.int .i64 a.kind, .int .i64 a.s, .int .i64 a.n, .int .i64 a.k, .string a.path, .string a.text, .bool a.on]] w fun e w' => e = .returned (.bool true) ∧ TurnPost N n w w' G b bx S R key D Q := by
  obtain ⟨s1, s2, s3⟩ := kn_promote k
  have hb0 : b < w.heap.size := by obtain ⟨Fq, hq, _⟩ := h.q; exact hq.lt
  obtain ⟨er, X', hP, hX', her⟩ : ∃ (er : Int) (X' : PS), PUni 42 [] X (.int .i64 er) X' ∧ Kn N (n + 1) X' D S R ∧ (er = 0 ∨ er = 17 ∨ er = 18) := by
    by_cases hu : X.turn = 1
    · by_cases hall : ∀ (i : Nat) (s : PSrv), X.servers[i]? = some s → s.seen = X.epoch
      · obtain ⟨m, P, _, _, hp, hk2⟩ := s3 hu hall
        exact ⟨0, _, hp, hk2.mono (by omega), Or.inl rfl⟩
      · refine ⟨18, X, s2 hu ?_, k.mono (by omega), Or.inr (Or.inr rfl)⟩
        simp only [Classical.not_forall] at hall
        obtain ⟨i, s, hs, hne⟩ := hall
        exact ⟨i, s, hs, hne⟩
    · exact ⟨17, X, s1 hu, k.mono (by omega), Or.inr (Or.inl rfl)⟩
  have HP := hid hP
  have HX := hid hX'
  have HJ := hid (h.boxed (.cells a.cells.toArray 32))
  obtain ⟨Fq, hq, _⟩ := HJ.out.q
  have c0 := qin_ptr hq
  have lb := hq.lt
  have LB : Hid (Low w.heap.size w (w.alloc (.cells a.cells.toArray 32))) := (Low.refl _ w).alloc (Nat.le_refl _) _
  clear s1 s2 s3 h k hP hX' hq
  rw [hk]
  rcases her with rfl | rfl | rfl
  all_goals
    go_enter Tryd.func20, Tryd.ntmps20
    go_upto_region 14 with fail
    go_name_world W hW
    have JW : Hid (JQ W G b bx S R key X D Q) := by
      show JQ W _ _ _ _ _ _ _ _ _
      rw [← hW]
      have := HJ.out
      unfold AAct.cells at this
      rw [hk] at this
      exact this
    have LW : Hid (Low w.heap.size w W) := by
      show Low _ _ _
      rw [← hW]; exact (Low.refl _ w).alloc (Nat.le_refl _) _
    clear hW
    obtain ⟨Fq1, hq1, _⟩ := JW.out.q
    have c0b := qin_ptr hq1
    have lb1 := hq1.lt
    clear hq1
    go_wp2_with (go_at_call 42; refine (JW.out.callX HP.out).mono ?_; rintro e y1 ⟨rfl, j1, q1⟩; have J1 := hid j1; have K1 := hid q1; clear j1 q1)
    go_ret
    exact ⟨rfl, X', D, J1.out, ⟨HX.out, ⟨rfl, rfl⟩⟩, LW.out.kept.trans K1.out (fun _ f => f.elim) (fun _ _ f => f)⟩
set_option maxRecDepth 100000 in
set_option maxHeartbeats 2000000 in
theorem turnGate (w : World) (a : AAct) (h : JQ w G b bx S R key X D Q) (k : Kn N n X D S R) (hk : a.kind = 11) :
    Calls Tryd.prog 20 #[.pointer (some ⟨b, 0, none⟩), .agg #[.int .i64 a.kind, .int .i64 a.s, .int .i64 a.n, .int .i64 a.k, .string a.path, .string a.text, .bool a.on]] w fun e w' => e = .returned (.bool true) ∧ TurnPost N n w w' G b bx S R key D Q := by
  obtain ⟨s1, s2, s3⟩ := kn_gate k
  have hb0 : b < w.heap.size := by obtain ⟨Fq, hq, _⟩ := h.q; exact hq.lt
  obtain ⟨er, X', hP, hX', her⟩ : ∃ (er : Int) (X' : PS), PUni 44 [] X (.int .i64 er) X' ∧ Kn N (n + 1) X' D S R ∧ (er = 0 ∨ er = 17 ∨ er = 19) := by
    cases hg : pGoing X
    · exact ⟨17, X, s1 hg, k.mono (by omega), Or.inr (Or.inl rfl)⟩
    · cases hu : pUsed X
      · obtain ⟨hp, hk2⟩ := s3 hg hu
        exact ⟨0, _, hp, hk2.mono (by omega), Or.inl rfl⟩
      · exact ⟨19, X, s2 hg hu, k.mono (by omega), Or.inr (Or.inr rfl)⟩
  have HP := hid hP
  have HX := hid hX'
  have HJ := hid h
  clear s1 s2 s3 h k hP hX'
  rw [hk]
  rcases her with rfl | rfl | rfl
  all_goals
    go_enter Tryd.func20, Tryd.ntmps20
    go_upto_region 19 with fail
    go_name_world W hW
    have LW : Hid (Low w.heap.size w W) := by
      show Low _ _ _
      rw [← hW]; exact (Low.refl _ w).alloc (Nat.le_refl _) _
    have JW : Hid (JQ W G b bx S R key X D Q) := HJ.out.low LW.out
    clear hW
    obtain ⟨Fq1, hq1, _⟩ := JW.out.q
    have c0b := qin_ptr hq1
    have lb1 := hq1.lt
    clear hq1
    go_wp2_with (go_at_call 44; refine (JW.out.callX HP.out).mono ?_; rintro e y1 ⟨rfl, j1, q1⟩; have J1 := hid j1; have K1 := hid q1; clear j1 q1)
    go_ret
    exact ⟨rfl, X', D, J1.out, ⟨HX.out, ⟨rfl, rfl⟩⟩, LW.out.kept.trans K1.out (fun _ f => f.elim) (fun _ _ f => f)⟩
set_option maxRecDepth 100000 in
set_option maxHeartbeats 2000000 in
theorem turnStage (w : World) (a : AAct) (h : JQ w G b bx S R key X D Q) (k : Kn N n X D S R) (hk : a.kind = 8) :
    Calls Tryd.prog 20 #[.pointer (some ⟨b, 0, none⟩), .agg #[.int .i64 a.kind, .int .i64 a.s, .int .i64 a.n, .int .i64 a.k, .string a.path, .string a.text, .bool a.on]] w fun e w' => e = .returned (.bool true) ∧ TurnPost N n w w' G b bx S R key D Q := by
  have hb0 : b < w.heap.size := by obtain ⟨Fq, hq, _⟩ := h.q; exact hq.lt
  have HJ := hid h
  have HK := hid k
  clear h k
  rw [hk]
  go_enter Tryd.func20, Tryd.ntmps20
  go_upto_region 12 with fail
  go_name_world W hW
  have LW : Hid (Low w.heap.size w W) := by
    show Low _ _ _
    rw [← hW]; exact (Low.refl _ w).alloc (Nat.le_refl _) _
  have BA : Hid (Blk W w.heap.size 32 (AAct.mk 8 a.s a.n a.k a.path a.text a.on).cells) := by
    show Blk W _ _ _
    rw [← hW]; exact Blk.new w 32 (AAct.mk 8 a.s a.n a.k a.path a.text a.on).cells
  have JW : Hid (JQ W G b bx S R key X D Q) := HJ.out.low LW.out
  have p5 : W.cell? ⟨w.heap.size, 5, none⟩ = some (.string a.text) := BA.out.cell 5
  have lA := BA.out.lt
  clear hW
  go_wp2_with (first | (go_at_call 30; refine (keyOf_any _ _).mono ?_; rintro e y1 ⟨t, rfl, ht, hy⟩; obtain rfl := hy.symm) | (go_at_call 41; refine (stageQ _ t ht JW.out HK.out).mono ?_; rintro e y2 ⟨rfl, X', D', j2, p2, k2⟩; have J2 := hid j2; have P2 := hid p2; have K2 := hid k2; clear j2 p2 k2))
  go_ret
  exact ⟨rfl, X', D', J2.out, ⟨P2.out.1.mono (by omega), by rcases P2.out.2 with ⟨_, e, _⟩ | ⟨_, _, _, e⟩ <;> rw [e] <;> exact ⟨rfl, rfl⟩⟩, LW.out.kept.trans K2.out (fun _ f => f.elim) (fun _ _ f => f)⟩
set_option maxRecDepth 100000 in
set_option maxHeartbeats 2000000 in
theorem turnDestroy (w : World) (a : AAct) (ha : AOk a) (h : JQ w G b bx S R key X D Q) (k : Kn N n X D S R) (hk : a.kind = 12) :
    Calls Tryd.prog 20 #[.pointer (some ⟨b, 0, none⟩), .agg #[.int .i64 a.kind, .int .i64 a.s, .int .i64 a.n, .int .i64 a.k, .string a.path, .string a.text, .bool a.on]] w fun e w' => e = .returned (.bool true) ∧ TurnPost N n w w' G b bx S R key D Q := by
  have hb0 : b < w.heap.size := by obtain ⟨Fq, hq, _⟩ := h.q; exact hq.lt
  have i0 := ha.n.1
  have i1 := ha.n.2
  have HJ := hid h
  have HK := hid k
  clear h k ha
  rw [hk]
  go_enter Tryd.func20, Tryd.ntmps20
  go_upto_region 21 with fail
  go_name_world W hW
  have LW : Hid (Low w.heap.size w W) := by
    show Low _ _ _
    rw [← hW]; exact (Low.refl _ w).alloc (Nat.le_refl _) _
  have BA : Hid (Blk W w.heap.size 32 (AAct.mk 12 a.s a.n a.k a.path a.text a.on).cells) := by
    show Blk W _ _ _
    rw [← hW]; exact Blk.new w 32 (AAct.mk 12 a.s a.n a.k a.path a.text a.on).cells
  have JW : Hid (JQ W G b bx S R key X D Q) := HJ.out.low LW.out
  have p2 : W.cell? ⟨w.heap.size, 2, none⟩ = some (.int .i64 a.n) := BA.out.cell 2
  have lA := BA.out.lt
  clear hW
  go_upto_region 22 with (go_at_call 17; refine (pick_some _ _ _ (by omega) (by omega) i0 i1).mono ?_; rintro e y1 ⟨r, rfl, hr, hy⟩; obtain rfl := hy.symm)
  obtain ⟨Fq1, hq1, _⟩ := JW.out.q
  have c0 := qin_ptr hq1
  have lb1 := hq1.lt
  have hkl := HK.out.keys
  obtain ⟨d1, d2⟩ := kn_destroy HK.out (r + 1)
  have er1 : ((r + 1 : Nat) : Int) = 1 + (r : Int) := by omega
  rw [er1] at d1 d2
  clear hq1 p2 i0 i1
  by_cases hlen : X.keys.length < r + 1
  · have HP := hid (d1 (Or.inr hlen))
    clear d1 d2
    go_wp2_with (go_at_call 45; refine (JW.out.callX HP.out).mono ?_; rintro e y1 ⟨rfl, j1, q1⟩; have J1 := hid j1; have K1 := hid q1; clear j1 q1)
    go_ret
    exact ⟨rfl, X, D, J1.out, ⟨HK.out.mono (by omega), ⟨rfl, rfl⟩⟩, LW.out.kept.trans K1.out (fun _ f => f.elim) (fun _ _ f => f)⟩
  · obtain ⟨P, hP0⟩ : ∃ P, X.keys[r]? = some P := ⟨_, List.getElem?_eq_getElem (by omega)⟩
    obtain ⟨e0, e1, e2, e3⟩ := d2 r P rfl hP0
    have E0 := hid e0
    have r7 : r + 1 < 7 := by omega
    have r7i : (1 : Int) + (r : Int) < 7 := by omega
    clear d1 d2 e0
    cases hg : keyGone P
    · by_cases hgate : (1 : Int) + (r : Int) = X.write ∨ X.turn ≠ 3
      · have HP := hid (e2 hg hgate)
        clear e1 e2 e3 hgate
        go_wp2_with (go_at_call 45; refine (JW.out.callX HP.out).mono ?_; rintro e y1 ⟨rfl, j1, q1⟩; have J1 := hid j1; have K1 := hid q1; clear j1 q1)
        go_ret
        exact ⟨rfl, X, D, J1.out, ⟨HK.out.mono (by omega), ⟨rfl, rfl⟩⟩, LW.out.kept.trans K1.out (fun _ f => f.elim) (fun _ _ f => f)⟩
      · obtain ⟨t, _, hP1, hk2⟩ := e3 hg (fun q => hgate (Or.inl q)) (by
          by_cases q : X.turn = 3
          · exact q
          · exact absurd (Or.inr q) hgate)
        have HP := hid hP1
        have HK2 := hid hk2
        clear e1 e2 e3 hgate hP1 hk2
        go_upto_region 24 with (go_at_call 45; refine (JW.out.callX HP.out).mono ?_; rintro e y1 ⟨rfl, j1, q1⟩; have J1 := hid j1; have K1 := hid q1; clear j1 q1)
        obtain ⟨Fq2, hq2, _⟩ := J1.out.q
        have z1 : y1.cell? ⟨b, 22 + (r + 1), none⟩ = some (.bool false) := by
          have := qin_dest hq2 E0.out
          rw [hg] at this
          exact this
        have z2 := hq2.frozen (22 + (r + 1))
        have lb2 := hq2.lt
        have tn : ((1 : Int) + (r : Int)).toNat = r + 1 := by omega
        clear hq2 c0
        go_wp2_with fail
        go_ret
        obtain ⟨r1, r2⟩ := J1.out.setDest r7 true
        exact ⟨rfl, _, _, r1, ⟨HK2.out.mono (by omega), ⟨rfl, rfl⟩⟩, (LW.out.kept.trans K1.out (H := fun k => ¬ G k) (fun _ f => f.elim) (fun _ _ f => f)).trans r2 (fun _ f => f) (fun _ _ f => f)⟩
    · have HP := hid (e1 hg)
      clear e1 e2 e3
      go_upto_region 23 with (go_at_call 45; refine (JW.out.callX HP.out).mono ?_; rintro e y1 ⟨rfl, j1, q1⟩; have J1 := hid j1; have K1 := hid q1; clear j1 q1)
      obtain ⟨Fq2, hq2, _⟩ := J1.out.q
      have z1 : y1.cell? ⟨b, 22 + (r + 1), none⟩ = some (.bool true) := by
        have := qin_dest hq2 E0.out
        rw [hg] at this
        exact this
      have lb2 := hq2.lt
      have tn : ((1 : Int) + (r : Int)).toNat = r + 1 := by omega
      clear hq2 c0
      go_wp2_with fail
      go_ret
      exact ⟨rfl, X, D, J1.out, ⟨HK.out.mono (by omega), ⟨rfl, rfl⟩⟩, LW.out.kept.trans K1.out (fun _ f => f.elim) (fun _ _ f => f)⟩
set_option maxRecDepth 100000 in
set_option maxHeartbeats 2000000 in
theorem turnCompact (w : World) (a : AAct) (ha : AOk a) (h : JQ w G b bx S R key X D Q) (k : Kn N n X D S R) (hd : D.deeds.length ≤ 2000000000000) (hk : a.kind = 7) :
    Calls Tryd.prog 20 #[.pointer (some ⟨b, 0, none⟩), .agg #[.int .i64 a.kind, .int .i64 a.s, .int .i64 a.n, .int .i64 a.k, .string a.path, .string a.text, .bool a.on]] w fun e w' => e = .returned (.bool true) ∧ TurnPost N n w w' G b bx S R key D Q := by
  have hb0 : b < w.heap.size := by obtain ⟨Fq, hq, _⟩ := h.q; exact hq.lt
  have i0 := ha.n.1
  have i1 := ha.n.2
  have HJ := hid h
  have HK := hid k
  clear h k ha
  rw [hk]
  go_enter Tryd.func20, Tryd.ntmps20
  go_upto_region 4 with fail
  go_name_world W hW
  have LW : Hid (Low w.heap.size w W) := by
    show Low _ _ _
    rw [← hW]; exact (Low.refl _ w).alloc (Nat.le_refl _) _
  have BA : Hid (Blk W w.heap.size 32 (AAct.mk 7 a.s a.n a.k a.path a.text a.on).cells) := by
    show Blk W _ _ _
    rw [← hW]; exact Blk.new w 32 (AAct.mk 7 a.s a.n a.k a.path a.text a.on).cells
  have JW : Hid (JQ W G b bx S R key X D Q) := HJ.out.low LW.out
  have p2 : W.cell? ⟨w.heap.size, 2, none⟩ = some (.int .i64 a.n) := BA.out.cell 2
  have lA := BA.out.lt
  obtain ⟨Fq, hq, _⟩ := JW.out.q
  obtain ⟨a4, cap4, hc4, _⟩ := qin_deeds hq
  rw [List.length_map] at hc4
  have lb := hq.lt
  have x1 : wrap64 ((D.deeds.length : Int) + 2) = (D.deeds.length : Int) + 2 := by unfold wrap64; omega
  have x2 : IntKind.i64.wrap ((D.deeds.length : Int) + 2) = (D.deeds.length : Int) + 2 := by rw [IntKind.wrap_i64]; omega
  clear hW hq
  go_region_held3 (fun W' => W'.cell? ⟨w.heap.size, 2, none⟩ = some (.int .i64 a.n) ∧ W'.cell? ⟨b, 4, none⟩ = some (.slice a4 D.deeds.length cap4)) (first | assumption | go_keep)
    (first | (go_at_call 17; refine (pick_some a.n ((D.deeds.length : Int) + 2) _ (by omega) (by omega) i0 i1).mono ?_; rintro e y3 ⟨rv, rfl, hrv, rfl⟩; have S3 : W.drew.cell? ⟨w.heap.size, 2, none⟩ = some (.int .i64 a.n) ∧ W.drew.cell? ⟨b, 4, none⟩ = some (.slice a4 D.deeds.length cap4) := ⟨p2, hc4⟩))
  have L3 : Hid (Low w.heap.size w W.drew) := LW.out.drew
  have J3 : Hid (JQ W.drew G b bx S R key X D Q) := JW.out.low (Low.refl _ W).drew
  obtain ⟨Fq3, hq3, _⟩ := J3.out.q
  have c0 := qin_ptr hq3
  have lb3 := hq3.lt
  obtain ⟨k1, k2⟩ := kn_compact HK.out rv
  clear S3 p2 hc4 hq3 x1 x2 i0 i1
  by_cases hc : D.floor < (rv : Int) ∧ rv ≤ D.deeds.length
  · obtain ⟨hP, hk3⟩ := k1 hc
    obtain ⟨hc1, hc2⟩ := hc
    have HP := hid hP
    have HK3 := hid hk3
    have q1 : decide (D.floor < (rv : Int)) = true := by simpa using hc1
    have q2 : decide ((rv : Int) ≤ (D.deeds.length : Int)) = true := by simp; omega
    have q3 : decide (rv ≤ D.deeds.length) = true := by simp; omega
    clear k1 k2 hP hk3
    go_upto_region 6 with (go_at_call 40; refine (J3.out.callX HP.out).mono ?_; rintro e y5 ⟨rfl, j5, k5⟩; have J5 := hid j5; have K5 := hid k5; clear j5 k5)
    obtain ⟨Fq5, hq5, _⟩ := J5.out.q
    obtain ⟨b4, dap4, hc5, _⟩ := qin_deeds hq5
    rw [List.length_map] at hc5
    have f5 := qin_floor hq5
    have g5 := hq5.frozen 5
    have lb5 := hq5.lt
    clear hq5 c0 lb3
    go_wp2_with fail
    go_ret
    obtain ⟨r1, r2⟩ := J5.out.setFloor (rv : Int)
    exact ⟨rfl, _, _, r1, ⟨HK3.out.mono (by omega), ⟨rfl, rfl⟩⟩, (L3.out.kept.trans K5.out (H := fun k => ¬ G k) (fun _ f => f.elim) (fun _ _ f => f)).trans r2 (fun _ f => f) (fun _ _ f => f)⟩
  · have HP := hid (k2 hc)
    clear k1 k2
    go_upto_region 6 with (go_at_call 40; refine (J3.out.callX HP.out).mono ?_; rintro e y5 ⟨rfl, j5, k5⟩; have J5 := hid j5; have K5 := hid k5; clear j5 k5)
    obtain ⟨Fq5, hq5, _⟩ := J5.out.q
    obtain ⟨b4, dap4, hc5, _⟩ := qin_deeds hq5
    rw [List.length_map] at hc5
    have f5 := qin_floor hq5
    have lb5 := hq5.lt
    have KW : Hid (Kept (fun k => ¬ G k) w y5) := L3.out.kept.trans K5.out (fun _ f => f.elim) (fun _ _ f => f)
    clear hq5 c0 lb3
    by_cases h1 : (rv : Int) ≤ D.floor
    · have q1 : decide ((rv : Int) ≤ D.floor) = true := by simpa using h1
      go_wp2_with fail
      go_ret
      exact ⟨rfl, X, D, J5.out, ⟨HK.out.mono (by omega), ⟨rfl, rfl⟩⟩, KW.out⟩
    · have q1 : decide ((rv : Int) ≤ D.floor) = false := by simpa using h1
      have h2 : D.deeds.length < rv := by
        by_cases h2 : rv ≤ D.deeds.length
        · exact absurd ⟨by omega, h2⟩ hc
        · omega
      have q2 : decide ((D.deeds.length : Int) < (rv : Int)) = true := by simp; omega
      have q3 : decide (D.deeds.length < rv) = true := by simpa using h2
      go_wp2_with fail
      go_ret
      exact ⟨rfl, X, D, J5.out, ⟨HK.out.mono (by omega), ⟨rfl, rfl⟩⟩, KW.out⟩
end Go.Proofs.YtphapknfkbgapabDoor
namespace Go.Proofs.YtphapknfkbgapabDoor
open Go.RowKit

variable {N : ByteArray → Prop} {G : Nat → Prop} {b bx S n : Nat} {R : Int} {key : ByteArray} {X : PS} {D : PD} {Q : Pods}

/-! Pods: allowed, fetch. -/
def allowedTo (Q : Pods) (node : Int) (k i : Nat) : Bool := (List.range i).any (fun i => ((Q.node[i]?).getD 0 == node) && needAt Q i k)
theorem allowedTo_snoc (Q : Pods) (node : Int) (k i : Nat) : allowedTo Q node k (i + 1) = (allowedTo Q node k i || (((Q.node[i]?).getD 0 == node) && needAt Q i k)) := by
  unfold allowedTo
  rw [List.range_succ, List.any_append]
  simp
set_option maxRecDepth 100000 in
set_option maxHeartbeats 1000000 in
theorem allowedQ_any (w : World) (node : Int) (k : Nat) (hk : k < 6) {F : Nat → Prop} (h : QIn w F b bx S R key D Q) :
    Calls Tryd.prog 10 #[.pointer (some ⟨b, 0, none⟩), .int .i64 node, .int .i64 (k : Int)] w fun e w' => e = .returned (.bool (allowedQ Q node k)) ∧ w' = w := by
  have HQ := hid h
  have lb := h.lt
  have kl : (k : Int) < 6 := by omega
  clear h
  go_enter Tryd.func10, Tryd.ntmps10
  go_wp2_with fail
  go_loopg [7] 8 (fun left iv wr => ∃ i : Nat, left = 8 - i ∧ i ≤ 8 ∧ iv = .int .i64 (i : Int) ∧ w = wr ∧ Hid (allowedTo Q node k i = false))
  case atStart => exact ⟨0, rfl, Nat.zero_le _, rfl, rfl, rfl⟩
  case round =>
    obtain ⟨i, hgk, hi, rfl, rfl, HI⟩ := hrel
    have HGK := hid hgk
    clear hgk
    by_cases h3 : i < 8
    · have q3 : decide ((i : Int) < 8) = true := by simp; omega
      have il : (i : Int) < 8 := by omega
      obtain ⟨nd, hnd⟩ : ∃ nd, Q.node[i]? = some nd := ⟨_, List.getElem?_eq_getElem (by rw [HQ.out.1.node]; exact h3)⟩
      obtain ⟨l, hl⟩ : ∃ l, Q.needs[i]? = some l := ⟨_, List.getElem?_eq_getElem (by rw [HQ.out.1.needs]; exact h3)⟩
      obtain ⟨v, hv⟩ : ∃ v, l[k]? = some v := ⟨_, List.getElem?_eq_getElem (by rw [HQ.out.1.need l (List.mem_of_getElem? hl)]; exact hk)⟩
      have c0 := qin_node HQ.out hnd
      have c1 := qin_need HQ.out hl hv
      rw [show 37 + (i * 6 + k) = 37 + i * 6 + k by omega] at c1
      have HS : Hid (allowedTo Q node k (i + 1) = ((nd == node) && v)) := by
        show _ = _
        rw [allowedTo_snoc, HI.out, hnd, Bool.false_or]
        unfold needAt
        rw [hl]
        simp only [Option.getD_some]
        rw [hv]
        rfl
      have H3 := hid h3
      have HND : Hid ((((Q.node[i]?).getD 0 == node) && needAt Q i k) = ((nd == node) && v)) := by
        show _ = _
        unfold needAt
        rw [hnd, hl]
        simp only [Option.getD_some]
        rw [hv]
        rfl
      clear hl hv hnd
      cases qn : (nd == node)
      · go_wp2_with fail
        go_roundg (8 - (i + 1))
        case rel => exact ⟨i + 1, rfl, by omega, by simp, rfl, by show _ = _; rw [HS.out, qn]; rfl⟩
        case measure => have := HGK.out; omega
      · cases v
        · go_wp2_with fail
          go_roundg (8 - (i + 1))
          case rel => exact ⟨i + 1, rfl, by omega, by simp, rfl, by show _ = _; rw [HS.out, qn]; rfl⟩
          case measure => have := HGK.out; omega
        · go_wp2_with fail
          go_ret
          refine ⟨?_, rfl⟩
          have : allowedQ Q node k = true := List.any_eq_true.2 ⟨i, List.mem_range.2 H3.out, by rw [HND.out, qn]; rfl⟩
          rw [this]; rfl
    · have q3 : decide ((i : Int) < 8) = false := by simp; omega
      obtain rfl : i = 8 := by omega
      go_wp2_with fail
      go_ret
      refine ⟨?_, rfl⟩
      have := HI.out
      unfold allowedTo at this
      unfold allowedQ
      rw [this]; rfl
theorem JQ.ptr0 {w : World} (h : JQ w G b bx S R key X D Q) : w.cell? ⟨b, 0, none⟩ = some (.pointer (some ⟨bx, 0, none⟩)) ∧ b < w.heap.size ∧ w.cell? ⟨b, 1, none⟩ = some (.int .i64 (S : Int)) := by
  obtain ⟨Fq, hq, _⟩ := h.q
  exact ⟨qin_ptr hq, hq.lt, qin_srv hq⟩
set_option maxRecDepth 100000 in
set_option maxHeartbeats 2000000 in
theorem fetchQ (w : World) (h : JQ w G b bx S R key X D D.pods) (kn : Kn N n X D S R) {s node k : Nat} (hs : s < S) (hn : node < 4) (hk : k < 6) :
    Calls Tryd.prog 5 #[.pointer (some ⟨b, 0, none⟩), .int .i64 (s : Int), .int .i64 (node : Int), .int .i64 (k : Int)] w fun e w' => e = .returned (.bool true) ∧ JQ w' G b bx S R key X D D.pods ∧ Kept (fun k => ¬ G k) w w' := by
  obtain ⟨f1, f2⟩ := kn_fetch kn hs hn (nameOf k)
  have ha := allowed_same kn.pods (node : Int) hk
  obtain ⟨c0, lb, _⟩ := h.ptr0
  have HJ := hid h
  have HN : Hid (∀ V, Calls Tryd.prog 9 #[.int .i64 (k : Int)] V fun e w' => e = .returned (.string (nameOf k)) ∧ w' = V) := fun V => name_any V k hk
  have HK6 := hid hk
  cases hd : neededOf X.pods (node : Int) (nameOf k)
  · have HP := hid (f1 hd)
    have HA : Hid (allowedQ D.pods (node : Int) k = false) := by show _ = _; rw [ha, hd]
    clear f1 f2 ha h kn hs hn hk
    go_enter Tryd.func5, Tryd.ntmps5
    go_upto_region 1 with fail
    go_region_held3 (fun W' => W'.cell? ⟨b, 0, none⟩ = some (.pointer (some ⟨bx, 0, none⟩))) (first | assumption | go_keep)
      (first | (go_at_call 9; refine (HN.out _).mono ?_; rintro e y0 ⟨rfl, hy⟩; obtain rfl := hy.symm; have S0 : w.drew.cell? ⟨b, 0, none⟩ = some (.pointer (some ⟨bx, 0, none⟩)) := c0) | (go_at_call 8; refine ((HJ.out.low (Low.refl _ w).drew).callX HP.out).mono ?_; rintro e y1 ⟨rfl, j1, k1⟩; have S1 := j1.ptr0.1; have J1 := hid j1; have K1 : Hid (Kept (fun k => ¬ G k) w y1) := ((Kept.refl _ w).drew).trans k1 (fun _ f => f) (fun _ _ f => f); clear j1 k1))
    all_goals
      obtain ⟨Fq1, hq1, _⟩ := J1.out.q
      have HQ1 := hid hq1
      clear hq1
      go_wp2_with (go_at_call 10; refine (allowedQ_any _ (node : Int) k HK6.out HQ1.out).mono ?_; rw [HA.out]; rintro e y2 ⟨rfl, hy⟩; obtain rfl := hy.symm)
      go_ret
      exact ⟨rfl, J1.out, K1.out⟩
  · obtain ⟨A, B, C, hC, hP1, hP2⟩ := f2 hd
    have HP := hid hP1
    have HP2 := hid hP2
    have HA : Hid (allowedQ D.pods (node : Int) k = true) := by show _ = _; rw [ha, hd]
    have hC' : (C != 21) = true := by rw [bne_iff_ne]; exact hC
    have hCe : (C == C) = true := beq_self_eq_true C
    have hAe : (A.toList == A.toList) = true := beq_self_eq_true _
    clear f1 f2 ha h kn hs hn hk hP1 hP2
    go_enter Tryd.func5, Tryd.ntmps5
    go_upto_region 1 with fail
    go_region_held3 (fun W' => W'.cell? ⟨b, 0, none⟩ = some (.pointer (some ⟨bx, 0, none⟩))) (first | assumption | go_keep)
      (first | (go_at_call 9; refine (HN.out _).mono ?_; rintro e y0 ⟨rfl, hy⟩; obtain rfl := hy.symm; have S0 : w.drew.cell? ⟨b, 0, none⟩ = some (.pointer (some ⟨bx, 0, none⟩)) := c0) | (go_at_call 8; refine ((HJ.out.low (Low.refl _ w).drew).callX HP.out).mono ?_; rintro e y1 ⟨rfl, j1, k1⟩; have S1 := j1.ptr0.1; have J1 := hid j1; have K1 : Hid (Kept (fun k => ¬ G k) w y1) := ((Kept.refl _ w).drew).trans k1 (fun _ f => f) (fun _ _ f => f); clear j1 k1))
    all_goals
      obtain ⟨Fq1, hq1, _⟩ := J1.out.q
      have HQ1 := hid hq1
      have lb1 := hq1.lt
      clear hq1 c0 lb
      go_upto_region 5 with (go_at_call 10; refine (allowedQ_any _ (node : Int) k HK6.out HQ1.out).mono ?_; rw [HA.out]; rintro e y2 ⟨rfl, hy⟩; obtain rfl := hy.symm)
      go_region_held3 (fun W' => W'.cell? ⟨b, 0, none⟩ = some (.pointer (some ⟨bx, 0, none⟩))) (first | assumption | go_keep)
        (first | (go_at_call 9; refine (HN.out _).mono ?_; rintro e y0 ⟨rfl, hy⟩; obtain rfl := hy.symm; have S0 : y1.drew.cell? ⟨b, 0, none⟩ = some (.pointer (some ⟨bx, 0, none⟩)) := S1) | (go_at_call 11; refine ((J1.out.low (Low.refl _ y1).drew).callX HP2.out).mono ?_; rintro e y3 ⟨rfl, j3, k3⟩; have S3 := j3.ptr0.1; have J3 := hid j3; have K3 : Hid (Kept (fun k => ¬ G k) w y3) := (K1.out.drew).trans k3 (fun _ f => f) (fun _ _ f => f); clear j3 k3))
      all_goals
        go_wp2_with fail
        go_ret
        exact ⟨by simp, J3.out, K3.out⟩
end Go.Proofs.YtphapknfkbgapabDoor
namespace Go.Proofs.YtphapknfkbgapabDoor
open Go.RowKit

variable {N : ByteArray → Prop} {G : Nat → Prop} {b bx S n : Nat} {R : Int} {key : ByteArray} {X : PS} {D : PD} {Q : Pods}

/-! pods: Place, Refer, Fetch. -/
theorem JQ.setNode {w : World} (h : JQ w G b bx S R key X D Q) {p : Nat} (hp : p < 8) (v : Int) : JQ (w.setCell ⟨b, 29 + p, none⟩ (.int .i64 v)) G b bx S R key X D { Q with node := Q.node.set p v } ∧ Kept (fun k => ¬ G k) w (w.setCell ⟨b, 29 + p, none⟩ (.int .i64 v)) :=
  h.write (fun Fq q _ => ⟨Fq, qin_setNode q hp v, qset_kept q (29 + p) _, fun _ f => Or.inl f⟩)
theorem JQ.setNeed {w : World} (h : JQ w G b bx S R key X D Q) {p k : Nat} {l : List Bool} (hp : Q.needs[p]? = some l) (hk : k < 6) (v : Bool) : JQ (w.setCell ⟨b, 37 + (p * 6 + k), none⟩ (.bool v)) G b bx S R key X D { Q with needs := Q.needs.set p (l.set k v) } ∧ Kept (fun k => ¬ G k) w (w.setCell ⟨b, 37 + (p * 6 + k), none⟩ (.bool v)) :=
  h.write (fun Fq q _ => ⟨Fq, qin_setNeed q hp hk v, qset_kept q (37 + (p * 6 + k)) _, fun _ f => Or.inl f⟩)
theorem JQ.box {w W : World} (h : JQ w G b bx S R key X D Q) (l : Low w.heap.size w W) : ∃ G1 : Nat → Prop, JQ W G1 b bx S R key X D Q ∧ (∀ k, G k → G1 k) ∧ (∀ k, w.heap.size ≤ k → k < W.heap.size → G1 k) ∧ G 0 := by
  obtain ⟨_, _, q⟩ := id h
  exact ⟨_, h.wide l, fun _ g => Or.inl g, fun _ h1 h2 => Or.inr ⟨h1, h2⟩, q.g0⟩
theorem JQ.repod {w : World} (h : JQ w G b bx S R key X D Q) (P : Pods) : JQ w G b bx S R key X { D with pods := P } Q := by
  obtain ⟨Fx, Fq, h⟩ := h
  obtain ⟨hl, vD, vS, vK, hO⟩ := h.q
  exact ⟨Fx, Fq, h.x, ⟨⟨hl.ops, hl.dest, hl.node, hl.needs, hl.need⟩, vD, vS, vK, hO⟩, h.gb, h.gx, h.gq, h.xq, h.g0, h.f⟩
def PodsPost (N : ByteArray → Prop) (n : Nat) (w w' : World) (G : Nat → Prop) (b bx S : Nat) (R : Int) (key : ByteArray) (D : PD) : Prop := ∃ X' D', JQ w' G b bx S R key X' D' D'.pods ∧ (Kn N (n + 1) X' D' S R ∧ D'.deeds = D.deeds ∧ D'.seen = D.seen) ∧ Kept (fun k => ¬ G k) w w'
set_option maxRecDepth 100000 in
set_option maxHeartbeats 2000000 in
theorem podsPlace (w : World) (a : AAct) (ha : AOk a) (h : JQ w G b bx S R key X D D.pods) (k : Kn N n X D S R) (hk : a.kind = 14) :
    Calls Tryd.prog 21 #[.pointer (some ⟨b, 0, none⟩), .agg #[.int .i64 a.kind, .int .i64 a.s, .int .i64 a.n, .int .i64 a.k, .string a.path, .string a.text, .bool a.on]] w fun e w' => e = .returned (.bool true) ∧ PodsPost N n w w' G b bx S R key D := by
  have HJ := hid h
  have HK := hid k
  have HA := hid ha
  obtain ⟨_, lb0, _⟩ := h.ptr0
  rw [hk]
  clear h k ha hk
  go_enter Tryd.func21, Tryd.ntmps21
  go_upto_region 5 with (first | (go_at_call 17; refine (pick_some a.s 8 _ (by omega) (by omega) HA.out.s.1 HA.out.s.2).mono ?_; rintro e y1 ⟨pod, rfl, hpod, hy⟩; obtain rfl := hy.symm) | (go_at_call 33; refine (which_any _ _ HA.out.path).mono ?_; rintro e y1 ⟨wk, rfl, hwk, hy⟩; obtain rfl := hy.symm))
  go_name_world W hW
  have LW : Hid (Low w.heap.size w W) := by
    show Low _ _ _
    rw [← hW]; exact (Low.refl _ w).alloc (Nat.le_refl _) _
  have BA : Hid (Blk W w.heap.size 32 (AAct.mk 14 a.s a.n a.k a.path a.text a.on).cells) := by
    show Blk W _ _ _
    rw [← hW]; exact Blk.new w 32 (AAct.mk 14 a.s a.n a.k a.path a.text a.on).cells
  have JW : Hid (JQ W G b bx S R key X D D.pods) := HJ.out.low LW.out
  have p2 : W.cell? ⟨w.heap.size, 2, none⟩ = some (.int .i64 a.n) := BA.out.cell 2
  have lA := BA.out.lt
  have pod8 : pod < 8 := by omega
  obtain ⟨Fq, hq, _⟩ := JW.out.q
  obtain ⟨nd, hnd⟩ : ∃ nd, D.pods.node[pod]? = some nd := ⟨_, List.getElem?_eq_getElem (by rw [hq.1.node]; exact pod8)⟩
  have cn := qin_node hq hnd
  have fn := hq.frozen (29 + pod)
  have lb := hq.lt
  have nb : w.heap.size ≠ b := by omega
  have nb2 : b ≠ w.heap.size := by omega
  have POD := hid pod8
  have i0 := HA.out.n.1
  have i1 := HA.out.n.2
  clear hW hq hnd
  go_region_held3 (fun W' => W'.cell? ⟨w.heap.size, 2, none⟩ = some (.int .i64 a.n)) (first | assumption | go_keep)
    (first | (go_at_call 17; refine (pick_some a.n 5 _ (by omega) (by omega) i0 i1).mono ?_; rintro e y3 ⟨rv, rfl, hrv, rfl⟩; have S3 : W.drew.cell? ⟨w.heap.size, 2, none⟩ = some (.int .i64 a.n) := p2; have x1 : wrap64 ((rv : Int) - 1) = (rv : Int) - 1 := (by unfold wrap64; omega); have x2 : IntKind.i64.wrap ((rv : Int) - 1) = (rv : Int) - 1 := (by rw [IntKind.wrap_i64]; omega); have HRV := hid hrv; clear hrv))
  all_goals
    obtain ⟨r1, r2⟩ := JW.out.setNode POD.out ((rv : Int) - 1)
    have J4 := hid (r1.low (Low.refl _ _).drew)
    have K4 : Hid (Kept (fun k => ¬ G k) w _) := (LW.out.kept.trans r2 (H := fun k => ¬ G k) (fun _ f => f.elim) (fun _ _ f => f)).drew
    clear r1 r2
    go_upto_region 6 with fail
    go_name_world V hV
    rw [hV] at J4 K4
    obtain ⟨Fq4, hq4, _⟩ := J4.out.q
    have cn4 := qin_node hq4 (p := pod) (v := (rv : Int) - 1) (by show (D.pods.node.set pod _)[pod]? = _; rw [List.getElem?_set_self (by rw [HK.out.pods.len.1]; exact POD.out)])
    have c04 := qin_ptr hq4
    have lb4 := hq4.lt
    obtain ⟨hP, hKn⟩ := kn_place HK.out POD.out (node := (rv : Int) - 1) (by omega) (by have := HRV.out; omega)
    have HP := hid hP
    have HKN := hid hKn
    clear hP hKn hq4 hV
    go_region_held3 (fun W' => W'.cell? ⟨b, 0, none⟩ = some (.pointer (some ⟨bx, 0, none⟩)) ∧ W'.cell? ⟨b, 29 + pod, none⟩ = some (.int .i64 ((rv : Int) - 1))) (first | assumption | go_keep)
      (first | (go_at_call 46; refine ((J4.out.low (Low.refl _ V).drew).callY HP.out).mono ?_; rintro e y5 ⟨rfl, j5, k5, hb5⟩; have S5 : y5.cell? ⟨b, 0, none⟩ = some (.pointer (some ⟨bx, 0, none⟩)) ∧ y5.cell? ⟨b, 29 + pod, none⟩ = some (.int .i64 ((rv : Int) - 1)) := ⟨j5.ptr0.1, (World.cell?_of_block (w := V) hb5).trans cn4⟩; have J5 := hid j5; have K5 : Hid (Kept (fun k => ¬ G k) w y5) := (K4.out.drew).trans k5 (fun _ f => f) (fun _ _ f => f); clear j5 k5 hb5))
    all_goals
      go_wp2_with fail
      go_ret
      exact ⟨rfl, X.place pod ((rv : Int) - 1), { D with pods := { D.pods with node := D.pods.node.set pod ((rv : Int) - 1) } }, J5.out.repod _, ⟨HKN.out.mono (by omega), rfl, rfl⟩, K5.out⟩
set_option maxRecDepth 100000 in
set_option maxHeartbeats 2000000 in
theorem podsRefer (w : World) (a : AAct) (ha : AOk a) (h : JQ w G b bx S R key X D D.pods) (k : Kn N n X D S R) (hk : a.kind = 15) :
    Calls Tryd.prog 21 #[.pointer (some ⟨b, 0, none⟩), .agg #[.int .i64 a.kind, .int .i64 a.s, .int .i64 a.n, .int .i64 a.k, .string a.path, .string a.text, .bool a.on]] w fun e w' => e = .returned (.bool true) ∧ PodsPost N n w w' G b bx S R key D := by
  have HJ := hid h
  have HK := hid k
  have HA := hid ha
  obtain ⟨_, lb0, _⟩ := h.ptr0
  rw [hk]
  clear h k ha hk
  go_enter Tryd.func21, Tryd.ntmps21
  go_upto_region 9 with (first | (go_at_call 17; refine (pick_some a.s 8 _ (by omega) (by omega) HA.out.s.1 HA.out.s.2).mono ?_; rintro e y1 ⟨pod, rfl, hpod, hy⟩; obtain rfl := hy.symm) | (go_at_call 33; refine (which_any _ _ HA.out.path).mono ?_; rintro e y1 ⟨wk, rfl, hwk, hy⟩; obtain rfl := hy.symm))
  go_name_world W hW
  have LW : Hid (Low w.heap.size w W) := by
    show Low _ _ _
    rw [← hW]; exact (Low.refl _ w).alloc (Nat.le_refl _) _
  have BA : Hid (Blk W w.heap.size 32 (AAct.mk 15 a.s a.n a.k a.path a.text a.on).cells) := by
    show Blk W _ _ _
    rw [← hW]; exact Blk.new w 32 (AAct.mk 15 a.s a.n a.k a.path a.text a.on).cells
  obtain ⟨G1, jw, g1, gA, g0⟩ := HJ.out.box LW.out
  have JW := hid jw
  have HG1 := hid g1
  have HGA := hid gA
  have HG0 := hid g0
  clear jw g1 gA g0
  have p6 : W.cell? ⟨w.heap.size, 6, none⟩ = some (.bool a.on) := BA.out.cell 6
  have P6 := hid p6
  have lA := BA.out.lt
  have pod8 : pod < 8 := by omega
  obtain ⟨Fq, hq, _⟩ := JW.out.q
  obtain ⟨l, hl⟩ : ∃ l, D.pods.needs[pod]? = some l := ⟨_, List.getElem?_eq_getElem (by rw [hq.1.needs]; exact pod8)⟩
  obtain ⟨v, hv⟩ : ∃ v, l[wk]? = some v := ⟨_, List.getElem?_eq_getElem (by rw [hq.1.need l (List.mem_of_getElem? hl)]; exact hwk)⟩
  have cn := qin_need hq hl hv
  have fn := hq.frozen (37 + (pod * 6 + wk))
  rw [show 37 + (pod * 6 + wk) = 37 + pod * 6 + wk by omega] at cn fn
  have lb := hq.lt
  have nb : w.heap.size ≠ b := by omega
  have nb2 : b ≠ w.heap.size := by omega
  have wl : (wk : Int) < 6 := by omega
  have HL := hid hl
  have HWK := hid hwk
  have POD := hid pod8
  obtain ⟨hP, hKn⟩ := kn_refer HK.out pod8 hwk hl a.on
  have HP := hid hP
  have HKN := hid hKn
  clear hW hq hv hl hP hKn
  go_region
  all_goals
    obtain ⟨r1, r2⟩ := JW.out.setNeed HL.out HWK.out a.on
    rw [show 37 + (pod * 6 + wk) = 37 + pod * 6 + wk by omega] at r1 r2
    have J4 := hid (r1.low (Low.refl _ _).drew)
    have K4 : Hid (Kept (fun k => ¬ G1 k) W _) := r2.drew
    clear r1 r2
    go_upto_region 10 with fail
    go_name_world V hV
    rw [hV] at J4 K4
    have q6 : V.cell? ⟨w.heap.size, 6, none⟩ = some (.bool a.on) := K4.out.cell P6.out (fun f => f (HGA.out _ (Nat.le_refl _) lA))
    obtain ⟨Fq4, hq4, _⟩ := J4.out.q
    have c04 := qin_ptr hq4
    have lb4 := hq4.lt
    have lA4 : w.heap.size < V.heap.size := Nat.lt_of_lt_of_le lA K4.out.size
    clear hq4 hV
    go_region_held3 (fun W' => W'.cell? ⟨b, 0, none⟩ = some (.pointer (some ⟨bx, 0, none⟩)) ∧ W'.cell? ⟨w.heap.size, 6, none⟩ = some (.bool a.on)) (first | assumption | go_keep)
      (first | (go_at_call 9; refine (name_any _ wk HWK.out).mono ?_; rintro e y0 ⟨rfl, hy⟩; obtain rfl := hy.symm; have S0 : V.drew.cell? ⟨b, 0, none⟩ = some (.pointer (some ⟨bx, 0, none⟩)) ∧ V.drew.cell? ⟨w.heap.size, 6, none⟩ = some (.bool a.on) := ⟨c04, q6⟩) | (go_at_call 47; refine ((J4.out.low (Low.refl _ V).drew).callX HP.out).mono ?_; rintro e y5 ⟨rfl, j5, k5⟩; have S5 : y5.cell? ⟨b, 0, none⟩ = some (.pointer (some ⟨bx, 0, none⟩)) ∧ y5.cell? ⟨w.heap.size, 6, none⟩ = some (.bool a.on) := ⟨j5.ptr0.1, k5.cell (w := V.drew) q6 (fun f => f (HGA.out _ (Nat.le_refl _) lA))⟩; have J5 := hid j5; have K5 : Hid (Kept (fun k => ¬ G k) w y5) := (LW.out.kept.trans (K4.out.drew) (H := fun k => ¬ G k) (fun _ f => f.elim) (fun i _ f g => f (HG1.out i g))).trans k5 (fun _ f => f) (fun i _ f g => f (HG1.out i g)); clear j5 k5))
    all_goals
      go_wp2_with fail
      go_ret
      exact ⟨rfl, X.refer pod (nameOf wk) a.on, { D with pods := { D.pods with needs := D.pods.needs.set pod (l.set wk a.on) } }, (J5.out.weak HG1.out HG0.out).repod _, ⟨HKN.out.mono (by omega), rfl, rfl⟩, K5.out⟩
set_option maxRecDepth 100000 in
set_option maxHeartbeats 2000000 in
theorem podsFetch (w : World) (a : AAct) (ha : AOk a) (h : JQ w G b bx S R key X D D.pods) (k : Kn N n X D S R) (hk : a.kind = 16) :
    Calls Tryd.prog 21 #[.pointer (some ⟨b, 0, none⟩), .agg #[.int .i64 a.kind, .int .i64 a.s, .int .i64 a.n, .int .i64 a.k, .string a.path, .string a.text, .bool a.on]] w fun e w' => e = .returned (.bool true) ∧ PodsPost N n w w' G b bx S R key D := by
  have HJ := hid h
  have HK := hid k
  have HA := hid ha
  obtain ⟨_, lb0, _⟩ := h.ptr0
  obtain ⟨_, s4, s1⟩ := k.srv
  rw [hk]
  clear h k ha hk
  go_enter Tryd.func21, Tryd.ntmps21
  go_upto_region 12 with (first | (go_at_call 17; refine (pick_some a.s 8 _ (by omega) (by omega) HA.out.s.1 HA.out.s.2).mono ?_; rintro e y1 ⟨pod, rfl, hpod, hy⟩; obtain rfl := hy.symm) | (go_at_call 33; refine (which_any _ _ HA.out.path).mono ?_; rintro e y1 ⟨wk, rfl, hwk, hy⟩; obtain rfl := hy.symm))
  go_name_world W hW
  have LW : Hid (Low w.heap.size w W) := by
    show Low _ _ _
    rw [← hW]; exact (Low.refl _ w).alloc (Nat.le_refl _) _
  have BA : Hid (Blk W w.heap.size 32 (AAct.mk 16 a.s a.n a.k a.path a.text a.on).cells) := by
    show Blk W _ _ _
    rw [← hW]; exact Blk.new w 32 (AAct.mk 16 a.s a.n a.k a.path a.text a.on).cells
  obtain ⟨G1, jw, g1, gA, g0⟩ := HJ.out.box LW.out
  have JW := hid jw
  have HG1 := hid g1
  have HGA := hid gA
  have HG0 := hid g0
  clear jw g1 gA g0
  have p1 : W.cell? ⟨w.heap.size, 1, none⟩ = some (.int .i64 a.s) := BA.out.cell 1
  have p2 : W.cell? ⟨w.heap.size, 2, none⟩ = some (.int .i64 a.n) := BA.out.cell 2
  have lA := BA.out.lt
  obtain ⟨_, lb, c1⟩ := JW.out.ptr0
  have HWK := hid hwk
  have i0 := HA.out.n.1
  have i1 := HA.out.n.2
  have j0 := HA.out.s.1
  have j1 := HA.out.s.2
  clear hW
  go_region_held3 (fun W' => W'.cell? ⟨w.heap.size, 1, none⟩ = some (.int .i64 a.s) ∧ W'.cell? ⟨w.heap.size, 2, none⟩ = some (.int .i64 a.n) ∧ W'.cell? ⟨b, 1, none⟩ = some (.int .i64 (S : Int))) (first | assumption | go_keep)
    (first | (go_at_call_of 17 (Value.int IntKind.i64 (S : Int)); refine (pick_some a.s (S : Int) _ (by omega) (by omega) j0 j1).mono ?_; rintro e y3 ⟨sv, rfl, hsv, rfl⟩; have S3 : W.drew.cell? ⟨w.heap.size, 1, none⟩ = some (.int .i64 a.s) ∧ W.drew.cell? ⟨w.heap.size, 2, none⟩ = some (.int .i64 a.n) ∧ W.drew.cell? ⟨b, 1, none⟩ = some (.int .i64 (S : Int)) := ⟨p1, p2, c1⟩) | (go_at_call 17; refine (pick_some a.n 4 _ (by omega) (by omega) i0 i1).mono ?_; rintro e y3 ⟨rv, rfl, hrv, rfl⟩; have S3 : W.drew.cell? ⟨w.heap.size, 1, none⟩ = some (.int .i64 a.s) ∧ W.drew.cell? ⟨w.heap.size, 2, none⟩ = some (.int .i64 a.n) ∧ W.drew.cell? ⟨b, 1, none⟩ = some (.int .i64 (S : Int)) := ⟨p1, p2, c1⟩) | (go_at_call 5; refine (fetchQ _ (JW.out.low (Low.refl _ W).drew) HK.out (s := sv) (node := rv) (k := wk) (by omega) (by omega) HWK.out).mono ?_; rintro e y5 ⟨rfl, j5, k5⟩; have S5 : y5.cell? ⟨w.heap.size, 1, none⟩ = some (.int .i64 a.s) ∧ y5.cell? ⟨w.heap.size, 2, none⟩ = some (.int .i64 a.n) ∧ y5.cell? ⟨b, 1, none⟩ = some (.int .i64 (S : Int)) := ⟨k5.cell (w := W.drew) p1 (fun f => f (HGA.out _ (Nat.le_refl _) lA)), k5.cell (w := W.drew) p2 (fun f => f (HGA.out _ (Nat.le_refl _) lA)), j5.ptr0.2.2⟩; have J5 := hid j5; have K5 : Hid (Kept (fun k => ¬ G k) w y5) := (LW.out.kept.drew).trans k5 (fun _ f => f.elim) (fun i _ f g => f (HG1.out i g)); clear j5 k5))
  all_goals
    go_wp2_with fail
    go_ret
    exact ⟨rfl, X, D, J5.out.weak HG1.out HG0.out, ⟨HK.out.mono (by omega), rfl, rfl⟩, K5.out⟩
theorem podsQ (w : World) (a : AAct) (ha : AOk a) (h : JQ w G b bx S R key X D D.pods) (k : Kn N n X D S R) (hk : a.kind = 14 ∨ a.kind = 15 ∨ a.kind = 16) :
    Calls Tryd.prog 21 #[.pointer (some ⟨b, 0, none⟩), .agg #[.int .i64 a.kind, .int .i64 a.s, .int .i64 a.n, .int .i64 a.k, .string a.path, .string a.text, .bool a.on]] w fun e w' => e = .returned (.bool true) ∧ PodsPost N n w w' G b bx S R key D := by
  rcases hk with hk | hk | hk
  · exact podsPlace w a ha h k hk
  · exact podsRefer w a ha h k hk
  · exact podsFetch w a ha h k hk
end Go.Proofs.YtphapknfkbgapabDoor
