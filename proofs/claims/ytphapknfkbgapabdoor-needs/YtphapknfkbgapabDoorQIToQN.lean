import Derived.Test.YtphapknfkbgapabDoorQCToQG
import Derived.Test.YtphapknfkbgapabDoorPMToPF
import Derived.Deep.DeepCutAuto
namespace Go.Proofs.YtphapknfkbgapabDoor
open Go.RowKit

variable {G : Nat → Prop} {b bx S n : Nat} {R : Int} {key : ByteArray} {X : PS} {D : PD} {Q : Pods}

/-! reads. -/
theorem read_val (bl : Bool) (r : Nat) (d : Dd) : ∃ (tx : ByteArray) (m e : Int), (if bl then blindV else tellV r d) = .tuple #[.string tx, .int .i64 m, .int .i64 e] ∧ ((tx, m, e) = tells r d ∨ (tx = ⟨#[]⟩ ∧ m = 0 ∧ e = 6)) := by
  cases bl
  · exact ⟨_, _, _, rfl, Or.inl rfl⟩
  · exact ⟨_, _, _, rfl, Or.inr ⟨rfl, rfl, rfl⟩⟩
set_option maxRecDepth 100000 in
set_option maxHeartbeats 2000000 in
theorem readsGet (w : World) (a : AAct) (ha : AOk a) (h : JQ w G b bx S R key X D Q) (k : Kn IsName n X D S R) {s : Nat} (hs : s < S) (hd : D.deeds.length ≤ 2000000000000) (hk : (a.kind == 5) = true) :
    Calls Tryd.prog 19 #[.pointer (some ⟨b, 0, none⟩), .int .i64 (s : Int), .agg #[.int .i64 a.kind, .int .i64 a.s, .int .i64 a.n, .int .i64 a.k, .string a.path, .string a.text, .bool a.on]] w fun e w' => e = .returned (.bool true) ∧ JQ w' G b bx S R key X D Q ∧ Kept (fun k => ¬ G k) w w' := by
  have HJ := hid h
  have HK := hid k
  have HA := hid ha
  have hb0 : b < w.heap.size := by obtain ⟨Fq, hq, _⟩ := h.q; exact hq.lt
  clear h k ha
  go_enter Tryd.func19, Tryd.ntmps19
  go_upto_region 4 with (first | (go_at_call 33; refine (which_any _ _ HA.out.path).mono ?_; rintro e y1 ⟨wk, rfl, hwk, hy⟩; obtain rfl := hy.symm) | (go_at_call 9; refine (name_any _ wk hwk).mono ?_; rintro e y2 ⟨rfl, hy⟩; obtain rfl := hy.symm))
  go_name_world W hW
  have LW : Hid (Low w.heap.size w W) := by
    show Low _ _ _
    rw [← hW]; exact (Low.refl _ w).alloc (Nat.le_refl _) _
  have JW : Hid (JQ W G b bx S R key X D Q) := HJ.out.low LW.out
  clear hW
  obtain ⟨Fq, hq, _⟩ := JW.out.q
  have c0 := qin_ptr hq
  have lb := hq.lt
  obtain ⟨r, d, hN⟩ := newD_ex (nameOf wk) D.deeds
  obtain ⟨bl, hP, _⟩ := kn_get HK.out hs (nameOf wk) hN
  obtain ⟨tx, m, er, hv, hcs⟩ := read_val bl r d
  rw [hv] at hP
  have HP := hid hP
  have HN := hid hN
  have HCS := hid hcs
  clear hP hN hcs hv hq
  go_upto_region 5 with (go_at_call 11; refine (JW.out.callX HP.out).mono ?_; rintro e y3 ⟨rfl, j3, k3⟩; have J3 := hid j3; have K3 := hid k3; clear j3 k3)
  obtain ⟨Fq3, hq3, _⟩ := J3.out.q
  obtain ⟨a4, cap4, hc4, _⟩ := qin_deeds hq3
  rw [List.length_map] at hc4
  have HQ := hid hq3
  have lb3 := hq3.lt
  clear hq3 c0 lb
  go_wp2_with (go_at_call 38; refine (read_true _ tx (nameOf wk) m er D.deeds.length HQ.out (Nat.le_refl _) (by omega) (by rw [List.take_length]; exact HN.out) HCS.out).mono ?_; rintro e y4 ⟨rfl, l4⟩; have L4 := hid l4; clear l4)
  go_ret
  exact ⟨rfl, J3.out.low L4.out, (LW.out.kept.trans K3.out (H := fun k => ¬ G k) (fun _ f => f.elim) (fun _ _ f => f)).trans L4.out.kept (fun _ f => f) (fun _ _ f => f.elim)⟩
theorem readAt_val (bl bad : Bool) (r : Nat) (d : Dd) : ∃ (tx : ByteArray) (m e : Int), (if bl then blindV else if bad then .tuple #[.string ⟨#[]⟩, .int .i64 0, .int .i64 15] else tellV r d) = .tuple #[.string tx, .int .i64 m, .int .i64 e] ∧ (bad = true → tx = ⟨#[]⟩ ∧ m = 0 ∧ (e = 15 ∨ e = 6)) ∧ (bad = false → (tx, m, e) = tells r d ∨ (tx = ⟨#[]⟩ ∧ m = 0 ∧ e = 6)) := by
  cases bl
  · cases bad
    · exact ⟨_, _, _, rfl, (fun q => by cases q), fun _ => Or.inl rfl⟩
    · exact ⟨_, _, _, rfl, (fun _ => ⟨rfl, rfl, Or.inl rfl⟩), fun q => by cases q⟩
  · exact ⟨_, _, _, rfl, (fun _ => ⟨rfl, rfl, Or.inr rfl⟩), fun _ => Or.inr ⟨rfl, rfl, rfl⟩⟩
set_option maxRecDepth 100000 in
set_option maxHeartbeats 2000000 in
theorem readsAt (w : World) (a : AAct) (ha : AOk a) (h : JQ w G b bx S R key X D Q) (k : Kn IsName n X D S R) {s : Nat} (hs : s < S) (hd : D.deeds.length ≤ 2000000000000) (hk : (a.kind == 5) = false) :
    Calls Tryd.prog 19 #[.pointer (some ⟨b, 0, none⟩), .int .i64 (s : Int), .agg #[.int .i64 a.kind, .int .i64 a.s, .int .i64 a.n, .int .i64 a.k, .string a.path, .string a.text, .bool a.on]] w fun e w' => e = .returned (.bool true) ∧ JQ w' G b bx S R key X D Q ∧ Kept (fun k => ¬ G k) w w' := by
  have HJ := hid h
  have HK := hid k
  have HA := hid ha
  have hb0 : b < w.heap.size := by obtain ⟨Fq, hq, _⟩ := h.q; exact hq.lt
  clear h k ha
  go_enter Tryd.func19, Tryd.ntmps19
  go_upto_region 6 with (first | (go_at_call 33; refine (which_any _ _ HA.out.path).mono ?_; rintro e y1 ⟨wk, rfl, hwk, hy⟩; obtain rfl := hy.symm) | (go_at_call 9; refine (name_any _ wk hwk).mono ?_; rintro e y2 ⟨rfl, hy⟩; obtain rfl := hy.symm))
  go_name_world W hW
  have BA : Hid (Blk W w.heap.size 32 a.cells) := by
    show Blk W _ _ _
    rw [← hW]; exact Blk.new w 32 a.cells
  have LW : Hid (Low w.heap.size w W) := by
    show Low _ _ _
    rw [← hW]; exact (Low.refl _ w).alloc (Nat.le_refl _) _
  have JW : Hid (JQ W G b bx S R key X D Q) := HJ.out.low LW.out
  clear hW
  have p2 : W.cell? ⟨w.heap.size, 2, none⟩ = some (.int .i64 a.n) := BA.out.cell 2
  have lA := BA.out.lt
  obtain ⟨Fq, hq, _⟩ := JW.out.q
  obtain ⟨a4, cap4, hc4, _⟩ := qin_deeds hq
  rw [List.length_map] at hc4
  have lb := hq.lt
  have i0 := HA.out.n.1
  have i1 := HA.out.n.2
  have x1 : wrap64 ((D.deeds.length : Int) + 2) = (D.deeds.length : Int) + 2 := by unfold wrap64; omega
  have x2 : IntKind.i64.wrap ((D.deeds.length : Int) + 2) = (D.deeds.length : Int) + 2 := by rw [IntKind.wrap_i64]; omega
  clear hq
  go_region_held3 (fun W' => W'.cell? ⟨w.heap.size, 2, none⟩ = some (.int .i64 a.n) ∧ W'.cell? ⟨b, 4, none⟩ = some (.slice a4 D.deeds.length cap4)) (first | assumption | go_keep)
    (first | (go_at_call 17; refine (pick_some a.n ((D.deeds.length : Int) + 2) _ (by omega) (by omega) i0 i1).mono ?_; rintro e y3 ⟨rv, rfl, hrv, rfl⟩; have S3 : W.drew.cell? ⟨w.heap.size, 2, none⟩ = some (.int .i64 a.n) ∧ W.drew.cell? ⟨b, 4, none⟩ = some (.slice a4 D.deeds.length cap4) := ⟨p2, hc4⟩))
  have L3 : Hid (Low w.heap.size w W.drew) := LW.out.drew
  have J3 : Hid (JQ W.drew G b bx S R key X D Q) := JW.out.low (Low.refl _ W).drew
  obtain ⟨Fq3, hq3, _⟩ := J3.out.q
  have c0 := qin_ptr hq3
  have lb3 := hq3.lt
  obtain ⟨r, d, hN⟩ := newD_ex (nameOf wk) (D.deeds.take rv)
  obtain ⟨bl, hP⟩ := kn_getAt HK.out hs (nameOf wk) rv hN
  obtain ⟨bad, hbad⟩ : ∃ bad, bad = (decide ((rv : Int) < D.floor) || decide ((D.deeds.length : Int) < (rv : Int))) := ⟨_, rfl⟩
  rw [← hbad] at hP
  obtain ⟨tx, m, er, hv, hcs1, hcs2⟩ := readAt_val bl bad r d
  rw [hv] at hP
  have HP := hid hP
  have HN := hid hN
  have H1 := hid hcs1
  have H2 := hid hcs2
  have HBAD := hid hbad
  clear S3 p2 hc4 hq3 hN hP hcs1 hcs2 hv hbad x1 x2 i0 i1
  go_upto_region 8 with (go_at_call 39; refine (J3.out.callX HP.out).mono ?_; rintro e y5 ⟨rfl, j5, k5⟩; have J5 := hid j5; have K5 := hid k5; clear j5 k5)
  obtain ⟨Fq5, hq5, _⟩ := J5.out.q
  obtain ⟨b4, dap4, hc5, _⟩ := qin_deeds hq5
  rw [List.length_map] at hc5
  have f5 := qin_floor hq5
  have HQ := hid hq5
  have lb5 := hq5.lt
  have KW : Hid (Kept (fun k => ¬ G k) w y5) := L3.out.kept.trans K5.out (fun _ f => f.elim) (fun _ _ f => f)
  clear hq5 c0 lb3
  cases q1 : decide ((rv : Int) < D.floor)
  · by_cases hl : rv ≤ D.deeds.length
    · have q2 : decide ((D.deeds.length : Int) < (rv : Int)) = false := by simp; omega
      have q3 : decide (D.deeds.length < rv) = false := by simp; omega
      have hb : bad = false := by rw [HBAD.out, q1, q2]; rfl
      have HRL := hid hl
      clear hl hrv
      go_wp2_with (go_at_call 38; refine (read_true _ tx (nameOf wk) m er rv HQ.out HRL.out (by omega) HN.out (H2.out hb)).mono ?_; rintro e y6 ⟨rfl, l6⟩; have L6 := hid l6; clear l6)
      go_ret
      exact ⟨rfl, J5.out.low L6.out, KW.out.trans L6.out.kept (fun _ f => f) (fun _ _ f => f.elim)⟩
    · have q2 : decide ((D.deeds.length : Int) < (rv : Int)) = true := by simp; omega
      have q3 : decide (D.deeds.length < rv) = true := by simp; omega
      have hb : bad = true := by rw [HBAD.out, q2, Bool.or_true]
      obtain ⟨rfl, rfl, he⟩ := H1.out hb
      clear H1 H2
      rcases he with rfl | rfl
      · go_wp2_with fail
        go_ret
        exact ⟨rfl, J5.out, KW.out⟩
      · go_wp2_with fail
        go_ret
        exact ⟨rfl, J5.out, KW.out⟩
  · have hb : bad = true := by rw [HBAD.out, q1, Bool.true_or]
    obtain ⟨rfl, rfl, he⟩ := H1.out hb
    clear H1 H2
    rcases he with rfl | rfl
    · go_wp2_with fail
      go_ret
      exact ⟨rfl, J5.out, KW.out⟩
    · go_wp2_with fail
      go_ret
      exact ⟨rfl, J5.out, KW.out⟩
end Go.Proofs.YtphapknfkbgapabDoor
namespace Go.Proofs.YtphapknfkbgapabDoor
open Go.RowKit

variable {N : ByteArray → Prop} {G : Nat → Prop} {b bx S n : Nat} {R : Int} {key : ByteArray} {X : PS} {D : PD} {Q : Pods}

/-! refreshed, compacted. -/
theorem kn_crashX (h : Kn N n X D S R) {s : Nat} (hs : s < S) : PUni 18 [.int .i64 (s : Int)] X (.int .i64 0) (X.crash s) ∧ Kn N (n + 1) (X.crash s) { D with ops := D.ops.set s Und2.zero } S R := by
  obtain ⟨Y, mm, h, k, rfl, r, sl, od⟩ := h
  obtain ⟨p, sn, u, hp, ha, hS⟩ := h.srvAt hs
  refine ⟨p_kept (fun w F b hX _ _ => pCrash_yes w s p hX hp), Y.crash (s : Int), mm + 1, rel_crash h hs, know_crash k s, ?_, r, sl.step (Nat.le_refl _), od⟩
  show (Y.seen.set _ _).length = _
  simp
theorem kn_refreshX (h : Kn N n X D S R) {s : Nat} (hs : s < S) {p : PSrv} (hp : X.servers[s]? = some p) : PUni 14 [.int .i64 (s : Int)] X (.int .i64 0) (X.refresh s p) ∧ Kn N (n + 1) (X.refresh s p) D S R := by
  obtain ⟨Y, mm, h, k, rfl, r, sl, od⟩ := h
  obtain ⟨p', sn, u, hp', ha, hS⟩ := h.srvAt hs
  obtain rfl := Option.some.inj (hp'.symm.trans hp)
  refine ⟨p_kept (fun w F b hX _ _ => pRefresh_yes w s p' hX hp), Y.refresh (s : Int), mm + 1, rel_refresh h hp ha hS hs, know_refresh k h (s : Int), ?_, r, sl.step (Nat.le_refl _), od⟩
  show (Y.seen.set _ _).length = _
  simp
theorem Kn.srv (h : Kn N n X D S R) : X.servers.length = S ∧ S ≤ 4 ∧ 1 ≤ S := by
  obtain ⟨Y, mm, h, k, rfl, r, sl, od⟩ := h
  exact ⟨h.len.1, h.len.2.2⟩
/-- How far the servers are refreshed. -/
structure Refr (N : ByteArray → Prop) (n : Nat) (X X' : PS) (D D' : PD) (S : Nat) (R : Int) (i : Nat) : Prop where
  kn : Kn N (n + 2 * i) X' D' S R
  x : X' = { X with servers := X'.servers }
  d : D' = { D with ops := D'.ops }
  fresh : ∀ t, t < i → FreshAt X' t
theorem Refr.step {X' : PS} {D' : PD} {i : Nat} (h : Refr N n X X' D D' S R i) (hi : i < S) : Refr N n X ((X'.crash i).refresh i PSrv.zero) D { D' with ops := D'.ops.set i Und2.zero } S R (i + 1) ∧ PUni 18 [.int .i64 (i : Int)] X' (.int .i64 0) (X'.crash i) ∧ PUni 14 [.int .i64 (i : Int)] (X'.crash i) (.int .i64 0) ((X'.crash i).refresh i PSrv.zero) := by
  obtain ⟨p1, k1⟩ := kn_crashX h.kn hi
  have hl := h.kn.srv.1
  have hz : (X'.crash i).servers[i]? = some PSrv.zero := List.getElem?_set_self (by omega)
  obtain ⟨p2, k2⟩ := kn_refreshX k1 hi hz
  refine ⟨⟨?_, ?_, ?_, fun t ht => ?_⟩, p1, p2⟩
  · rw [show n + 2 * (i + 1) = n + 2 * i + 1 + 1 by omega]; exact k2
  · rw [h.x]; rfl
  · rw [h.d]
  · by_cases e : i = t
    · subst e
      refine ⟨{ PSrv.zero with seen := X'.epoch }, List.getElem?_set_self (by show i < (X'.servers.set i PSrv.zero).length; rw [List.length_set]; omega), rfl, rfl⟩
    · obtain ⟨p, a, b, c⟩ := h.fresh t (by omega)
      exact ⟨p, by show ((X'.servers.set i _).set i _)[t]? = _; rw [List.getElem?_set_ne e, List.getElem?_set_ne e]; exact a, b, c⟩
end Go.Proofs.YtphapknfkbgapabDoor
namespace Go.Proofs.YtphapknfkbgapabDoor
open Go.RowKit

variable {N : ByteArray → Prop} {G : Nat → Prop} {b bx S n : Nat} {R : Int} {key : ByteArray} {X : PS} {D : PD} {Q : Pods}

/-! compacted, stage. -/
/-- A call of the coffer's leaves the player's own cells. -/
theorem JQ.callY {f : Nat} {args : List Value} {v : Value} {X' : PS} {w : World} (h : JQ w G b bx S R key X D Q) (hp : PUni f args X v X') :
    Calls Tryd.prog f (.pointer (some ⟨bx, 0, none⟩) :: args).toArray w fun e w' => e = .returned v ∧ JQ w' G b bx S R key X' D Q ∧ Kept (fun k => ¬ G k) w w' ∧ w'.heap[b]? = w.heap[b]? := by
  obtain ⟨Fx, Fq, h⟩ := h
  refine (hp w Fx bx h.x h.f (Nat.lt_of_le_of_lt (Nat.zero_le 0) (h.gb 0 h.g0))).mono ?_
  rintro e w' ⟨rfl, F', x', k, hF⟩
  have hq := h.q.below
  have hg := h.gb
  refine ⟨rfl, ⟨F', Fq, x', h.q.kept k (fun i hi g => h.xq i g hi), fun g hg => Nat.lt_of_lt_of_le (h.gb g hg) k.size, fun q f g => ?_, h.gq, fun q f g => ?_, h.g0, fours_of h.f (k.block 0 (h.gb 0 h.g0) (fun f => h.gx 0 f h.g0)) k.os k.output k.size⟩, k.mono (fun i _ f g => h.gx i f g), k.block b h.q.lt (fun f => h.xq b f h.q.inF)⟩
  · rcases hF q f with e | e
    · exact h.gx q e g
    · have := hg q g; omega
  · rcases hF q f with e | e
    · exact h.xq q e g
    · have := hq q g; omega
theorem JQ.setFloor {w : World} (h : JQ w G b bx S R key X D Q) (v : Int) : JQ (w.setCell ⟨b, 5, none⟩ (.int .i64 v)) G b bx S R key X { D with floor := v } Q ∧ Kept (fun k => ¬ G k) w (w.setCell ⟨b, 5, none⟩ (.int .i64 v)) :=
  h.write (fun Fq q _ => ⟨Fq, qin_setFloor q v, qset_kept q 5 _, fun _ f => Or.inl f⟩)
theorem Kn.floor (h : Kn N n X D S R) : 0 ≤ D.floor ∧ D.floor ≤ (D.deeds.length : Int) ∧ D.deeds.length ≤ n := by
  obtain ⟨Y, mm, h, k, rfl, r, sl, od⟩ := h
  rw [k.floor, k.deeds]
  exact ⟨h.floor0, k.floor1, Nat.le_trans h.all sl.le⟩
/-- All is compacted. -/
structure Compd (N : ByteArray → Prop) (n : Nat) (X X' : PS) (D D' : PD) (S : Nat) (R : Int) : Prop where
  kn : Kn N (n + 1) X' D' S R
  d : D' = { D with floor := (D.deeds.length : Int) }
  x : X' = X ∨ (D.floor < (D.deeds.length : Int) ∧ X' = X.compact (D.deeds.length : Int))
theorem infoS : (Tryd.prog.info? 9).map (fun i => (i.zero, i.size, i.bytes)) = some (some (.string ⟨#[]⟩), 1, 16) := by kernel_rfl
theorem strs_one (t : ByteArray) : ∀ v ∈ strs t, v.oneCell' = true := by simp [strs, Value.oneCell']
theorem qin_rowK {w : World} {F : Nat → Prop} (h : QIn w F b bx S R key D Q) : ∃ a cap, w.cell? ⟨b, 86, none⟩ = some (.slice a D.keys.length cap) ∧ w.ownsRow 0 9 1 (.slice a D.keys.length cap) D.keys.length (D.keys.flatMap strs) ∧ (Value.slice a D.keys.length cap).ownBlock ≠ some b := by
  obtain ⟨hl, vD, vS, vK, hO⟩ := h
  obtain ⟨v, hv, ho, _⟩ := hO.row 2 rfl
  have hn := hO.apart 2 rfl hv
  obtain ⟨a, cap, rfl, _, _⟩ := ownsRow_view ho
  exact ⟨a, cap, by rw [hO.cell]; exact hv, ho, hn⟩
theorem qc_setKeys (h : PLen D Q) {vD vS vK v : Value} : (qcells bx S R key D Q vD vS vK).set 86 v = qcells bx S R key D Q vD vS v := by
  unfold qcells
  rw [List.set_append_right _ _ (by simp [headOf])]
  have e : 86 - (headOf bx S R key D vD).length = 80 := by simp [headOf]
  rw [e, List.set_append_right _ _ (by rw [h.mid]; omega), h.mid]
  rfl
theorem qin_appK {w w1 : World} {F : Nat → Prop} {v v' : Value} {o : Obj} (h : QIn w F b bx S R key D Q) (hv : w.cell? ⟨b, 86, none⟩ = some v) (k : Kept (fun q => v.ownBlock = some q) (w.alloc o) w1) (t : ByteArray) (ho : w1.ownsRow 0 9 1 v' (D.keys.length + 1) (D.keys.flatMap strs ++ strs t)) (P : v'.ownBlock = v.ownBlock ∨ v'.ownBlock = some (w.alloc o).heap.size) :
    QIn (w1.setCell ⟨b, 86, none⟩ v') (grow F w (w1.setCell ⟨b, 86, none⟩ v')) b bx S R key { D with keys := D.keys ++ [t] } Q ∧ Kept F w (w1.setCell ⟨b, 86, none⟩ v') := by
  obtain ⟨hl, vD, vS, vK, hO⟩ := h
  obtain rfl : vK = v := Option.some.inj ((qc_keys hl).symm.trans ((hO.cell 86).symm.trans hv))
  obtain ⟨q1, q2⟩ := hO.appended (Low.refl _ w) 2 rfl (qc_keys hl) k ho P (qoffs D 2 rfl)
  exact ⟨⟨⟨hl.ops, hl.dest, hl.node, hl.needs, hl.need⟩, vD, vS, v', q1.cast (qc_setKeys hl) (by simp [PD.rows])⟩, q2⟩
/-- What stage leaves. -/
def StagePost (N : ByteArray → Prop) (n : Nat) (X X' : PS) (D D' : PD) (S : Nat) (R : Int) (t : ByteArray) : Prop :=
  Kn N (n + 1) X' D' S R ∧ ((X' = X ∧ D' = D ∧ (X.turn ≠ 0 ∨ X.keys.length = 6)) ∨ (X.turn = 0 ∧ X.keys.length < 6 ∧ X' = X.stage t ∧ D' = { D with keys := D.keys ++ [t] }))
set_option maxRecDepth 100000 in
set_option maxHeartbeats 2000000 in
theorem stageQ (w : World) (t : ByteArray) (ht : t.size = 48) (h : JQ w G b bx S R key X D Q) (k : Kn N n X D S R) :
    Calls Tryd.prog 41 #[.pointer (some ⟨b, 0, none⟩), .string t] w fun e w' => e = .returned (.bool true) ∧ ∃ X' D', JQ w' G b bx S R key X' D' Q ∧ StagePost N n X X' D D' S R t ∧ Kept (fun k => ¬ G k) w w' := by
  obtain ⟨k1, k2, k3⟩ := k.keys
  obtain ⟨s1, s2, s3⟩ := kn_stage k t ht
  obtain ⟨Fq, hq, _⟩ := h.q
  have c0 := qin_ptr hq
  have lb := hq.lt
  have HJ := hid h
  have HK := hid k
  clear h k hq
  by_cases h6 : X.keys.length = 6
  · have HP := hid (s1 h6)
    clear s1 s2 s3
    go_enter Tryd.func41, Tryd.ntmps41
    go_wp2_with (go_at_call 60; refine (HJ.out.callX HP.out).mono ?_; rintro e y1 ⟨rfl, j1, q1⟩; have J1 := hid j1; have K1 := hid q1; clear j1 q1)
    go_ret
    exact ⟨rfl, X, D, J1.out, ⟨HK.out.up, Or.inl ⟨rfl, rfl, Or.inr h6⟩⟩, K1.out⟩
  · have hl6 : X.keys.length < 6 := by omega
    by_cases hu : X.turn = 0
    · obtain ⟨hP, hk2⟩ := s3 hl6 hu
      have HP := hid hP
      have HK2 := hid hk2
      clear s1 s2 s3 hP hk2
      go_enter Tryd.func41, Tryd.ntmps41
      go_upto_region 4 with (go_at_call 60; refine (HJ.out.callX HP.out).mono ?_; rintro e y1 ⟨rfl, j1, q1⟩; have J1 := hid j1; have K1 := hid q1; clear j1 q1)
      obtain ⟨Fq1, hq1, _⟩ := J1.out.q
      obtain ⟨a8, cap8, d8, o8, n8⟩ := qin_rowK hq1
      have lb1 := hq1.lt
      have O8 := hid o8
      have N8 := hid n8
      have C8 := hid d8
      have F8 := hid (hq1.frozen 86)
      have LB := hid lb1
      clear o8 n8 hq1 c0 lb
      go_wp2_with (at_builtin; refine wpList_append_mine _ rfl (.tmp 32) (.tmp 34) 47 rfl 9 _ 1 16 Tryd.underlying47 infoS rfl (by omega) (.slice a8 D.keys.length cap8) D.keys.length (D.keys.flatMap strs) rfl (O8.out.alloc _) ⟨y1.heap.size, 0, none⟩ 1 1 (strs t) rfl rfl (by exact news_new y1 (strs t) 9) (strs_one t) ⟨by omega, by omega⟩ ?_; intro v' w1 o1 k1' p1; obtain ⟨a', cap', rfl, _, _⟩ := ownsRow_view o1; have O1 := hid o1; have K2 := hid k1'; have P1 := hid p1; have c8w := kept_cell k1' LB.out N8.out C8.out; have f8w := kept_frozen k1' LB.out N8.out F8.out; clear o1 k1' p1)
      go_ret
      obtain ⟨r1, r2⟩ := J1.out.write (D' := { D with keys := D.keys ++ [t] }) (Q' := Q) (fun Fq q _ => by
        obtain ⟨a, c⟩ := qin_appK q C8.out K2.out t O1.out P1.out
        exact ⟨_, a, c, fun k hk => hk.imp id (fun z => z.1)⟩)
      refine ⟨?_, X.stage t, _, r1, ⟨HK2.out, Or.inr ⟨hu, hl6, rfl, rfl⟩⟩, K1.out.trans r2 (fun _ f => f) (fun _ _ f => f)⟩
      simp
      omega
    · have HP := hid (s2 hl6 hu)
      clear s1 s2 s3
      go_enter Tryd.func41, Tryd.ntmps41
      go_wp2_with (go_at_call 60; refine (HJ.out.callX HP.out).mono ?_; rintro e y1 ⟨rfl, j1, q1⟩; have J1 := hid j1; have K1 := hid q1; clear j1 q1)
      go_ret
      exact ⟨rfl, X, D, J1.out, ⟨HK.out.up, Or.inl ⟨rfl, rfl, Or.inl hu⟩⟩, K1.out⟩
end Go.Proofs.YtphapknfkbgapabDoor
namespace Go.Proofs.YtphapknfkbgapabDoor
open Go.RowKit

variable {N : ByteArray → Prop} {G : Nat → Prop} {b bx S n : Nat} {R : Int} {key : ByteArray} {X : PS} {D : PD} {Q : Pods}

/-! nonceOf, see. -/
set_option maxRecDepth 100000 in
set_option maxHeartbeats 1000000 in
theorem nonceD_any (w : World) (n : Int) (h0 : 0 ≤ n) (h1 : n ≤ 100000000000000) :
    Calls Tryd.prog 49 #[.int .i64 n] w fun e w' => e = .returned (.string (nonceTo n 12)) ∧ Low w.heap.size w w' := by
  have hns := nonceTo_size n
  go_enter Tryd.func49, Tryd.ntmps49
  go_wp2
  go_loopw [0, 3, 4] (fun nv sv iv wr => ∃ (i : Nat) (x : Int) (s : ByteArray), i ≤ 12 ∧ 0 ≤ x ∧ x ≤ 100000000000000 ∧ s.size ≤ 12 ∧ nv = .int .i64 x ∧ sv = .string s ∧ iv = .int .i64 (i : Int) ∧ Hid (x = n / 256 ^ i ∧ s = nonceTo n i ∧ Low w.heap.size w wr)) (fun _ _ iv _ => 12 - (intOf iv).toNat)
  case atStart => exact ⟨0, n, nonceTo n 0, by omega, h0, h1, by rw [hns]; omega, rfl, rfl, rfl, by simp, rfl, Low.refl _ _⟩
  case round =>
    obtain ⟨i, x, s, hi, x0, x1, hs, rfl, rfl, rfl, HI⟩ := hrel
    clear h0 h1 hns
    by_cases h2 : i < 12
    · have q1 : decide ((i : Int) < 12) = true := by simp; omega
      obtain ⟨y, hy⟩ : ∃ y : Nat, x % 256 = (y : Int) := ⟨(x % 256).toNat, by omega⟩
      have y1 : y < 256 := by omega
      have hcv := conv1 wr y y1
      have HY := hid hy
      have t1 : Int.tmod x 256 = (y : Int) := by rw [Int.tmod_eq_emod_of_nonneg x0]; exact hy
      have t2 : Int.tdiv x 256 = x / 256 := Int.tdiv_eq_ediv_of_nonneg x0
      have hz := bytes256 x x0
      clear hy
      go_wp2_with fail
      obtain ⟨e1, e2, e3⟩ := HI.out
      have eb : (⟨#[UInt8.ofNat y]⟩ : ByteArray) = ⟨#[nonceB n i]⟩ := by
        unfold nonceB
        rw [← e1, HY.out, Int.toNat_natCast]
      have es : s ++ ⟨#[UInt8.ofNat y]⟩ = nonceTo n (i + 1) := by rw [nonceTo_succ, ← e2, eb]
      refine ⟨⟨i + 1, x / 256, nonceTo n (i + 1), by omega, hz, by omega, by rw [nonceTo_size]; omega, rfl, by rw [es], by simp, ?_, rfl, e3.alloc e3.size _⟩, by simp [intOf]; omega⟩
      rw [e1, Int.ediv_ediv_of_nonneg (Int.pow_nonneg (by omega)), ← Int.pow_succ]
    · have q1 : decide ((i : Int) < 12) = false := by simp; omega
      obtain rfl : i = 12 := by omega
      go_wp2_with fail
      go_ret
      exact ⟨by rw [HI.out.2.1]; rfl, HI.out.2.2⟩
theorem qin_rowS {w : World} {F : Nat → Prop} (h : QIn w F b bx S R key D Q) : ∃ a cap, w.cell? ⟨b, 85, none⟩ = some (.slice a D.seen.length cap) ∧ w.ownsRow 0 65 6 (.slice a D.seen.length cap) D.seen.length (D.seen.flatMap Ent.cells) ∧ (Value.slice a D.seen.length cap).ownBlock ≠ some b := by
  obtain ⟨hl, vD, vS, vK, hO⟩ := h
  obtain ⟨v, hv, ho, _⟩ := hO.row 1 rfl
  have hn := hO.apart 1 rfl hv
  obtain ⟨a, cap, rfl, _, _⟩ := ownsRow_view ho
  exact ⟨a, cap, by rw [hO.cell]; exact hv, ho, hn⟩
theorem qc_setSeen (h : PLen D Q) {vD vS vK v : Value} : (qcells bx S R key D Q vD vS vK).set 85 v = qcells bx S R key D Q vD v vK := by
  unfold qcells
  rw [List.set_append_right _ _ (by simp [headOf])]
  have e : 85 - (headOf bx S R key D vD).length = 79 := by simp [headOf]
  rw [e, List.set_append_right _ _ (by rw [h.mid]; omega), h.mid]
  rfl
theorem qin_appS {w w1 : World} {F : Nat → Prop} {v v' : Value} {o : Obj} (h : QIn w F b bx S R key D Q) (hv : w.cell? ⟨b, 85, none⟩ = some v) (k : Kept (fun q => v.ownBlock = some q) (w.alloc o) w1) (t : Ent) (ho : w1.ownsRow 0 65 6 v' (D.seen.length + 1) (D.seen.flatMap Ent.cells ++ t.cells)) (P : v'.ownBlock = v.ownBlock ∨ v'.ownBlock = some (w.alloc o).heap.size) :
    QIn (w1.setCell ⟨b, 85, none⟩ v') (grow F w (w1.setCell ⟨b, 85, none⟩ v')) b bx S R key { D with seen := D.seen ++ [t] } Q ∧ Kept F w (w1.setCell ⟨b, 85, none⟩ v') := by
  obtain ⟨hl, vD, vS, vK, hO⟩ := h
  obtain rfl : vS = v := Option.some.inj ((qc_seen hl).symm.trans ((hO.cell 85).symm.trans hv))
  obtain ⟨q1, q2⟩ := hO.appended (Low.refl _ w) 1 rfl (qc_seen hl) k ho P (qoffs D 1 rfl)
  exact ⟨⟨⟨hl.ops, hl.dest, hl.node, hl.needs, hl.need⟩, vD, v', vK, q1.cast (qc_setSeen hl) (by simp [PD.rows])⟩, q2⟩
theorem see_step {l : List Ent} {i : Nat} {x e : Ent} (h : ∀ (q : Nat) (x : Ent), q < i → l[q]? = some x → x.rev ≠ e.rev) (hx : l[i]? = some x) (qe : (x.rev == e.rev) = false) : ∀ (q : Nat) (x : Ent), q < i + 1 → l[q]? = some x → x.rev ≠ e.rev := fun q y hq hy => by
  by_cases c : q = i
  · subst c
    obtain rfl := Option.some.inj (hx.symm.trans hy)
    simpa using qe
  · exact h q y (by omega) hy
set_option maxRecDepth 100000 in
set_option maxHeartbeats 2000000 in
theorem seeQ (w : World) (e : Ent) (h : JQ w G b bx S R key X D Q) (hs : D.seen.length ≤ 2180000000000) :
    Calls Tryd.prog 51 #[.pointer (some ⟨b, 0, none⟩), .agg #[.string e.path, .int .i64 e.rev, .int .i64 e.key, .int .i64 e.draw, .string e.sealed, .bool e.gone]] w fun x w' => x = .returned (.tuple #[]) ∧ ∃ D', JQ w' G b bx S R key X D' Q ∧ (D' = D ∨ ((∀ z ∈ D.seen, z.rev ≠ e.rev) ∧ D' = { D with seen := D.seen ++ [e] })) ∧ Kept (fun k => ¬ G k) w w' := by
  have HJ := hid h
  clear h
  go_enter Tryd.func51, Tryd.ntmps51
  go_wp2_with fail
  go_name_world W hW
  have BE : Hid (Blk W w.heap.size 65 e.cells) := by
    show Blk W _ _ _
    rw [← hW]; exact Blk.new w 65 e.cells
  have LW : Hid (Low w.heap.size w W) := by
    show Low _ _ _
    rw [← hW]; exact (Low.refl _ w).alloc (Nat.le_refl _) _
  clear hW
  go_loopg [4] D.seen.length (fun left iv wr => ∃ i : Nat, left = D.seen.length - i ∧ i ≤ D.seen.length ∧ iv = .int .i64 (i : Int) ∧ Hid (Low W.heap.size W wr) ∧ Hid (∀ (q : Nat) (x : Ent), q < i → D.seen[q]? = some x → x.rev ≠ e.rev))
  case atStart => exact ⟨0, rfl, Nat.zero_le _, rfl, Low.refl _ _, fun q x hq => by omega⟩
  case round =>
    obtain ⟨i, hgk, hi, rfl, HI, HO⟩ := hrel
    have HGK := hid hgk
    clear hgk
    have L1 : Hid (Low w.heap.size w wr) := LW.out.trans (HI.out.mono LW.out.size)
    have J1 : Hid (JQ wr G b bx S R key X D Q) := HJ.out.low L1.out
    have B1 : Hid (Blk wr w.heap.size 65 e.cells) := BE.out.low HI.out BE.out.lt
    obtain ⟨Fq, hq, _⟩ := J1.out.q
    obtain ⟨a8, cap8, d8, o8, n8⟩ := qin_rowS hq
    have lb := hq.lt
    have lE := B1.out.lt
    have e1 : wr.cell? ⟨w.heap.size, 1, none⟩ = some (.int .i64 e.rev) := B1.out.cell 1
    by_cases h3 : i < D.seen.length
    · have q1 : decide ((i : Int) < (D.seen.length : Int)) = true := by simp; omega
      have q2 : decide (i < D.seen.length) = true := by simp; omega
      have il : (i : Int) < (D.seen.length : Int) := by omega
      obtain ⟨x, hx⟩ : ∃ x, D.seen[i]? = some x := ⟨_, List.getElem?_eq_getElem h3⟩
      obtain ⟨s1, t1, z1, _, f1⟩ := ownsRow_view o8
      obtain ⟨g1, rfl, hg1, _, _⟩ := f1 (by omega)
      cases z1
      have p1 : wr.cell? ⟨g1, i * 6 + 1, none⟩ = some (.int .i64 x.rev) := by
        have hl : i * 6 + 1 < D.seen.length * 6 := by omega
        rw [o8.cellAt (i * 6 + 1) hl, flat_at 6 Ent.cells Ent.len D.seen i 1 x hx (by omega)]
        rfl
      have HX := hid hx
      clear o8 n8 hq f1 hx
      cases qe : (x.rev == e.rev)
      · go_upto_region 4 with fail
        go_region
        all_goals go_wp2_with fail
        all_goals
          go_roundg (D.seen.length - (i + 1))
          case rel => exact ⟨i + 1, rfl, by omega, by simp, HI.out.drew, see_step HO.out HX.out qe⟩
          case measure => have := HGK.out; omega
      · go_upto_region 4 with fail
        go_region
        all_goals go_wp2_with fail
        all_goals
          first | go_end0 | refine bodyPost_ret (results_none rfl _ _ _) rfl ?_
          exact ⟨rfl, D, J1.out.low (Low.refl _ wr).drew, Or.inl rfl, (L1.out.kept.mono (fun _ _ f => f.elim)).drew⟩
    · have q1 : decide ((i : Int) < (D.seen.length : Int)) = false := by simp; omega
      have q2 : decide (i < D.seen.length) = false := by simp; omega
      have e0 : wr.cell? ⟨w.heap.size, 0, none⟩ = some (.string e.path) := B1.out.cell 0
      have e2 : wr.cell? ⟨w.heap.size, 2, none⟩ = some (.int .i64 e.key) := B1.out.cell 2
      have e3 : wr.cell? ⟨w.heap.size, 3, none⟩ = some (.int .i64 e.draw) := B1.out.cell 3
      have e4 : wr.cell? ⟨w.heap.size, 4, none⟩ = some (.string e.sealed) := B1.out.cell 4
      have e5 : wr.cell? ⟨w.heap.size, 5, none⟩ = some (.bool e.gone) := B1.out.cell 5
      have O8 := hid o8
      have N8 := hid n8
      have C8 := hid d8
      have F8 := hid (hq.frozen 85)
      have LB := hid lb
      clear o8 n8 hq
      go_upto_region 5 with fail
      go_region_law ((refine step_append_big _ rfl (.tmp 29) (.tmp 31) 46 rfl 65 _ 6 64 Tryd.underlying46 info50 rfl (by omega) (.slice a8 D.seen.length cap8) D.seen.length (D.seen.flatMap Ent.cells) ?_ ?_ ⟨wr.heap.size, 0, none⟩ 1 1 e.cells ?_ rfl ?_ (Ent.one _) ⟨by omega, by omega⟩ ?_; rfl; exact (World.ownsRow.alloc (w := wr) O8.out _); rfl; exact (news_new wr e.cells 65); intro v' w1 o1 k1 p1; obtain ⟨a', cap', rfl, _, _⟩ := ownsRow_view o1; have O1 := hid o1; have K2 := hid k1.of_drew; have P1 := hid p1; have c8w := kept_cell K2.out LB.out N8.out C8.out; have f8w := kept_frozen K2.out LB.out N8.out F8.out; clear o1 k1 p1))
      all_goals go_wp2_with fail
      all_goals
        (try go_end0)
        obtain ⟨r1, r2⟩ := J1.out.write (D' := { D with seen := D.seen ++ [e] }) (Q' := Q) (fun Fq q _ => by
          obtain ⟨a, c⟩ := qin_appS q C8.out K2.out e O1.out P1.out
          exact ⟨_, a, c, fun k hk => hk.imp id (fun z => z.1)⟩)
        exact ⟨rfl, _, r1, Or.inr ⟨fun z hz => by
          obtain ⟨q, hq⟩ := List.getElem?_of_mem hz
          exact HO.out q z (by have := (List.getElem?_eq_some_iff.1 hq).1; omega) hq, rfl⟩, L1.out.kept.trans r2 (fun _ f => f.elim) (fun _ _ f => f)⟩
end Go.Proofs.YtphapknfkbgapabDoor
namespace Go.Proofs.YtphapknfkbgapabDoor
open Go.RowKit

variable {N : ByteArray → Prop} {G : Nat → Prop} {b bx S n : Nat} {R : Int} {key : ByteArray} {X : PS} {D : PD} {Q : Pods}

/-! The list of entries, told to the player. -/
theorem JQ.entries {w : World} (h : JQ w G b bx S R key X D Q) (hn : X.entries.length ≤ 1000) : Calls Tryd.prog 48 #[.pointer (some ⟨bx, 0, none⟩)] w fun e w' => ∃ v, e = .returned v ∧ JQ w' (fun i => G i ∨ (w.heap.size ≤ i ∧ i < w'.heap.size)) b bx S R key X D Q ∧ Low w.heap.size w w' ∧ w'.ownsRow 0 65 6 v X.entries.length (X.entries.flatMap Ent.cells) ∧ ∀ k, v.ownBlock = some k → w.heap.size ≤ k := by
  obtain ⟨Fx, Fq, hs⟩ := id h
  refine (pEntries_any w hs.x hn).mono ?_
  rintro e w' ⟨v, rfl, l, o, c⟩
  exact ⟨v, rfl, h.wide l, l, o, c⟩
/-- A list that was told, in blocks that nobody touches. -/
theorem owns_kept {w w' : World} {H : Nat → Prop} {v : Value} {m : Nat} {xs : List Value} {ty sz : Nat} (h : w.ownsRow 0 ty sz v m xs) (k : Kept (fun i => ¬ H i) w w') (hb : ∀ q, v.ownBlock = some q → H q) : w'.ownsRow 0 ty sz v m xs :=
  ownsRow_at h (fun q hq => k.block q (h.lt q hq).2 (fun f => f (hb q hq)))
end Go.Proofs.YtphapknfkbgapabDoor
namespace Go.Proofs.YtphapknfkbgapabDoor
open Go.RowKit

variable {N : ByteArray → Prop} {G : Nat → Prop} {b bx S n : Nat} {R : Int} {key : ByteArray} {X : PS} {D : PD} {Q : Pods}

/-! migrate. -/
/-- How far the deeds have followed the moves. -/
structure Mvd (D : PD) (es : List Ent) (ds : List Dd) (t : Nat) (D' : PD) : Prop where
  d : D' = { D with deeds := D.deeds ++ ds.take t }
  law : MoveLaw (D.deeds ++ ds.take t) (es.drop t) (ds.drop t)
theorem Mvd.step {es : List Ent} {ds : List Dd} {t : Nat} {D' : PD} (h : Mvd D es ds t D') {e : Ent} (he : es[t]? = some e) : ∃ d, ds[t]? = some d ∧ e.gone = false ∧ e.rev = (D'.deeds.length : Int) + 1 ∧ (∃ m, NewD D'.deeds e.path m d ∧ m ≠ 0) ∧ d.gone = false ∧ Mvd D es ds (t + 1) { D' with deeds := D'.deeds ++ [d] } := by
  have hl := (List.getElem?_eq_some_iff.1 he).1
  have h1 := h.law
  rw [List.drop_eq_getElem_cons hl] at h1
  have hee : es[t] = e := (List.getElem?_eq_some_iff.1 he).2
  rw [hee] at h1
  cases hd : ds[t]? with
  | none =>
    have e0 : ds.drop t = [] := List.drop_eq_nil_of_le (by simpa using hd)
    rw [e0] at h1
    simp [MoveLaw] at h1
  | some d =>
    obtain ⟨hdl, hde⟩ := List.getElem?_eq_some_iff.1 hd
    rw [List.drop_eq_getElem_cons hdl, hde] at h1
    obtain ⟨a1, a2, a3, a4, a5⟩ := h1
    have e1 : D'.deeds = D.deeds ++ ds.take t := by rw [h.d]
    refine ⟨d, rfl, a1, by rw [e1]; exact a2, by rw [e1]; exact a3, a4, ?_, ?_⟩
    · rw [h.d]
      show ({ D with deeds := D.deeds ++ ds.take t ++ [d] } : PD) = { D with deeds := D.deeds ++ ds.take (t + 1) }
      rw [take_snoc hd, List.append_assoc]
    · rw [take_snoc hd, ← List.append_assoc]; exact a5
theorem keep3 {w : World} {c : Addr} {a : Nat} {x v0 v1 v2 : Value} (h : c.block ≠ a) (hc : w.cell? c = some x) : (((w.setCell ⟨a, 0, none⟩ v0).setCell ⟨a, 1, none⟩ v1).setCell ⟨a, 2, none⟩ v2).cell? c = some x :=
  (setCell_kept _ ⟨a, 2, none⟩ v2).cell ((setCell_kept _ ⟨a, 1, none⟩ v1).cell ((setCell_kept w ⟨a, 0, none⟩ v0).cell hc h) h) h
theorem wrapS {n : Nat} (h : n ≤ 1000000000000000) : wrap64 ((n : Int) + 1) = (n : Int) + 1 := by unfold wrap64; omega
theorem wrapS2 {n : Nat} (h : n ≤ 1000000000000000) : IntKind.i64.wrap ((n : Int) + 1) = (n : Int) + 1 := by rw [IntKind.wrap_i64]; omega
theorem natz {m : Nat} (h : m ≠ 0) : ((m : Int) == 0) = false := by rw [beq_eq_false_iff_ne]; omega
set_option maxRecDepth 100000 in
set_option maxHeartbeats 4000000 in
theorem migrateQ (w : World) (t : Nat) (ht : t ≤ 20) (h : JQ w G b bx S R key X D Q) (k : Kn IsName n X D S R) (hn : n ≤ 1970000000000) :
    Calls Tryd.prog 43 #[.pointer (some ⟨b, 0, none⟩), .int .i64 (t : Int)] w fun e w' => e = .returned (.bool true) ∧ ∃ X' D', JQ w' G b bx S R key X' D' Q ∧ (Kn IsName (n + 1) X' D' S R ∧ Still D D') ∧ Kept (fun k => ¬ G k) w w' ∧ (pGoing X = true → Migd X X' t) := by
  obtain ⟨s1, s2⟩ := kn_migrate k (by omega) t ht
  have hlen := k.floor.2.2
  have HLEN : Hid (D.deeds.length ≤ 1970000000000) := Nat.le_trans hlen hn
  obtain ⟨Fq, hq, _⟩ := h.q
  have c0 := qin_ptr hq
  have lb := hq.lt
  have HJ := hid h
  have HK := hid k
  clear h k hq
  cases hg : pGoing X
  · have HP := hid (s1 hg)
    clear s1 s2
    go_enter Tryd.func43, Tryd.ntmps43
    go_wp2_with (go_at_call 63; refine (HJ.out.callX HP.out).mono ?_; rintro e y1 ⟨rfl, j1, q1⟩; have J1 := hid j1; have K1 := hid q1; clear j1 q1)
    go_ret
    exact ⟨rfl, X, D, J1.out, ⟨HK.out.mono (by omega), ⟨rfl, rfl⟩⟩, K1.out, fun q => by cases q⟩
  · obtain ⟨m, er, X', ds, es, hP, her, hmt, hen, hel, hdl, hml, hmg, hkn⟩ := s2 hg
    have HMG := hid hmg
    clear hmg
    have HP := hid hP
    have HKN := hid hkn
    have HEN := hid hen
    have hne : X'.entries.length ≤ 60 := by
      obtain ⟨Y, _, hr, _⟩ := hkn
      have := hr.few
      have := hr.rooms
      omega
    have hX : X'.entries.length = X.entries.length + m := by rw [hen, List.length_append, hel]
    have q1 : decide ((m : Int) < 0) = false := by simp
    have q2 : decide ((t : Int) < (m : Int)) = false := by simp; omega
    have q2n : decide (t < m) = false := by simp; omega
    have q3 : decide ((X'.entries.length : Int) < (m : Int)) = false := by simp; omega
    have q3n : decide (X'.entries.length < m) = false := by simp; omega
    have M0 : Hid (Mvd D es ds 0 D) := ⟨by simp, by simpa using hml⟩
    have x1 : wrap64 ((X'.entries.length : Int) - (m : Int)) = (X.entries.length : Int) := by unfold wrap64; omega
    have x2 : (X'.entries.length : Int) - (m : Int) = (X.entries.length : Int) := by omega
    have HX := hid hX
    have HEL := hid hel
    have HDL := hid hdl
    have g0 : Hid (G 0) := by obtain ⟨_, _, q⟩ := HJ.out; exact q.g0
    clear s1 s2 hP hkn hen hml hel hdl hX
    rcases her with rfl | rfl
    all_goals
      go_enter Tryd.func43, Tryd.ntmps43
      go_upto_region 6 with (go_at_call 63; refine (HJ.out.callX HP.out).mono ?_; rintro e y1 ⟨rfl, j1, k1⟩; have J1 := hid j1; have K1 := hid k1; clear j1 k1)
      obtain ⟨Fq1, hq1, _⟩ := J1.out.q
      have c0b := qin_ptr hq1
      have lb1 := hq1.lt
      clear hq1 c0 lb
      go_upto_region 11 with (go_at_call 48; refine (J1.out.entries (by omega)).mono ?_; rintro e y2 ⟨v2, rfl, j2, l2, o2, b2⟩; obtain ⟨a2, cap2, rfl, _, _⟩ := ownsRow_view o2; have J2 := hid j2; have L2 := hid l2; have O2 := hid o2; have B2 := hid b2; clear j2 l2 o2 b2)
      obtain ⟨G1, hG1⟩ : ∃ G1, G1 = (fun i => G i ∨ (y1.heap.size ≤ i ∧ i < y2.heap.size)) := ⟨_, rfl⟩
      rw [← hG1] at J2
      have HG1 := hid hG1
      have own1 : Hid (∀ q, (Value.slice a2 X'.entries.length cap2).ownBlock = some q → G1 q) := fun q e => by rw [hG1]; exact Or.inr ⟨B2.out q e, (O2.out.lt q e).2⟩
      clear hG1 c0b lb1
      go_loopg [9] m (fun left iv wr => ∃ (i ei : Nat), left = m - i ∧ i ≤ m ∧ iv = .int .i64 (ei : Int) ∧ Hid (ei = X.entries.length + i) ∧ Hid (∃ D', Mvd D es ds i D' ∧ JQ wr G1 b bx S R key X' D' Q ∧ Kept (fun k => ¬ G1 k) y2 wr))
      case atStart => exact ⟨0, X.entries.length, rfl, Nat.zero_le _, by simp, rfl, D, M0.out, J2.out, Kept.refl _ _⟩
      case round =>
        obtain ⟨i, ei, hgk, hi, rfl, HEI, HI⟩ := hrel
        have hei := HEI.out
        have HGK := hid hgk
        clear hgk
        obtain ⟨D', hm1, hj1, hk1⟩ := HI.out
        have M1 := hid hm1
        have JR := hid hj1
        have KR := hid hk1
        obtain ⟨Fq3, hq3, _⟩ := hj1.q
        have lb3 := hq3.lt
        have HQ3 := hid hq3
        have OR : Hid (wr.ownsRow 0 65 6 (.slice a2 X'.entries.length cap2) X'.entries.length (X'.entries.flatMap Ent.cells)) := owns_kept O2.out hk1 own1.out
        have hX := HX.out
        clear hm1 hj1 hk1 HI hq3 x1 x2 q1 q2 q2n q3 q3n hlen hn
        by_cases h3 : i < m
        · have q5 : decide ((ei : Int) < (X'.entries.length : Int)) = true := by simp; omega
          have q5n : decide (ei < X'.entries.length) = true := by simp; omega
          obtain ⟨e, he⟩ : ∃ e, es[i]? = some e := ⟨_, List.getElem?_eq_getElem (by have := HEL.out; omega)⟩
          have heX : X'.entries[ei]? = some e := by rw [hei, HEN.out, List.getElem?_append_right (by omega), show X.entries.length + i - X.entries.length = i by omega]; exact he
          obtain ⟨d, hd1, hd2, hd3, ⟨mm, hd4, hd5⟩, hd6, hd7⟩ := M1.out.step he
          have hl6 : ei < X'.entries.length := by omega
          obtain ⟨s1, t1, z1, _, f1⟩ := ownsRow_view OR.out
          obtain ⟨gl, rfl, hgl, _, _⟩ := f1 (by omega)
          cases z1
          have cell : ∀ q, q < 6 → wr.cell? ⟨gl, ei * 6 + q, none⟩ = e.cells[q]? := fun q hq => by
            rw [OR.out.cellAt (ei * 6 + q) (by omega), flat_at 6 Ent.cells Ent.len X'.entries ei q e heX hq]
          have p0 : wr.cell? ⟨gl, ei * 6, none⟩ = some (.string e.path) := cell 0 (by omega)
          have p1 : wr.cell? ⟨gl, ei * 6 + 1, none⟩ = some (.int .i64 e.rev) := cell 1 (by omega)
          have p5 : wr.cell? ⟨gl, ei * 6 + 5, none⟩ = some (.bool e.gone) := cell 5 (by omega)
          have ixe : (ei : Int) < (X'.entries.length : Int) := by omega
          have P1 := hid p1
          have P5 := hid p5
          obtain ⟨a4, cap4, hc4, _⟩ := qin_deeds HQ3.out
          rw [List.length_map] at hc4
          have lD : D'.deeds.length ≤ 2000000000000 := by
            rw [M1.out.d]
            show (D.deeds ++ ds.take i).length ≤ _
            rw [List.length_append, List.length_take]
            have := HLEN.out
            have := HDL.out
            omega
          have HD1 := hid hd1
          have HD3 := hid hd3
          have HD4 := hid hd4
          have HD7 := hid hd7
          clear hd1 hd3 hd4 hd7 f1 heX he cell hX hei p1 p5 hl6
          have HNE : Hid (ei ≤ 1000000000000000) := by show _ ≤ _; omega
          clear hne
          have HNW : Hid (∀ y : World, Low wr.heap.size wr y → Calls Tryd.prog 35 #[.pointer (some ⟨b, 0, none⟩), .string e.path, .int .i64 (D'.deeds.length : Int)] y fun x w' => x = .returned (.tuple #[.agg #[.string d.path, .string d.text, .bool d.gone], .int .i64 (mm : Int)]) ∧ Low wr.heap.size wr w' ∧ Low y.heap.size y w') := fun y hy => by
            refine (newestD_any y e.path D'.deeds.length (HQ3.out.low hy) (Nat.le_refl _) (by omega)).mono ?_
            rintro x w' ⟨r, d2, h1, h2, h3⟩
            rw [List.take_length] at h2
            obtain ⟨e1, e2⟩ := newD_unique h2 HD4.out
            rw [e1, e2] at h1
            exact ⟨h1, hy.trans (h3.mono hy.size), h3⟩
          have nb1 : gl ≠ wr.heap.size := Nat.ne_of_lt hgl
          have nb2 : b ≠ wr.heap.size := Nat.ne_of_lt lb3
          have HD6 := hid hd6
          clear ht hmt hd6
          go_upto_region 13 with fail
          go_cut [10, 11] (fun mv rv wc => ∃ (M : Nat), mv = .pointer (some ⟨M, 0, none⟩) ∧ rv = .int .i64 (mm : Int) ∧ Hid (Low wr.heap.size wr wc ∧ wr.heap.size ≤ M ∧ Blk wc M 38 d.cells))
          case first =>
            go_region_held3 (fun W' => W'.cell? ⟨gl, ei * 6, none⟩ = some (.string e.path) ∧ W'.cell? ⟨b, 4, none⟩ = some (.slice a4 D'.deeds.length cap4)) (first | assumption | go_keep | exact ⟨keep3 nb1 S2.1, keep3 nb2 S2.2⟩)
              (first | (go_at_call 35; refine (HNW.out _ (Low.refl _ wr).drew).mono ?_; rintro x z2 ⟨rfl, l2, l3⟩; have S2 : z2.cell? ⟨gl, ei * 6, none⟩ = some (.string e.path) ∧ z2.cell? ⟨b, 4, none⟩ = some (.slice a4 D'.deeds.length cap4) := ⟨(l2.cell (p := ⟨gl, ei * 6, none⟩) hgl).trans p0, (l2.cell (p := ⟨b, 4, none⟩) lb3).trans hc4⟩; have hz1 : gl < z2.heap.size := Nat.lt_of_lt_of_le hgl l2.size; have hz2 : b < z2.heap.size := Nat.lt_of_lt_of_le lb3 l2.size; have LL2 := hid l2; clear l2 l3) | (go_at_call 35; refine (HNW.out _ ((Low.refl _ wr).alloc (Nat.le_refl _) _).drew).mono ?_; rintro x z2 ⟨rfl, l2, l3⟩; have S2 : z2.cell? ⟨gl, ei * 6, none⟩ = some (.string e.path) ∧ z2.cell? ⟨b, 4, none⟩ = some (.slice a4 D'.deeds.length cap4) := ⟨(l2.cell (p := ⟨gl, ei * 6, none⟩) hgl).trans p0, (l2.cell (p := ⟨b, 4, none⟩) lb3).trans hc4⟩; have hz1 : gl < z2.heap.size := Nat.lt_of_lt_of_le hgl l2.size; have hz2 : b < z2.heap.size := Nat.lt_of_lt_of_le lb3 l2.size; have LL2 := hid l2; have bz : Blk z2 wr.heap.size 38 Dd.zero.cells := (Blk.low (w := (wr.alloc (.cells Dd.zero.cells.toArray 38)).drew) (Blk.new wr 38 Dd.zero.cells) l3 (by simp)); have z0 : z2.cell? ⟨wr.heap.size, 0, none⟩ = some (.string ⟨#[]⟩) := bz.cell 0; have z1 : z2.cell? ⟨wr.heap.size, 1, none⟩ = some (.string ⟨#[]⟩) := bz.cell 1; have z2' : z2.cell? ⟨wr.heap.size, 2, none⟩ = some (.bool false) := bz.cell 2; have g0' := bz.frozen 0; have g1 := bz.frozen 1; have g2 := bz.frozen 2; have lz := bz.lt; have BZ := hid bz; clear l2 l3 bz))
            all_goals
              go_wp2_with fail
              go_meet
            all_goals first | exact ⟨_, rfl, rfl, LL2.out.alloc LL2.out.size _, LL2.out.size, Blk.new z2 38 d.cells⟩ | exact ⟨_, rfl, rfl, ((LL2.out.setCell (Nat.le_refl _) _).setCell (Nat.le_refl _) _).setCell (Nat.le_refl _) _, Nat.le_refl _, ((BZ.out.set 0 _).set 1 _).set 2 _⟩
          case rest =>
            obtain ⟨M, rfl, rfl, HM⟩ := hcut
            have JC : Hid (JQ wc G1 b bx S R key X' D' Q) := JR.out.low HM.out.1
            obtain ⟨Fq5, hq5, _⟩ := JC.out.q
            obtain ⟨b4, dap4, hd4, o4, n4, _⟩ := qin_rowD hq5
            have lb5 := hq5.lt
            have q10 : ((mm : Int) == 0) = false := natz hd5
            have q10n : (mm == 0) = false := by simpa using hd5
            have w2 : wc.cell? ⟨M, 2, none⟩ = some (.bool d.gone) := HM.out.2.2.cell 2
            have w0 : wc.cell? ⟨M, 0, none⟩ = some (.string d.path) := HM.out.2.2.cell 0
            have w1 : wc.cell? ⟨M, 1, none⟩ = some (.string d.text) := HM.out.2.2.cell 1
            rw [HD6.out] at w2
            have lM := HM.out.2.2.lt
            have v1 : wc.cell? ⟨gl, ei * 6 + 1, none⟩ = some (.int .i64 e.rev) := (HM.out.1.cell (p := ⟨gl, ei * 6 + 1, none⟩) hgl).trans P1.out
            have v5 : wc.cell? ⟨gl, ei * 6 + 5, none⟩ = some (.bool e.gone) := (HM.out.1.cell (p := ⟨gl, ei * 6 + 5, none⟩) hgl).trans P5.out
            rw [hd2] at v5
            have hrev : e.rev = (D'.deeds.length : Int) + 1 := HD3.out
            rw [hrev] at v1
            have O4 := hid o4
            have N4 := hid n4
            have C4 := hid hd4
            have F4 := hid (hq5.frozen 4)
            have LB := hid lb5
            have hgc : gl < wc.heap.size := Nat.lt_of_lt_of_le hgl HM.out.1.size
            have x3 : wrap64 ((D'.deeds.length : Int) + 1) = (D'.deeds.length : Int) + 1 := wrapS (Nat.le_trans lD (by decide))
            have x4 : IntKind.i64.wrap ((D'.deeds.length : Int) + 1) = (D'.deeds.length : Int) + 1 := wrapS2 (Nat.le_trans lD (by decide))
            clear o4 n4 hq5 hc4 p0
            clear HNW P1 P5 HD1 HD3 HD4 hgl lb3 OR nb1 nb2
            go_upto_region 14 with fail
            go_region
            all_goals
              go_upto_region 16 with fail
              go_name_world U hU
              have JU : Hid (JQ U G1 b bx S R key X' D' Q) := by
                show JQ U _ _ _ _ _ _ _ _ _
                rw [← hU]; exact JC.out.low (Low.refl _ wc).drew
              have LU : Hid (Low wr.heap.size wr U) := by
                show Low _ _ _
                rw [← hU]; exact HM.out.1.drew
              have BU : Hid (Blk U M 38 d.cells) := by
                show Blk U _ _ _
                rw [← hU]; exact HM.out.2.2
              obtain ⟨Fq7, hq7, _⟩ := JU.out.q
              obtain ⟨u4, vap4, hu4, ou4, nu4, _⟩ := qin_rowD hq7
              have lbU := hq7.lt
              have OU := hid ou4
              have NU := hid nu4
              have CU := hid hu4
              have FU := hid (hq7.frozen 4)
              have LBU := hid lbU
              have s0 : U.cell? ⟨M, 0, none⟩ = some (.string d.path) := BU.out.cell 0
              have s1 : U.cell? ⟨M, 1, none⟩ = some (.string d.text) := BU.out.cell 1
              have s2 : U.cell? ⟨M, 2, none⟩ = some (.bool d.gone) := BU.out.cell 2
              have lMU := BU.out.lt
              have HLD := hid lD
              clear hU hq7 ou4 nu4 w0 w1 w2 v1 v5 hd4 lb5 lM hgc x3 x4 q10 q10n O4 N4 C4 F4 LB
              go_region_law ((refine step_append_big _ rfl (.tmp 104) (.tmp 106) 36 rfl 38 _ 3 40 Tryd.underlying36 infoD rfl (by omega) (.slice u4 D'.deeds.length vap4) D'.deeds.length (D'.deeds.flatMap Dd.cells) ?_ ?_ ⟨U.heap.size, 0, none⟩ 1 1 d.cells ?_ rfl ?_ (Dd.one _) ⟨by have := HLD.out; omega, by omega⟩ ?_; rfl; exact (World.ownsRow.alloc (w := U) OU.out _); rfl; exact (news_new U d.cells 38); intro v' w1 o1 k1 p1; obtain ⟨a', cap', rfl, _, _⟩ := ownsRow_view o1; have O1 := hid o1; have K2 := hid k1.of_drew; have P1 := hid p1; have c4w := kept_cell K2.out LBU.out NU.out CU.out; have f4w := kept_frozen K2.out LBU.out NU.out FU.out; clear o1 k1 p1))
              all_goals go_wp2_with fail
              all_goals go_roundg (m - (i + 1))
              all_goals try (case measure => have := HGK.out; omega)
              all_goals
                obtain ⟨r1, r2⟩ := JU.out.write (D' := { D' with deeds := D'.deeds ++ [d] }) (Q' := Q) (fun Fq q _ => by
                  obtain ⟨a, c⟩ := qin_appD q CU.out K2.out d O1.out P1.out
                  exact ⟨_, a, c, fun k hk => hk.imp id (fun z => z.1)⟩)
                refine ⟨i + 1, ei + 1, rfl, by omega, by simp; exact wrapS HNE.out, by show _ = _; rw [HEI.out]; omega, { D' with deeds := D'.deeds ++ [d] }, HD7.out, r1, ?_⟩
                exact (KR.out.trans LU.out.kept (H := fun k => ¬ G1 k) (fun _ f => f) (fun _ _ f => f.elim)).trans r2 (fun _ f => f) (fun _ _ f => f)
        · have q5 : decide ((ei : Int) < (X'.entries.length : Int)) = false := by simp; omega
          have q5n : decide (ei < X'.entries.length) = false := by simp; omega
          obtain rfl : i = m := by omega
          clear hX hei
          go_wp2_with fail
          go_ret
          have hD : D' = { D with deeds := D.deeds ++ ds } := by rw [M1.out.d, List.take_of_length_le (by have := HDL.out; omega)]
          refine ⟨rfl, X', D', JR.out.weak (fun _ g => by rw [HG1.out]; exact Or.inl g) g0.out, ⟨by rw [hD]; exact HKN.out, by rw [hD]; exact ⟨rfl, rfl⟩⟩, ?_, fun _ => HMG.out⟩
          exact (K1.out.trans L2.out.kept (H := fun k => ¬ G k) (fun _ f => f) (fun _ _ f => f.elim)).trans KR.out (fun _ f => f) (fun _ _ f g => f (by rw [HG1.out]; exact Or.inl g))
end Go.Proofs.YtphapknfkbgapabDoor
