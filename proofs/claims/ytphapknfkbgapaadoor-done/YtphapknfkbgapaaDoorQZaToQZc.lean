import Derived.Test.YtphapknfkbgapaaDoorQIToQN
import Derived.Test.YtphapknfkbgapaaDoorPlJOne
import Derived.Test.YtphapknfkbgapaaDoorQTToQV
namespace Go.Proofs.YtphapknfkbgapaaDoor
open Go.RowKit

variable {N : ByteArray → Prop} {G : Nat → Prop} {b bx S n : Nat} {R : Int} {key : ByteArray} {X : PS} {D : PD} {Q : Pods}

/-! Done, plain data. -/
theorem pmoves_turn (T : ByteArray) (m : Int) : ∀ (t : Nat) (X : PS), (pMoves T m t X).1.turn = X.turn
  | 0, X => rfl
  | t + 1, X => by
    unfold pMoves
    split
    · split
      · rfl
      · exact (pmoves_turn T m t (X.pmove T m)).trans rfl
    · rfl
theorem Migd.turn {X' : PS} {t : Nat} (h : Migd X X' t) : X'.turn = X.turn := by
  obtain ⟨j, P, _, _, rfl⟩ := h
  exact pmoves_turn _ _ _ _
theorem Compd.turn {X' : PS} {D' : PD} (h : Compd N n X X' D D' S R) : X'.turn = X.turn := by
  rcases h.x with e | ⟨_, e⟩ <;> rw [e] <;> rfl
theorem going_of {X X' : PS} (h : X'.turn = X.turn) : pGoing X' = pGoing X := by unfold pGoing; rw [h]
/-- Behind so many rounds of migrate and compacted. -/
structure Rnd (n : Nat) (X : PS) (D D0 : PD) (S : Nat) (R : Int) (i : Nat) : Prop where
  kn : Kn IsName (n + 21 * i) X D S R
  sh : Sh (n + 21 * i) X R (6 - 2 * (i - 1))
  going : pGoing X = true
  flat : 0 < i → D.floor = (D.deeds.length : Int)
  seen : D.seen = D0.seen
theorem Rnd.step {X1 X2 : PS} {D1 D2 D0 : PD} {i : Nat} (h : Rnd n X D D0 S R i) (hn : n + 21 * i ≤ 1970000000000) (hR : 8 ≤ R) (k1 : Kn IsName (n + 21 * i + 20) X1 D1 S R) (s1 : Still D D1) (m1 : Migd X X1 20) (c2 : Compd IsName (n + 21 * i + 20) X1 X2 D1 D2 S R) : Rnd n X2 D2 D0 S R (i + 1) := by
  have e : n + 21 * (i + 1) = n + 21 * i + 20 + 1 := by omega
  have sm : Sh (n + 21 * i + 20) X1 R (6 - 2 * (i + 1 - 1)) := by
    obtain ⟨a, c⟩ := h.sh.moves (by omega) m1
    by_cases hi : 0 < i
    · have := c hR (h.kn.six (h.flat hi))
      rw [show 6 - 2 * (i - 1) - 2 = 6 - 2 * (i + 1 - 1) by omega] at this
      exact this
    · obtain rfl : i = 0 := by omega
      exact a
  refine ⟨by rw [e]; exact c2.kn, ?_, ?_, fun _ => ?_, ?_⟩
  · rw [e]
    rcases c2.x with q | ⟨hlt, q⟩
    · rw [q]; exact sm.mono (by omega)
    · rw [q]; exact sm.compact k1 hlt
  · rw [going_of c2.turn, going_of m1.turn]; exact h.going
  · rw [c2.d]
  · rw [c2.d]; exact s1.2.trans h.seen
theorem Kn.turn3 (h : Kn N n X D S R) (ht : X.turn ≠ 0) : T3 X.turn := by
  obtain ⟨Y, _, h, k, _⟩ := h
  rw [h.turn] at ht ⊢
  exact (k.left ht).2
/-- No key waits: the last one writes. -/
theorem Kn.last (h : Kn N n X D S R) (ht : X.turn ≠ 1) : X.write = (X.keys.length : Int) := by
  obtain ⟨Y, _, h, k, _⟩ := h
  obtain ⟨f1, f2⟩ := h.keys.few
  obtain ⟨K, hK⟩ : ∃ K, Y.keys[Y.keys.length - 1]? = some K := ⟨_, List.getElem?_eq_getElem (by omega)⟩
  have hw : K.writes ≠ 0 := fun e => ht (by rw [h.turn]; exact (h.keys.zero _ K hK e).2)
  have hb := h.keys.wr _ K hK
  rw [h.write, h.keys.len, writes_unique hK (by unfold writesAt; simp; omega) (fun i k hi hk => by have := (List.getElem?_eq_some_iff.1 hk).1; omega)]
  omega
theorem Kn.alive (h : Kn N n X D S R) : ∃ (j : Nat) (P : PKey), X.write = (j : Int) + 1 ∧ X.keys[j]? = some P ∧ keyGone P = false := by
  obtain ⟨Y, _, h, k, _⟩ := h
  obtain ⟨j, p, K, b1, b2, b3, b4, b5, _, b7, _⟩ := h.writer
  exact ⟨j, p, b1, b3, b5.alive.trans b7⟩
/-- All but the one that writes are destroyed: the turn is over. -/
theorem Kn.over (h : Kn N n X D S R) (ho : pOldLeft X.keys X.write = false) : X.turn = 0 := by
  obtain ⟨j, P, a1, a2, a3⟩ := h.alive
  have l1 := left_one a2 a3
  rw [← a1, ho] at l1
  have l1 : pLeft X.keys = 1 := by simpa using l1
  obtain ⟨Y, _, h, k, _⟩ := h
  by_cases e : X.turn = 0
  · exact e
  · rw [h.turn] at e
    have := (k.left e).1
    rw [left_same X.keys Y.keys h.keys.len (fun i p k hp hk => (h.keys.same i p k hp hk).alive)] at l1
    omega
/-- The keys below k are destroyed; where the turn is over, all but the one that writes. -/
structure Dest (n : Nat) (X : PS) (D D0 : PD) (S : Nat) (R : Int) (W k : Nat) : Prop where
  kn : Kn IsName (n + k) X D S R
  len : X.keys.length = W
  write : X.write = (W : Int)
  used : pUsed X = false
  gone : ∀ (j : Nat) (P : PKey), j + 1 < k → X.keys[j]? = some P → keyGone P = true
  turn : X.turn = 3 ∨ pOldLeft X.keys X.write = false
  seen : D.seen = D0.seen
theorem Dest.begin {D0 : PD} (h : Kn IsName n X D S R) (ht : X.turn = 3) (hu : pUsed X = false) (hs : D.seen = D0.seen) : Dest n X D D0 S R X.keys.length 1 :=
  ⟨h.mono (by omega), rfl, h.last (by rw [ht]; decide), hu, fun j P hj _ => by omega, Or.inl ht, hs⟩
theorem Dest.step {D0 : PD} {W k : Nat} (h : Dest n X D D0 S R W k) (h1 : 1 ≤ k) (hk : k < W) :
    ∃ (er : Int) (X' : PS) (v : Bool), PUni 28 [.int .i64 (k : Int)] X (.int .i64 er) X' ∧ D.dest[k]? = some v ∧ ((er = 0 ∧ v = false) ∨ (er = 14 ∧ v = true)) ∧ Dest n X' { D with dest := D.dest.set k true } D0 S R W (k + 1) := by
  obtain ⟨j, rfl⟩ : ∃ j, k = j + 1 := ⟨k - 1, by omega⟩
  have hjl : j < X.keys.length := by rw [h.len]; omega
  obtain ⟨P, hP⟩ : ∃ P, X.keys[j]? = some P := ⟨_, List.getElem?_eq_getElem hjl⟩
  obtain ⟨d0, d1, _, d3⟩ := (kn_destroy h.kn (j + 1)).2 j P rfl hP
  have hw : (((j + 1 : Nat)) : Int) ≠ X.write := by rw [h.write]; omega
  cases hg : keyGone P
  · have ht : X.turn = 3 := by
      rcases h.turn with q | q
      · exact q
      · rw [pOldLeft_yes hP (by unfold pOther; rw [hg, Bool.and_eq_true]; exact ⟨by rw [bne_iff_ne]; omega, rfl⟩)] at q
        cases q
    obtain ⟨t, e, hp, hk2⟩ := d3 hg hw ht
    have hgone : keyGone { P with text := ⟨#[]⟩ } = true := beq_self_eq_true (⟨#[]⟩ : ByteArray).toList
    refine ⟨0, _, false, hp, by rw [d0, hg], Or.inl ⟨rfl, rfl⟩, ⟨hk2, ?_, h.write, h.used, fun i q hi hq => ?_, ?_, h.seen⟩⟩
    · show (X.keys.set j _).length = W
      rw [List.length_set]; exact h.len
    · rcases set_at hq with ⟨hne, hq⟩ | ⟨_, rfl⟩
      · exact h.gone i q (by omega) hq
      · exact hgone
    · obtain ⟨i, p, a1, a2, a3⟩ := hk2.alive
      have l1 := left_one a2 a3
      rw [← a1] at l1
      cases hl : pOldLeft (X.destroy j P t).keys (X.destroy j P t).write
      · exact Or.inr rfl
      · rw [hl] at l1
        left
        show t = 3
        rw [e, if_neg (by rw [show (pLeft (X.keys.set j { P with text := ⟨#[]⟩ }) == 1) = false from l1]; decide), ht]
  · refine ⟨14, X, true, d1 hg, by rw [d0, hg], Or.inr ⟨rfl, rfl⟩, ?_⟩
    have e : ({ D with dest := D.dest.set (j + 1) true } : PD) = D := by rw [set_same (by rw [d0, hg])]
    rw [e]
    refine ⟨h.kn.mono (by omega), h.len, h.write, h.used, fun i q hi hq => ?_, h.turn, h.seen⟩
    by_cases q1 : i = j
    · subst q1
      obtain rfl := Option.some.inj (hq.symm.trans hP)
      exact hg
    · exact h.gone i q (by omega) hq
theorem Dest.over {D0 : PD} {W : Nat} (h : Dest n X D D0 S R W W) : X.turn = 0 := by
  refine h.kn.over (pOldLeft_no (fun i k hk => ?_))
  unfold pOther
  rw [h.write]
  have hi := (List.getElem?_eq_some_iff.1 hk).1
  rw [h.len] at hi
  by_cases e : i + 1 = W
  · rw [Bool.and_eq_false_iff]
    left
    rw [bne_eq_false_iff_eq]
    show (i : Int) + 1 = _
    omega
  · rw [Bool.and_eq_false_iff]
    right
    show (!keyGone k) = false
    rw [h.gone i k (by omega) hk]
    rfl
theorem used_all (h : pUsed X = false) {e : Ent} (he : e ∈ X.entries) (hg : e.gone = false) : e.key = X.write := by
  unfold pUsed at h
  have := List.any_eq_false.1 h e he
  rw [hg] at this
  simpa using this
/-- The player may tell the coffer's state. -/
theorem JQ.state {w : World} (h : JQ w G b bx S R key X D Q) : Calls Tryd.prog 27 #[.pointer (some ⟨bx, 0, none⟩)] w fun e w' => e = .returned (.agg #[.int .i64 X.rev, .int .i64 X.floor, .int .i64 X.epoch, .int .i64 X.write, .int .i64 X.turn]) ∧ JQ w' G b bx S R key X D Q ∧ Low w.heap.size w w' := by
  obtain ⟨Fx, Fq, hs⟩ := id h
  refine (pState_any w hs.x).mono ?_
  rintro e w' ⟨rfl, l⟩
  exact ⟨rfl, h.low l, l⟩
theorem JQ.stateV {w : World} {v u : Int} (h : JQ w G b bx S R key X D Q) (hv : X.write = v) (hu : X.turn = u) : Calls Tryd.prog 27 #[.pointer (some ⟨bx, 0, none⟩)] w fun e w' => e = .returned (.agg #[.int .i64 X.rev, .int .i64 X.floor, .int .i64 X.epoch, .int .i64 v, .int .i64 u]) ∧ JQ w' G b bx S R key X D Q ∧ Low w.heap.size w w' := by
  have := h.state
  rw [hv, hu] at this
  exact this
end Go.Proofs.YtphapknfkbgapaaDoor
namespace Go.Proofs.YtphapknfkbgapaaDoor
open Go.RowKit

variable {N : ByteArray → Prop} {G : Nat → Prop} {b bx S n : Nat} {R : Int} {key : ByteArray} {X : PS} {D : PD} {Q : Pods}

/-! turned. -/
theorem szSt (a b c d e : Int) : (Tryd.prog.info? 64).map (·.size) = some (stCells a b c d e).length := show _ = some 5 by kernel_rfl
theorem stCells_one (a b c d e : Int) : ∀ v ∈ stCells a b c d e, v.oneCell' = true := by simp [stCells, Value.oneCell']
theorem stSt {ops : Array Oper} {rest : List Oper} {d : Option Tmp} {t0 : TypeId} {pos : String} {after : Array Edge} {f : Act} {w : World} {Q : Exit → Act → World → Prop} (x y : Operand) (b : Nat) (a0 b0 c0 d0 e0 a1 b1 c1 d1 e1 : Int)
    (hx : f.eval x = .pointer (some ⟨b, 0, none⟩)) (hy : f.eval y = .agg (stCells a1 b1 c1 d1 e1).toArray) (hB : Blk w b 64 (stCells a0 b0 c0 d0 e0))
    (h : ∀ w', Blk w' b 64 (stCells a1 b1 c1 d1 e1) → Kept (fun k => k = b) w w' → w'.heap.size = w.heap.size → wpList Tryd.prog ops Q rest (f.put d undef) w') :
    wpList Tryd.prog ops Q ({ dst := d, op := .store 64 x y, type := t0, pos := pos, after := after, guard := none } :: rest) f w :=
  stBlk 64 x y b 64 (stCells a0 b0 c0 d0 e0) (stCells a1 b1 c1 d1 e1) hx hy hB rfl (szSt a1 b1 c1 d1 e1) (stCells_one a1 b1 c1 d1 e1) h
/-- Something else is written. -/
theorem JQ.other {w w' : World} {g : Nat} (h : JQ w G b bx S R key X D Q) (k : Kept (fun i => i = g) w w') (hg : G g) (h0 : g ≠ 0) : JQ w' G b bx S R key X D Q := by
  obtain ⟨Fx, Fq, h⟩ := h
  exact ⟨Fx, Fq, h.x.kept k (fun i hi e => h.gx i hi (by rw [show i = g from e]; exact hg)), h.q.kept k (fun i hi e => h.gq i hi (by rw [show i = g from e]; exact hg)), fun i hi => Nat.lt_of_lt_of_le (h.gb i hi) k.size, h.gx, h.gq, h.xq, h.g0, fours_of h.f (k.block 0 (h.gb 0 h.g0) (fun e => h0 e.symm)) k.os k.output k.size⟩
theorem migrate20 (w : World) (h : JQ w G b bx S R key X D Q) (k : Kn IsName n X D S R) (hn : n ≤ 1970000000000) :
    Calls Tryd.prog 56 #[.pointer (some ⟨b, 0, none⟩), .int .i64 20] w fun e w' => e = .returned (.bool true) ∧ ∃ X' D', JQ w' G b bx S R key X' D' Q ∧ (Kn IsName (n + 1) X' D' S R ∧ Still D D') ∧ Kept (fun k => ¬ G k) w w' ∧ (pGoing X = true → Migd X X' 20) :=
  migrateQ w 20 (Nat.le_refl _) h k hn
/-- What turned leaves. -/
def TurnedPost (n : Nat) (X X' : PS) (D D' : PD) (S : Nat) (R : Int) (full : Bool) : Prop :=
  (full = true ∧ X' = X ∧ D' = D) ∨ (full = false ∧ Kn IsName (n + 100) X' D' S R ∧ X'.turn = 3 ∧ pUsed X' = false ∧ D'.seen = D.seen)
set_option maxRecDepth 100000 in
set_option maxHeartbeats 8000000 in
theorem turnedQ (w : World) (t : ByteArray) (ht : t.size = 48) (h : JQ w G b bx S R key X D Q) (k : Kn IsName n X D S R) (hn : n ≤ 1960000000000) (hR : 8 ≤ R) :
    Calls Tryd.prog 26 #[.pointer (some ⟨b, 0, none⟩), .string t] w fun e w' => ∃ (full : Bool) (X' : PS) (D' : PD), e = .returned (.tuple #[.bool true, .bool full]) ∧ JQ w' G b bx S R key X' D' Q ∧ TurnedPost n X X' D D' S R full ∧ Kept (fun k => ¬ G k) w w' := by
  obtain ⟨k1, k2, k3⟩ := k.keys
  have hk6 : D.keys.length ≤ 6 := by omega
  obtain ⟨kS0, kS1, kS2⟩ := k.srv
  obtain ⟨s1, s2, s3⟩ := kn_stage k t ht
  obtain ⟨Fq, hq, _⟩ := h.q
  have c0 := qin_ptr hq
  have lb := hq.lt
  have g0 : Hid (G 0) := by obtain ⟨_, _, q⟩ := h; exact q.g0
  have HJ := hid h
  have HK := hid k
  have HTS := hid ht
  have HN := hid hn
  have S1 := hid s1
  clear h k hq ht hn s1 s2 s3
  go_enter Tryd.func26, Tryd.ntmps26
  go_upto_region 2 with (first | (go_at_call 27; refine (HJ.out.state).mono ?_; rintro e y0 ⟨rfl, j0, l0⟩; have J0 := hid j0; have L0 := hid l0; clear j0 l0) | ((with_reducible refine stSt (.tmp 6) (.tmp 21) y0.heap.size 0 0 0 0 0 X.rev X.floor X.epoch X.write X.turn ?_ ?_ ?_ ?_); rfl; rfl; exact (Blk.new y0 64 (stCells 0 0 0 0 0)); intro W b4 k4 s4; have B4 := hid b4; have LW : Hid (Low w.heap.size w W) := L0.out.trans ((low_set ((Low.refl _ y0).alloc (Nat.le_refl _) _) k4 (Nat.le_refl _) (by simp)).mono L0.out.size); clear b4 k4 s4))
  have n0 : Hid (y0.heap.size ≠ 0) := by have := J0.out.pos; show _ ≠ _; omega
  have le0 := hid L0.out.size
  obtain ⟨G1, hG1⟩ : ∃ G1, G1 = (fun i => G i ∨ (w.heap.size ≤ i ∧ i < W.heap.size)) := ⟨_, rfl⟩
  have J1 : Hid (JQ W G1 b bx S R key X D Q) := by
    show JQ _ _ _ _ _ _ _ _ _ _
    rw [hG1]; exact HJ.out.wide LW.out
  have gt : Hid (G1 y0.heap.size) := by
    show G1 _
    rw [hG1]; exact Or.inr ⟨le0.out, B4.out.lt⟩
  have gsub : Hid (∀ i, G i → G1 i) := fun i g => by rw [hG1]; exact Or.inl g
  have KW0 : Hid (Kept (fun k => ¬ G k) w W) := LW.out.keptF _
  obtain ⟨Fq1, hq1, _⟩ := J1.out.q
  have c0b := qin_ptr hq1
  obtain ⟨a8, cap8, hc8, _⟩ := qin_keys hq1
  rw [List.length_map] at hc8
  have lb1 := hq1.lt
  have p4 : W.cell? ⟨y0.heap.size, 4, none⟩ = some (.int .i64 X.turn) := B4.out.cell 4
  have lM := B4.out.lt
  clear hG1 hq1 c0 lb J0 L0 LW
  by_cases hfull : X.turn = 0 ∧ X.keys.length = 6
  · have q1 : (X.turn == 0) = true := by rw [hfull.1]; rfl
    have q2 : ((D.keys.length : Int) == 6) = true := by rw [beq_iff_eq]; omega
    have HP := hid (S1.out hfull.2)
    go_wp2_with (go_at_call 53; refine (J1.out.callX HP.out).mono ?_; rintro e y1 ⟨rfl, j1, z1⟩; have J2 := hid j1; have K2 : Hid (Kept (fun k => ¬ G k) w y1) := KW0.out.trans z1 (fun _ f => f) (fun i _ f g => f (gsub.out i g)); clear j1 z1)
    go_ret2
    exact ⟨true, X, D, rfl, J2.out.weak gsub.out g0.out, Or.inl ⟨rfl, rfl, rfl⟩, K2.out⟩
  clear S1
  by_cases hu : X.turn = 0
  focus
    have h6 : X.keys.length ≠ 6 := fun e => hfull ⟨hu, e⟩
    have q1 : (X.turn == 0) = true := by rw [hu]; rfl
    have q2 : ((D.keys.length : Int) == 6) = false := by rw [beq_eq_false_iff_ne]; omega
    have HU := hid hu
    have H6 := hid h6
    clear hu h6 hfull
    go_upto_region 7 with fail
    go_upto_region 8 with (go_at_call 54; refine (stageQ _ t HTS.out J1.out HK.out).mono ?_; rintro e y1 ⟨rfl, X1, D1, j1, p1, z1⟩; have J2 := hid j1; have P1 := hid p1; have KW : Hid (Kept (fun k => ¬ G k) w y1) := KW0.out.trans z1 (fun _ f => f) (fun i _ f g => f (gsub.out i g)); have B5 : Hid (Blk y1 y0.heap.size 64 (stCells X.rev X.floor X.epoch X.write X.turn)) := B4.out.kept z1 (fun f => f gt.out); clear j1 p1 z1)
    have N1 : Hid (Kn IsName (n + 1) X1 D1 S R) := P1.out.1
    obtain ⟨hx1, hd1⟩ : X1.turn = 1 ∧ D1 = { D with keys := D.keys ++ [t] } := by
      rcases P1.out.2 with ⟨_, _, q⟩ | ⟨_, _, e1, e2⟩
      · rcases q with q | q
        · exact absurd HU.out q
        · exact absurd q H6.out
      · rw [e1]; exact ⟨rfl, e2⟩
    have T1 : Hid (X1.turn ≠ 0) := by show _ ≠ _; rw [hx1]; decide
    have E1 : Hid (D1.seen = D.seen) := by show _ = _; rw [hd1]
    have hl1 : D1.keys.length = D.keys.length + 1 := by rw [hd1]; simp
    obtain ⟨Fq2, hq2, _⟩ := J2.out.q
    obtain ⟨a9, cap9, hc9, _⟩ := qin_keys hq2
    rw [List.length_map, hl1] at hc9
    have lb2 := hq2.lt
    have x1 := wrapS (Nat.le_trans hk6 (show 6 ≤ 1000000000000000 by decide))
    have x2 := wrapS2 (Nat.le_trans hk6 (show 6 ≤ 1000000000000000 by decide))
    clear hq2 hc8 c0b p4 lM lb1 hx1 hd1 hl1 P1 q1 q2
    go_upto_region 10 with fail
    clear hc9 lb2 x1 x2 HU H6
  rotate_left
  focus
    have q1 : (X.turn == 0) = false := by rw [beq_eq_false_iff_ne]; exact hu
    go_upto_region 10 with fail
    obtain ⟨X1, D1, J2, N1, T1, E1⟩ : ∃ (X1 : PS) (D1 : PD), Hid (JQ W G1 b bx S R key X1 D1 Q) ∧ Hid (Kn IsName (n + 1) X1 D1 S R) ∧ Hid (X1.turn ≠ 0) ∧ Hid (D1.seen = D.seen) := ⟨X, D, J1.out, HK.out.up, hu, rfl⟩
    have KW := KW0
    have B5 := B4
    clear q1 hu hfull hc8 c0b p4 lM lb1 KW0 B4 J1
    obtain ⟨y1, rfl⟩ : ∃ y1, y1 = W := ⟨_, rfl⟩
  all_goals
    go_upto_region 11 with (go_at_call 20; refine (refreshedQ _ J2.out N1.out).mono ?_; rintro e y2 ⟨rfl, X2, D2, j2, r2, z2⟩; have J3 := hid j2; have R2 := hid r2; have KW2 : Hid (Kept (fun k => ¬ G k) w y2) := KW.out.trans z2 (fun _ f => f) (fun i _ f g => f (gsub.out i g)); have B6 : Hid (Blk y2 y0.heap.size 64 (stCells X.rev X.floor X.epoch X.write X.turn)) := B5.out.kept z2 (fun f => f gt.out); clear j2 r2 z2)
    have T2 : Hid (X2.turn ≠ 0) := by show _ ≠ _; rw [R2.out.x]; exact T1.out
    have E2 : Hid (D2.seen = D.seen) := by show _ = _; rw [R2.out.d]; exact E1.out
    obtain ⟨Fq3, hq3, _⟩ := J3.out.q
    have c0c := qin_ptr hq3
    have lb3 := hq3.lt
    clear hq3
    go_upto_region 12 with (first | (go_at_call 27; refine (J3.out.state).mono ?_; rintro e y3 ⟨rfl, j3, l3⟩; have J4 := hid j3; have KW3 : Hid (Kept (fun k => ¬ G k) w y3) := KW2.out.trans l3.kept (fun _ f => f) (fun _ _ f => f.elim); have B7 : Hid (Blk y3 y0.heap.size 64 (stCells X.rev X.floor X.epoch X.write X.turn)) := B6.out.low l3 B6.out.lt; clear j3 l3) | ((with_reducible refine stSt (.tmp 6) (.tmp 68) y0.heap.size X.rev X.floor X.epoch X.write X.turn X2.rev X2.floor X2.epoch X2.write X2.turn ?_ ?_ B7.out ?_); rfl; rfl; intro V b5 k5 s5; have B8 := hid b5; have J5 : Hid (JQ V G1 b bx S R key X2 D2 Q) := J4.out.other k5 gt.out n0.out; have KW4 : Hid (Kept (fun k => ¬ G k) w V) := KW3.out.trans k5 (fun _ f => f) (fun i hi e _ => by have := le0.out; have e : i = y0.heap.size := e; omega); clear b5 k5 s5))
    have p4b : V.cell? ⟨y0.heap.size, 4, none⟩ = some (.int .i64 X2.turn) := B8.out.cell 4
    have lMb := B8.out.lt
    have q5 : (X2.turn == 0) = false := by rw [beq_eq_false_iff_ne]; exact T2.out
    clear c0c lb3
    go_upto_region 14 with fail
    obtain ⟨Fq5, hq5, _⟩ := J5.out.q
    have c0d := qin_ptr hq5
    have lb5 := hq5.lt
    clear hq5 q5
    by_cases hp : X2.turn = 1
    focus
      have q6 : (X2.turn == 1) = true := by rw [hp]; rfl
      obtain ⟨m, P, _, _, hP, hk4⟩ := (kn_promote R2.out.kn).2.2 hp (fun i s hs => by
        have hi : i < S := by have := (List.getElem?_eq_some_iff.1 hs).1; rw [R2.out.kn.srv.1] at this; exact this
        obtain ⟨p, a1, _, a3⟩ := R2.out.fresh i hi
        obtain rfl := Option.some.inj (a1.symm.trans hs)
        exact a3)
      obtain ⟨X4, hX4⟩ : ∃ X4, X4 = X2.promote m P := ⟨_, rfl⟩
      have GO : Hid (pGoing X4 = true) := by show _ = _; rw [hX4]; rfl
      rw [← hX4] at hP hk4
      have HP := hid hP
      have N4 : Hid (Kn IsName (n + 10) X4 D2 S R) := hk4.mono (by omega)
      clear hP hk4 hX4 hp
      go_upto_region 18 with (go_at_call 55; refine (J5.out.callX HP.out).mono ?_; rintro e y4 ⟨rfl, j4, z4⟩; have J6 := hid j4; have KW5 : Hid (Kept (fun k => ¬ G k) w y4) := KW4.out.trans z4 (fun _ f => f) (fun i _ f g => f (gsub.out i g)); clear j4 z4)
      clear c0d lb5 p4b lMb q6 HP
    rotate_left
    focus
      have q6 : (X2.turn == 1) = false := by rw [beq_eq_false_iff_ne]; exact hp
      obtain ⟨X4, J6, N4, GO⟩ : ∃ (X4 : PS), Hid (JQ V G1 b bx S R key X4 D2 Q) ∧ Hid (Kn IsName (n + 10) X4 D2 S R) ∧ Hid (pGoing X4 = true) := ⟨X2, J5.out, R2.out.kn.mono (by omega), by
        show pGoing X2 = true
        unfold pGoing
        rcases R2.out.kn.turn3 T2.out with q | q | q
        · exact absurd q hp
        · rw [q]; rfl
        · rw [q]; rfl⟩
      clear hp
      go_upto_region 18 with fail
      have KW5 := KW4
      clear c0d lb5 p4b lMb q6 KW4 J5 B8
      obtain ⟨y4, rfl⟩ : ∃ y4, y4 = V := ⟨_, rfl⟩
    all_goals
      have RN : Hid (Rnd (n + 10) X4 D2 D S R 0) := ⟨N4.out, N4.out.sh, GO.out, fun q => absurd q (by decide), E2.out⟩
      go_wp2_with fail
      go_loopg [13] 4 (fun left iv wr => ∃ i : Nat, left = 4 - i ∧ i ≤ 4 ∧ iv = .int .i64 (i : Int) ∧ Hid (∃ X' D', JQ wr G1 b bx S R key X' D' Q ∧ Rnd (n + 10) X' D' D S R i ∧ Kept (fun k => ¬ G k) w wr))
      case atStart => exact ⟨0, rfl, by omega, rfl, X4, D2, J6.out, RN.out, KW5.out⟩
      case round =>
        obtain ⟨i, hgk, hi, rfl, HI⟩ := hrel
        have HGK := hid hgk
        clear hgk
        obtain ⟨X5, D5, hj, hr, hk⟩ := HI.out
        have J7 := hid hj
        have R7 := hid hr
        have K7 := hid hk
        obtain ⟨Fq7, hq7, _⟩ := hj.q
        have c0e := qin_ptr hq7
        have lb7 := hq7.lt
        clear hj hr hk HI hq7
        by_cases h3 : i < 4
        · have q7 : decide ((i : Int) < 4) = true := by simp; omega
          have q7n : decide (i < 4) = true := by simp; omega
          go_upto_region 22 with (go_at_call 56; refine (migrate20 _ J7.out R7.out.kn (by have := HN.out; omega)).mono ?_; rintro e y5 ⟨rfl, X6, D6, j6, ⟨n6, st6⟩, z6, m6⟩; have J8 := hid j6; have N8 : Hid (Kn IsName (n + 10 + 21 * i + 20) X6 D6 S R) := n6.mono (by omega); have S8 := hid st6; have M8 := hid (m6 R7.out.going); have K8 : Hid (Kept (fun k => ¬ G k) w y5) := K7.out.trans z6 (fun _ f => f) (fun i _ f g => f (gsub.out i g)); clear j6 n6 st6 z6 m6)
          go_upto_region 23 with (go_at_call 22; refine (compactedQ _ J8.out N8.out).mono ?_; rintro e y6 ⟨rfl, X7, D7, j7, c7, z7⟩; have J9 := hid j7; have C9 := hid c7; have K9 : Hid (Kept (fun k => ¬ G k) w y6) := K8.out.trans z7 (fun _ f => f) (fun i _ f g => f (gsub.out i g)); clear j7 c7 z7)
          clear c0e lb7
          go_wp2_with fail
          go_roundg (4 - (i + 1))
          case rel => exact ⟨i + 1, rfl, by omega, by simp, X7, D7, J9.out, R7.out.step (by have := HN.out; omega) hR N8.out S8.out M8.out C9.out, K9.out⟩
          case measure => have := HGK.out; omega
        · have q7 : decide ((i : Int) < 4) = false := by simp; omega
          have q7n : decide (i < 4) = false := by simp; omega
          have e4 : i = 4 := by omega
          have r8 := R7.out
          rw [e4] at r8
          have hused := r8.sh.unused r8.kn (r8.flat (by omega))
          obtain ⟨hP, hk8⟩ := (kn_gate r8.kn).2.2 r8.going hused
          have HP8 := hid hP
          have N8 := hid hk8
          have U8 := hid hused
          have E8 := hid r8.seen
          clear hP hk8 hused r8 e4
          go_wp2_with (go_at_call 57; refine (J7.out.callX HP8.out).mono ?_; rintro e y9 ⟨rfl, j9, z9⟩; have J9 := hid j9; have K9 : Hid (Kept (fun k => ¬ G k) w y9) := K7.out.trans z9 (fun _ f => f) (fun i _ f g => f (gsub.out i g)); clear j9 z9)
          go_ret2
          exact ⟨false, X5.setTurn 3, D5, rfl, J9.out.weak gsub.out g0.out, Or.inr ⟨rfl, N8.out.mono (by omega), rfl, U8.out, E8.out⟩, K9.out⟩
end Go.Proofs.YtphapknfkbgapaaDoor
namespace Go.Proofs.YtphapknfkbgapaaDoor
open Go.RowKit

variable {N : ByteArray → Prop} {G : Nat → Prop} {b bx S n : Nat} {R : Int} {key : ByteArray} {X : PS} {D : PD} {Q : Pods}

/-! Done. -/
theorem Kn.few (h : Kn N n X D S R) : X.entries.length ≤ 60 := by
  obtain ⟨Y, _, h, _⟩ := h
  have := h.few
  have := h.rooms
  omega
theorem field_write (a b c d e : Value) (w : World) : Sem.run Tryd.prog (Instr.field 64 (.agg #[a, b, c, d, e]) 3) w = Result.ok d w := by kernel_rfl
set_option maxRecDepth 100000 in
set_option maxHeartbeats 8000000 in
theorem done_walk (w : World) (sv rm : Int) (ky : ByteArray) (a : Option Addr) (cap : Nat) (acts : List AAct) (t : ByteArray) (hs : i64 sv) (hr : i64 rm) (hsc : ScriptA w a acts) (hn : acts.length ≤ 1954687338268) (hF : Fours w) (h1 : 1 ≤ w.heap.size) :
    Calls Tryd.prog 9 #[.agg #[.int .i64 sv, .int .i64 rm, .string ky], .slice a acts.length cap, .string t] w fun e w' => e = .returned (.bool true) ∧ Low w.heap.size w w' := by
  have HS := hid hs
  have HR := hid hr
  have H1 := hid h1
  have HN := hid hn
  have BA : Hid (Blk (w.alloc (.cells (cfgL sv rm ky).toArray 35)) w.heap.size 35 (cfgL sv rm ky)) := Blk.new w 35 (cfgL sv rm ky)
  have LA : Hid (Low w.heap.size w (w.alloc (.cells (cfgL sv rm ky).toArray 35))) := (Low.refl _ w).alloc (Nat.le_refl _) _
  have F2 : Hid (Fours (w.alloc (.cells (cfgL sv rm ky).toArray 35))) := fours_low hF h1 LA.out
  have HSC := hid (hsc.low LA.out)
  clear hs hr hF h1 hsc hn
  go_enter Tryd.func9, Tryd.ntmps9
  go_upto_region 4 with (first | ((with_reducible refine ldC (.tmp 3) w.heap.size 0 sv rm ky ?_ BA.out.whole ?_); rfl) | (go_at_call 19; refine (playedQ _ sv rm ky a cap acts HS.out HR.out HSC.out HN.out F2.out (by simp)).mono ?_; rintro e y1 ⟨b, bx, S, R, key, X, D, rfl, p1, l1⟩; have L1 : Hid (Low w.heap.size w y1) := LA.out.trans (l1.mono (by simp)); have J1 : Hid (JQ y1 (fun k => k < w.heap.size) b bx S R key X D D.pods) := p1.j.weak (fun k hk => by have hk : k < w.heap.size := hk; simp; omega) H1.out; have P1 := hid p1; clear p1 l1))
  go_upto_region 5 with (first | (go_at_call 17; refine (keyOf_any _ _).mono ?_; rintro e y2 ⟨tk, rfl, htk, hy⟩; obtain rfl := hy.symm) | (go_at_call 26; refine (turnedQ _ tk htk J1.out P1.out.kn (by have := HN.out; omega) P1.out.room).mono ?_; rintro e y3 ⟨full, X3, D3, rfl, j3, p3, k3⟩; have J3 := hid j3; have P3 := hid p3; have K3 : Hid (Kept (fun k => ¬ k < w.heap.size) w y3) := (L1.out.kept.mono (G := fun k => ¬ k < w.heap.size) (fun _ _ f => f.elim)).trans k3 (fun _ f => f) (fun _ _ f => f); clear j3 p3 k3))
  rcases P3.out with ⟨rfl, hX3, hD3⟩ | ⟨rfl, hk3, ht3, hu3, hs3⟩
  · rw [hX3, hD3] at J3
    clear P3 hX3 hD3
    go_upto_region 9 with (go_at_call 20; refine (refreshedQ _ J3.out P1.out.kn).mono ?_; rintro e y4 ⟨rfl, X4, D4, j4, r4, k4⟩; have J4 := hid j4; have R4 := hid r4; have K4 : Hid (Kept (fun k => ¬ k < w.heap.size) w y4) := K3.out.trans k4 (fun _ f => f) (fun _ _ f => f); clear j4 r4 k4)
    have hd4 : Hid (D4.deeds.length ≤ 2000000000000) := by
      show _ ≤ _
      have := R4.out.kn.floor.2.2
      have := R4.out.kn.srv.2.1
      have := HN.out
      omega
    go_wp2_with (go_at_call 21; refine (knownQ _ J4.out R4.out.kn hd4.out R4.out.known).mono ?_; rintro e y5 ⟨rfl, j5, k5⟩; have K5 : Hid (Kept (fun k => ¬ k < w.heap.size) w y5) := K4.out.trans k5 (fun _ f => f) (fun _ _ f => f); clear j5 k5)
    go_ret
    exact ⟨rfl, K5.out.os, K5.out.output, K5.out.size, fun k hk => K5.out.block k hk (fun f => f hk)⟩
  · obtain ⟨Wk, hWk⟩ : ∃ Wk, Wk = X3.keys.length := ⟨_, rfl⟩
    have DB : Hid (Dest (34 + acts.length + 100) X3 D3 D S R Wk 1) := by
      show Dest _ _ _ _ _ _ _ _
      rw [hWk]; exact Dest.begin hk3 ht3 hu3 hs3
    obtain ⟨kl1, kl2, kl3⟩ := hk3.keys
    have hDk : D3.keys.length = Wk := by omega
    have w1 : 1 ≤ Wk := by omega
    have w6 : Wk ≤ 6 := by omega
    obtain ⟨Fq3, hq3, _⟩ := J3.out.q
    have c0 := qin_ptr hq3
    have lb := hq3.lt
    clear hq3 P3 hk3 ht3 hu3 hs3 kl1 kl2 kl3 hWk
    go_upto_region 12 with (first | (go_at_call 27; refine (J3.out.stateV DB.out.write rfl).mono ?_; rintro e y4 ⟨rfl, j4, l4⟩; have J4 := hid j4; have K4 : Hid (Kept (fun k => ¬ k < w.heap.size) w y4) := K3.out.trans l4.kept (fun _ f => f) (fun _ _ f => f.elim); clear j4 l4) | (rw [field_write]))
    obtain ⟨Fq4, hq4, _⟩ := J4.out.q
    obtain ⟨a8, cap8, hc8, _⟩ := qin_keys hq4
    rw [List.length_map, hDk] at hc8
    have lb4 := hq4.lt
    have q1 : decide (6 < (Wk : Int)) = false := by simp; omega
    have q1n : decide (6 < Wk) = false := by simp; omega
    clear c0 lb hq4
    go_upto_region 14 with fail
    clear hc8 lb4 q1 q1n hDk
    go_wp2_with fail
    go_loopg [13] (Wk - 1) (fun left iv wr => ∃ k : Nat, left = Wk - k ∧ 1 ≤ k ∧ k ≤ Wk ∧ iv = .int .i64 (k : Int) ∧ Hid (∃ X' D', JQ wr (fun k => k < w.heap.size) b bx S R key X' D' D.pods ∧ Dest (34 + acts.length + 100) X' D' D S R Wk k ∧ Kept (fun k => ¬ k < w.heap.size) w wr))
    case atStart => exact ⟨1, rfl, by omega, w1, rfl, X3, D3, J4.out, DB.out, K4.out⟩
    case round =>
      obtain ⟨k, hgk, hk1, hk2, rfl, HI⟩ := hrel
      have HGK := hid hgk
      clear hgk
      obtain ⟨X5, D5, hj5, hd5, hkp5⟩ := HI.out
      have J5 := hid hj5
      have DS := hid hd5
      have K5 := hid hkp5
      obtain ⟨Fq5, hq5, _⟩ := hj5.q
      have c0 := qin_ptr hq5
      have lb := hq5.lt
      clear hj5 hd5 hkp5 HI hq5 DB J3 J4 K3 K4
      by_cases h3 : k < Wk
      · have q3 : decide ((k : Int) < (Wk : Int)) = true := by simp; omega
        have q3n : decide (k < Wk) = true := by simp; omega
        obtain ⟨er, X6, v, hP, hv, her, hd6⟩ := DS.out.step hk1 h3
        have HP := hid hP
        have HV := hid hv
        have DS6 := hid hd6
        have k7 : k < 7 := by omega
        have k7i : (k : Int) < 7 := by omega
        clear hP hv hd6
        rcases her with ⟨rfl, rfl⟩ | ⟨rfl, rfl⟩
        all_goals
          go_upto_region 18 with (go_at_call 28; refine (J5.out.callX HP.out).mono ?_; rintro e y6 ⟨rfl, j6, z6⟩; have J6 := hid j6; have K6 : Hid (Kept (fun k => ¬ k < w.heap.size) w y6) := K5.out.trans z6 (fun _ f => f) (fun _ _ f => f); clear j6 z6)
          obtain ⟨Fq6, hq6, _⟩ := J6.out.q
          have z1 := qin_dest hq6 HV.out
          have z2 := hq6.frozen (22 + k)
          have lb6 := hq6.lt
          clear hq6 c0 lb
          go_wp2_with fail
          go_roundg (Wk - (k + 1))
          case rel =>
            obtain ⟨r1, r2⟩ := J6.out.setDest k7 true
            exact ⟨k + 1, rfl, by omega, by omega, by simp, X6, _, r1, DS6.out, K6.out.trans r2 (fun _ f => f) (fun _ _ f => f)⟩
          case measure => have := HGK.out; omega
      · have q3 : decide ((k : Int) < (Wk : Int)) = false := by simp; omega
        have q3n : decide (k < Wk) = false := by simp; omega
        have ek : k = Wk := by omega
        have d6 := DS.out
        rw [ek] at d6
        have ht6 := d6.over
        have HD6 := hid d6
        clear d6 DS
        go_upto_region 22 with (first | (go_at_call 27; refine (J5.out.stateV HD6.out.write ht6).mono ?_; rintro e y6 ⟨rfl, j6, l6⟩; have J6 := hid j6; have L6 := hid l6; clear j6 l6) | ((with_reducible refine stSt (.tmp 15) (.tmp 96) y6.heap.size 0 0 0 0 0 X5.rev X5.floor X5.epoch (Wk : Int) 0 ?_ ?_ ?_ ?_); rfl; rfl; exact (Blk.new y6 64 (stCells 0 0 0 0 0)); intro V b4 k4 s4; have B4 := hid b4; have LV : Hid (Low wr.heap.size wr V) := L6.out.trans ((low_set ((Low.refl _ y6).alloc (Nat.le_refl _) _) k4 (Nat.le_refl _) (by simp)).mono L6.out.size); clear b4 k4 s4))
        obtain ⟨G1, hG1⟩ : ∃ G1, G1 = (fun i => i < w.heap.size ∨ (wr.heap.size ≤ i ∧ i < V.heap.size)) := ⟨_, rfl⟩
        have J7 : Hid (JQ V G1 b bx S R key X5 D5 D.pods) := by
          show JQ _ _ _ _ _ _ _ _ _ _
          rw [hG1]; exact J5.out.wide LV.out
        have gt : Hid (G1 y6.heap.size) := by
          show G1 _
          rw [hG1]; exact Or.inr ⟨L6.out.size, B4.out.lt⟩
        have gsub : Hid (∀ i, i < w.heap.size → G1 i) := fun i g => by rw [hG1]; exact Or.inl g
        have K7 : Hid (Kept (fun k => ¬ k < w.heap.size) w V) := K5.out.trans LV.out.kept (fun _ f => f) (fun _ _ f => f.elim)
        have hn6 : Hid (34 + acts.length + 100 + Wk ≤ 1970000000000) := by show _ ≤ _; have := HN.out; omega
        clear hG1 c0 lb J5 K5 J6 L6 ek
        go_upto_region 23 with (go_at_call 20; refine (refreshedQ _ J7.out HD6.out.kn).mono ?_; rintro e y8 ⟨rfl, X8, D8, j8, r8, z8⟩; have J8 := hid j8; have R8 := hid r8; have B8 : Hid (Blk y8 y6.heap.size 64 (stCells X5.rev X5.floor X5.epoch (Wk : Int) 0)) := B4.out.kept z8 (fun f => f gt.out); have K8 : Hid (Kept (fun k => ¬ k < w.heap.size) w y8) := K7.out.trans z8 (fun _ f => f) (fun i _ f g => f (gsub.out i g)); clear j8 r8 z8)
        have hd8 : Hid (D8.deeds.length ≤ 2000000000000) := by
          show _ ≤ _
          have := R8.out.kn.floor.2.2
          have := R8.out.kn.srv.2.1
          have := hn6.out
          omega
        have hs8 : Hid (D8.seen.length ≤ 2100000000000) := by
          show _ ≤ _
          rw [R8.out.d]
          show D5.seen.length ≤ _
          rw [HD6.out.seen]
          have := P1.out.seen
          have := HN.out
          omega
        go_upto_region 24 with (go_at_call 25; refine (entriesQ _ J8.out R8.out.kn hd8.out hs8.out).mono ?_; rintro e y9 ⟨rfl, D9, j9, s9, z9⟩; have J9 := hid j9; have S9 := hid s9; have B9 : Hid (Blk y9 y6.heap.size 64 (stCells X5.rev X5.floor X5.epoch (Wk : Int) 0)) := B8.out.kept z9 (fun f => f gt.out); have K9 : Hid (Kept (fun k => ¬ k < w.heap.size) w y9) := K8.out.trans z9 (fun _ f => f) (fun i _ f g => f (gsub.out i g)); clear j9 s9 z9)
        have hd9 : Hid (D9.deeds.length ≤ 2000000000000) := by
          show _ ≤ _
          obtain ⟨_, l, e, _⟩ := S9.out
          rw [e]
          exact hd8.out
        go_upto_region 25 with (go_at_call 21; refine (knownQ _ J9.out S9.out.1 hd9.out R8.out.known).mono ?_; rintro e y10 ⟨rfl, j10, z10⟩; have J10 := hid j10; have B10 : Hid (Blk y10 y6.heap.size 64 (stCells X5.rev X5.floor X5.epoch (Wk : Int) 0)) := B9.out.kept z10 (fun f => f gt.out); have K10 : Hid (Kept (fun k => ¬ k < w.heap.size) w y10) := K9.out.trans z10 (fun _ f => f) (fun i _ f g => f (gsub.out i g)); clear j10 z10)
        have p3 : y10.cell? ⟨y6.heap.size, 3, none⟩ = some (.int .i64 (Wk : Int)) := B10.out.cell 3
        have p4 : y10.cell? ⟨y6.heap.size, 4, none⟩ = some (.int .i64 0) := B10.out.cell 4
        have lM := B10.out.lt
        clear B8 B9 B4 J7 J8 J9 K7 K8 K9
        go_upto_region 27 with fail
        clear p3 p4 lM
        obtain ⟨Fq10, hq10, _⟩ := J10.out.q
        have c0 := qin_ptr hq10
        have lb := hq10.lt
        have hne : X8.entries.length ≤ 60 := R8.out.kn.few
        have HUA : Hid (∀ e, e ∈ X8.entries → e.gone = false → e.key = (Wk : Int)) := by
          show ∀ e, _
          rw [R8.out.x]
          intro e he hg
          rw [← HD6.out.write]
          exact used_all HD6.out.used he hg
        clear hq10
        go_upto_region 28 with (go_at_call 29; refine (J10.out.entries (by omega)).mono ?_; rintro e y11 ⟨v11, rfl, j11, l11, o11, b11⟩; obtain ⟨a11, cap11, rfl, _, _⟩ := ownsRow_view o11; have O11 := hid o11; have K11 : Hid (Kept (fun k => ¬ k < w.heap.size) w y11) := K10.out.trans l11.kept (fun _ f => f) (fun _ _ f => f.elim); clear j11 l11 o11 b11)
        clear c0 lb
        go_wp2_with fail
        go_loopg [20] X8.entries.length (fun left iv wr => ∃ i : Nat, left = X8.entries.length - i ∧ i ≤ X8.entries.length ∧ iv = .int .i64 (i : Int) ∧ Hid (Low y11.heap.size y11 wr))
        case atStart => exact ⟨0, rfl, Nat.zero_le _, rfl, Low.refl _ _⟩
        case round =>
          obtain ⟨i, hgi, hi, rfl, HL⟩ := hrel
          have HGI := hid hgi
          clear hgi
          have OR : Hid (wr.ownsRow 0 69 6 (.slice a11 X8.entries.length cap11) X8.entries.length (X8.entries.flatMap Ent.cells)) := ownsRow_at O11.out (fun q hq => HL.out.block q (O11.out.lt q hq).2)
          by_cases h4 : i < X8.entries.length
          · have q4 : decide ((i : Int) < (X8.entries.length : Int)) = true := by simp; omega
            have q4n : decide (i < X8.entries.length) = true := by simp; omega
            have ixe : (i : Int) < (X8.entries.length : Int) := by omega
            obtain ⟨e, he⟩ : ∃ e, X8.entries[i]? = some e := ⟨_, List.getElem?_eq_getElem h4⟩
            obtain ⟨s1, t1, z1, _, f1⟩ := ownsRow_view OR.out
            obtain ⟨gl, rfl, hgl, _, _⟩ := f1 (by omega)
            cases z1
            have cell : ∀ q, q < 6 → wr.cell? ⟨gl, i * 6 + q, none⟩ = e.cells[q]? := fun q hq => by
              rw [OR.out.cellAt (i * 6 + q) (by omega), flat_at 6 Ent.cells Ent.len X8.entries i q e he hq]
            have p5 : wr.cell? ⟨gl, i * 6 + 5, none⟩ = some (.bool e.gone) := cell 5 (by omega)
            have p2 : wr.cell? ⟨gl, i * 6 + 2, none⟩ = some (.int .i64 e.key) := cell 2 (by omega)
            have hua := HUA.out e (List.mem_of_getElem? he)
            clear cell f1 he
            cases hg : e.gone
            · rw [hg] at p5
              rw [hua hg] at p2
              clear hua
              go_wp2_with fail
              go_roundg (X8.entries.length - (i + 1))
              case rel => exact ⟨i + 1, rfl, by omega, by simp, HL.out⟩
              case measure => have := HGI.out; omega
            · rw [hg] at p5
              clear hua p2
              go_wp2_with fail
              go_roundg (X8.entries.length - (i + 1))
              case rel => exact ⟨i + 1, rfl, by omega, by simp, HL.out⟩
              case measure => have := HGI.out; omega
          · have q4 : decide ((i : Int) < (X8.entries.length : Int)) = false := by simp; omega
            have q4n : decide (i < X8.entries.length) = false := by simp; omega
            have KZ : Hid (Kept (fun k => ¬ k < w.heap.size) w wr) := K11.out.trans HL.out.kept (fun _ f => f) (fun _ _ f => f.elim)
            go_wp2_with fail
            go_ret
            exact ⟨rfl, KZ.out.os, KZ.out.output, KZ.out.size, fun k hk => KZ.out.block k hk (fun f => f hk)⟩
end Go.Proofs.YtphapknfkbgapaaDoor
