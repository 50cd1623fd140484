import Derived.Test.YtphapknfkbgapaaDoorQGToQL
import Derived.Test.YtphapknfkbgapaaDoorPMToPF
import Derived.Deep.DeepCutAuto
namespace Go.Proofs.YtphapknfkbgapaaDoor
open Go.RowKit

variable {N : ByteArray → Prop} {G : Nat → Prop} {b bx S n : Nat} {R : Int} {key : ByteArray} {X : PS} {D : PD} {Q : Pods}

/-! nonceOf, see. -/
set_option maxRecDepth 100000 in
set_option maxHeartbeats 1000000 in
theorem nonceD_any (w : World) (n : Int) (h0 : 0 ≤ n) (h1 : n ≤ 1000000000000) :
    Calls Tryd.prog 51 #[.int .i64 n] w fun e w' => e = .returned (.string (nonceTo n 12)) ∧ Low w.heap.size w w' := by
  have hns := nonceTo_size n
  go_enter Tryd.func51, Tryd.ntmps51
  go_wp2
  go_loopw [0, 3, 4] (fun nv sv iv wr => ∃ (i : Nat) (x : Int) (s : ByteArray), i ≤ 12 ∧ 0 ≤ x ∧ x ≤ 1000000000000 ∧ s.size ≤ 12 ∧ nv = .int .i64 x ∧ sv = .string s ∧ iv = .int .i64 (i : Int) ∧ Hid (x = n / 256 ^ i ∧ s = nonceTo n i ∧ Low w.heap.size w wr)) (fun _ _ iv _ => 12 - (intOf iv).toNat)
  case atStart => exact ⟨0, n, nonceTo n 0, by omega, h0, h1, by rw [hns]; omega, rfl, rfl, rfl, by simp, rfl, Low.refl _ _⟩
  case round =>
    obtain ⟨i, x, s, hi, x0, x1, hs, rfl, rfl, rfl, HI⟩ := hrel
    clear h0 h1 hns
    by_cases h2 : i < 12
    · have q1 : decide ((i : Int) < 12) = true := by simp; omega
      obtain ⟨y, hy⟩ : ∃ y : Nat, x % 256 = (y : Int) := ⟨(x % 256).toNat, by omega⟩
      have y1 : y < 256 := by omega
      have hcv := conv1 wr y y1
      have HY := hid hy
      have t1 : Int.tmod x 256 = (y : Int) := by rw [Int.tmod_eq_emod_of_nonneg x0]; exact hy
      have t2 : Int.tdiv x 256 = x / 256 := Int.tdiv_eq_ediv_of_nonneg x0
      have hz := bytes256 x x0
      clear hy
      go_wp2_with fail
      obtain ⟨e1, e2, e3⟩ := HI.out
      have eb : (⟨#[UInt8.ofNat y]⟩ : ByteArray) = ⟨#[nonceB n i]⟩ := by
        unfold nonceB
        rw [← e1, HY.out, Int.toNat_natCast]
      have es : s ++ ⟨#[UInt8.ofNat y]⟩ = nonceTo n (i + 1) := by rw [nonceTo_succ, ← e2, eb]
      refine ⟨⟨i + 1, x / 256, nonceTo n (i + 1), by omega, hz, by omega, by rw [nonceTo_size]; omega, rfl, by rw [es], by simp, ?_, rfl, e3.alloc e3.size _⟩, by simp [intOf]; omega⟩
      rw [e1, Int.ediv_ediv_of_nonneg (Int.pow_nonneg (by omega)), ← Int.pow_succ]
    · have q1 : decide ((i : Int) < 12) = false := by simp; omega
      obtain rfl : i = 12 := by omega
      go_wp2_with fail
      go_ret
      exact ⟨by rw [HI.out.2.1]; rfl, HI.out.2.2⟩
theorem qin_rowS {w : World} {F : Nat → Prop} (h : QIn w F b bx S R key D Q) : ∃ a cap, w.cell? ⟨b, 85, none⟩ = some (.slice a D.seen.length cap) ∧ w.ownsRow 0 69 6 (.slice a D.seen.length cap) D.seen.length (D.seen.flatMap Ent.cells) ∧ (Value.slice a D.seen.length cap).ownBlock ≠ some b := by
  obtain ⟨hl, vD, vS, vK, hO⟩ := h
  obtain ⟨v, hv, ho, _⟩ := hO.row 1 rfl
  have hn := hO.apart 1 rfl hv
  obtain ⟨a, cap, rfl, _, _⟩ := ownsRow_view ho
  exact ⟨a, cap, by rw [hO.cell]; exact hv, ho, hn⟩
theorem qc_setSeen (h : PLen D Q) {vD vS vK v : Value} : (qcells bx S R key D Q vD vS vK).set 85 v = qcells bx S R key D Q vD v vK := by
  unfold qcells
  rw [List.set_append_right _ _ (by simp [headOf])]
  have e : 85 - (headOf bx S R key D vD).length = 79 := by simp [headOf]
  rw [e, List.set_append_right _ _ (by rw [h.mid]; omega), h.mid]
  rfl
theorem qin_appS {w w1 : World} {F : Nat → Prop} {v v' : Value} {o : Obj} (h : QIn w F b bx S R key D Q) (hv : w.cell? ⟨b, 85, none⟩ = some v) (k : Kept (fun q => v.ownBlock = some q) (w.alloc o) w1) (t : Ent) (ho : w1.ownsRow 0 69 6 v' (D.seen.length + 1) (D.seen.flatMap Ent.cells ++ t.cells)) (P : v'.ownBlock = v.ownBlock ∨ v'.ownBlock = some (w.alloc o).heap.size) :
    QIn (w1.setCell ⟨b, 85, none⟩ v') (grow F w (w1.setCell ⟨b, 85, none⟩ v')) b bx S R key { D with seen := D.seen ++ [t] } Q ∧ Kept F w (w1.setCell ⟨b, 85, none⟩ v') := by
  obtain ⟨hl, vD, vS, vK, hO⟩ := h
  obtain rfl : vS = v := Option.some.inj ((qc_seen hl).symm.trans ((hO.cell 85).symm.trans hv))
  obtain ⟨q1, q2⟩ := hO.appended (Low.refl _ w) 1 rfl (qc_seen hl) k ho P (qoffs D 1 rfl)
  exact ⟨⟨⟨hl.ops, hl.dest, hl.node, hl.needs, hl.need⟩, vD, v', vK, q1.cast (qc_setSeen hl) (by simp [PD.rows])⟩, q2⟩
set_option maxRecDepth 100000 in
set_option maxHeartbeats 2000000 in
theorem seeQ (w : World) (e : Ent) (h : JQ w G b bx S R key X D Q) (hs : D.seen.length ≤ 100000000) :
    Calls Tryd.prog 52 #[.pointer (some ⟨b, 0, none⟩), .agg #[.string e.path, .int .i64 e.rev, .int .i64 e.key, .int .i64 e.draw, .string e.sealed, .bool e.gone]] w fun x w' => x = .returned (.tuple #[]) ∧ ∃ D', JQ w' G b bx S R key X D' Q ∧ (D' = D ∨ D' = { D with seen := D.seen ++ [e] }) ∧ Kept (fun k => ¬ G k) w w' := by
  have HJ := hid h
  clear h
  go_enter Tryd.func52, Tryd.ntmps52
  go_wp2_with fail
  go_name_world W hW
  have BE : Hid (Blk W w.heap.size 69 e.cells) := by
    show Blk W _ _ _
    rw [← hW]; exact Blk.new w 69 e.cells
  have LW : Hid (Low w.heap.size w W) := by
    show Low _ _ _
    rw [← hW]; exact (Low.refl _ w).alloc (Nat.le_refl _) _
  clear hW
  go_loopg [4] D.seen.length (fun left iv wr => ∃ i : Nat, left = D.seen.length - i ∧ i ≤ D.seen.length ∧ iv = .int .i64 (i : Int) ∧ Hid (Low W.heap.size W wr))
  case atStart => exact ⟨0, rfl, Nat.zero_le _, rfl, Low.refl _ _⟩
  case round =>
    obtain ⟨i, hgk, hi, rfl, HI⟩ := hrel
    have HGK := hid hgk
    clear hgk
    have L1 : Hid (Low w.heap.size w wr) := LW.out.trans (HI.out.mono LW.out.size)
    have J1 : Hid (JQ wr G b bx S R key X D Q) := HJ.out.low L1.out
    have B1 : Hid (Blk wr w.heap.size 69 e.cells) := BE.out.low HI.out BE.out.lt
    obtain ⟨Fq, hq, _⟩ := J1.out.q
    obtain ⟨a8, cap8, d8, o8, n8⟩ := qin_rowS hq
    have lb := hq.lt
    have lE := B1.out.lt
    have e1 : wr.cell? ⟨w.heap.size, 1, none⟩ = some (.int .i64 e.rev) := B1.out.cell 1
    by_cases h3 : i < D.seen.length
    · have q1 : decide ((i : Int) < (D.seen.length : Int)) = true := by simp; omega
      have q2 : decide (i < D.seen.length) = true := by simp; omega
      have il : (i : Int) < (D.seen.length : Int) := by omega
      obtain ⟨x, hx⟩ : ∃ x, D.seen[i]? = some x := ⟨_, List.getElem?_eq_getElem h3⟩
      obtain ⟨s1, t1, z1, _, f1⟩ := ownsRow_view o8
      obtain ⟨g1, rfl, hg1, _, _⟩ := f1 (by omega)
      cases z1
      have p1 : wr.cell? ⟨g1, i * 6 + 1, none⟩ = some (.int .i64 x.rev) := by
        have hl : i * 6 + 1 < D.seen.length * 6 := by omega
        rw [o8.cellAt (i * 6 + 1) hl, flat_at 6 Ent.cells Ent.len D.seen i 1 x hx (by omega)]
        rfl
      clear o8 n8 hq f1 hx
      cases qe : (x.rev == e.rev)
      · go_upto_region 4 with fail
        go_region
        all_goals go_wp2_with fail
        all_goals
          go_roundg (D.seen.length - (i + 1))
          case rel => exact ⟨i + 1, rfl, by omega, by simp, HI.out.drew⟩
          case measure => have := HGK.out; omega
      · go_upto_region 4 with fail
        go_region
        all_goals go_wp2_with fail
        all_goals
          first | go_end0 | refine bodyPost_ret (results_none rfl _ _ _) rfl ?_
          exact ⟨rfl, D, J1.out.low (Low.refl _ wr).drew, Or.inl rfl, (L1.out.kept.mono (fun _ _ f => f.elim)).drew⟩
    · have q1 : decide ((i : Int) < (D.seen.length : Int)) = false := by simp; omega
      have q2 : decide (i < D.seen.length) = false := by simp; omega
      have e0 : wr.cell? ⟨w.heap.size, 0, none⟩ = some (.string e.path) := B1.out.cell 0
      have e2 : wr.cell? ⟨w.heap.size, 2, none⟩ = some (.int .i64 e.key) := B1.out.cell 2
      have e3 : wr.cell? ⟨w.heap.size, 3, none⟩ = some (.int .i64 e.draw) := B1.out.cell 3
      have e4 : wr.cell? ⟨w.heap.size, 4, none⟩ = some (.string e.sealed) := B1.out.cell 4
      have e5 : wr.cell? ⟨w.heap.size, 5, none⟩ = some (.bool e.gone) := B1.out.cell 5
      have O8 := hid o8
      have N8 := hid n8
      have C8 := hid d8
      have F8 := hid (hq.frozen 85)
      have LB := hid lb
      clear o8 n8 hq
      go_upto_region 5 with fail
      go_region_law ((refine step_append_mine _ rfl (.tmp 29) (.tmp 31) 51 rfl 69 _ 6 64 Tryd.underlying51 info50 rfl (by omega) (.slice a8 D.seen.length cap8) D.seen.length (D.seen.flatMap Ent.cells) ?_ ?_ ⟨wr.heap.size, 0, none⟩ 1 1 e.cells ?_ rfl ?_ (Ent.one _) ⟨by omega, by omega⟩ ?_; rfl; exact (World.ownsRow.alloc (w := wr) O8.out _); rfl; exact (news_new wr e.cells 69); intro v' w1 o1 k1 p1; obtain ⟨a', cap', rfl, _, _⟩ := ownsRow_view o1; have O1 := hid o1; have K2 := hid k1.of_drew; have P1 := hid p1; have c8w := kept_cell K2.out LB.out N8.out C8.out; have f8w := kept_frozen K2.out LB.out N8.out F8.out; clear o1 k1 p1))
      all_goals go_wp2_with fail
      all_goals
        (try go_end0)
        obtain ⟨r1, r2⟩ := J1.out.write (D' := { D with seen := D.seen ++ [e] }) (Q' := Q) (fun Fq q _ => by
          obtain ⟨a, c⟩ := qin_appS q C8.out K2.out e O1.out P1.out
          exact ⟨_, a, c, fun k hk => hk.imp id (fun z => z.1)⟩)
        exact ⟨rfl, _, r1, Or.inr rfl, L1.out.kept.trans r2 (fun _ f => f.elim) (fun _ _ f => f)⟩
end Go.Proofs.YtphapknfkbgapaaDoor
namespace Go.Proofs.YtphapknfkbgapaaDoor
open Go.RowKit

variable {N : ByteArray → Prop} {G : Nat → Prop} {b bx S n : Nat} {R : Int} {key : ByteArray} {X : PS} {D : PD} {Q : Pods}

/-! The list of entries, told to the player. -/
theorem JQ.entries {w : World} (h : JQ w G b bx S R key X D Q) (hn : X.entries.length ≤ 1000) : Calls Tryd.prog 29 #[.pointer (some ⟨bx, 0, none⟩)] w fun e w' => ∃ v, e = .returned v ∧ JQ w' (fun i => G i ∨ (w.heap.size ≤ i ∧ i < w'.heap.size)) b bx S R key X D Q ∧ Low w.heap.size w w' ∧ w'.ownsRow 0 69 6 v X.entries.length (X.entries.flatMap Ent.cells) ∧ ∀ k, v.ownBlock = some k → w.heap.size ≤ k := by
  obtain ⟨Fx, Fq, hs⟩ := id h
  refine (pEntries_any w hs.x hn).mono ?_
  rintro e w' ⟨v, rfl, l, o, c⟩
  exact ⟨v, rfl, h.wide l, l, o, c⟩
/-- A list that was told, in blocks that nobody touches. -/
theorem owns_kept {w w' : World} {H : Nat → Prop} {v : Value} {m : Nat} {xs : List Value} {ty sz : Nat} (h : w.ownsRow 0 ty sz v m xs) (k : Kept (fun i => ¬ H i) w w') (hb : ∀ q, v.ownBlock = some q → H q) : w'.ownsRow 0 ty sz v m xs :=
  ownsRow_at h (fun q hq => k.block q (h.lt q hq).2 (fun f => f (hb q hq)))
end Go.Proofs.YtphapknfkbgapaaDoor
namespace Go.Proofs.YtphapknfkbgapaaDoor
open Go.RowKit

variable {N : ByteArray → Prop} {G : Nat → Prop} {b bx S n : Nat} {R : Int} {key : ByteArray} {X : PS} {D : PD} {Q : Pods}

/-! migrate. -/
/-- How far the deeds have followed the moves. -/
structure Mvd (D : PD) (es : List Ent) (ds : List Dd) (t : Nat) (D' : PD) : Prop where
  d : D' = { D with deeds := D.deeds ++ ds.take t }
  law : MoveLaw (D.deeds ++ ds.take t) (es.drop t) (ds.drop t)
theorem Mvd.step {es : List Ent} {ds : List Dd} {t : Nat} {D' : PD} (h : Mvd D es ds t D') {e : Ent} (he : es[t]? = some e) : ∃ d, ds[t]? = some d ∧ e.gone = false ∧ e.rev = (D'.deeds.length : Int) + 1 ∧ (∃ m, NewD D'.deeds e.path m d ∧ m ≠ 0) ∧ d.gone = false ∧ Mvd D es ds (t + 1) { D' with deeds := D'.deeds ++ [d] } := by
  have hl := (List.getElem?_eq_some_iff.1 he).1
  have h1 := h.law
  rw [List.drop_eq_getElem_cons hl] at h1
  have hee : es[t] = e := (List.getElem?_eq_some_iff.1 he).2
  rw [hee] at h1
  cases hd : ds[t]? with
  | none =>
    have e0 : ds.drop t = [] := List.drop_eq_nil_of_le (by simpa using hd)
    rw [e0] at h1
    simp [MoveLaw] at h1
  | some d =>
    obtain ⟨hdl, hde⟩ := List.getElem?_eq_some_iff.1 hd
    rw [List.drop_eq_getElem_cons hdl, hde] at h1
    obtain ⟨a1, a2, a3, a4, a5⟩ := h1
    have e1 : D'.deeds = D.deeds ++ ds.take t := by rw [h.d]
    refine ⟨d, rfl, a1, by rw [e1]; exact a2, by rw [e1]; exact a3, a4, ?_, ?_⟩
    · rw [h.d]
      show ({ D with deeds := D.deeds ++ ds.take t ++ [d] } : PD) = { D with deeds := D.deeds ++ ds.take (t + 1) }
      rw [take_snoc hd, List.append_assoc]
    · rw [take_snoc hd, ← List.append_assoc]; exact a5
theorem keep3 {w : World} {c : Addr} {a : Nat} {x v0 v1 v2 : Value} (h : c.block ≠ a) (hc : w.cell? c = some x) : (((w.setCell ⟨a, 0, none⟩ v0).setCell ⟨a, 1, none⟩ v1).setCell ⟨a, 2, none⟩ v2).cell? c = some x :=
  (setCell_kept _ ⟨a, 2, none⟩ v2).cell ((setCell_kept _ ⟨a, 1, none⟩ v1).cell ((setCell_kept w ⟨a, 0, none⟩ v0).cell hc h) h) h
theorem wrapS {n : Nat} (h : n ≤ 1000000000) : wrap64 ((n : Int) + 1) = (n : Int) + 1 := by unfold wrap64; omega
theorem wrapS2 {n : Nat} (h : n ≤ 1000000000) : IntKind.i64.wrap ((n : Int) + 1) = (n : Int) + 1 := by rw [IntKind.wrap_i64]; omega
theorem natz {m : Nat} (h : m ≠ 0) : ((m : Int) == 0) = false := by rw [beq_eq_false_iff_ne]; omega
set_option maxRecDepth 100000 in
set_option maxHeartbeats 4000000 in
theorem migrateQ (w : World) (t : Nat) (ht : t ≤ 20) (h : JQ w G b bx S R key X D Q) (k : Kn N n X D S R) (hn : n ≤ 30000000) :
    Calls Tryd.prog 56 #[.pointer (some ⟨b, 0, none⟩), .int .i64 (t : Int)] w fun e w' => e = .returned (.bool true) ∧ ∃ X' D', JQ w' G b bx S R key X' D' Q ∧ (Kn N (n + 20) X' D' S R ∧ Still D D') ∧ Kept (fun k => ¬ G k) w w' := by
  obtain ⟨s1, s2⟩ := kn_migrate k (by omega) t ht
  have hlen := k.floor.2.2
  have HLEN : Hid (D.deeds.length ≤ 30000000) := Nat.le_trans hlen hn
  obtain ⟨Fq, hq, _⟩ := h.q
  have c0 := qin_ptr hq
  have lb := hq.lt
  have HJ := hid h
  have HK := hid k
  clear h k hq
  cases hg : pGoing X
  · have HP := hid (s1 hg)
    clear s1 s2
    go_enter Tryd.func56, Tryd.ntmps56
    go_wp2_with (go_at_call 86; refine (HJ.out.callX HP.out).mono ?_; rintro e y1 ⟨rfl, j1, q1⟩; have J1 := hid j1; have K1 := hid q1; clear j1 q1)
    go_ret
    exact ⟨rfl, X, D, J1.out, ⟨HK.out.mono (by omega), ⟨rfl, rfl⟩⟩, K1.out⟩
  · obtain ⟨m, er, X', ds, es, hP, her, hmt, hen, hel, hdl, hml, hkn⟩ := s2 hg
    have HP := hid hP
    have HKN := hid hkn
    have HEN := hid hen
    have hne : X'.entries.length ≤ 60 := by
      obtain ⟨Y, hr, _⟩ := hkn
      have := hr.few
      have := hr.rooms
      omega
    have hX : X'.entries.length = X.entries.length + m := by rw [hen, List.length_append, hel]
    have q1 : decide ((m : Int) < 0) = false := by simp
    have q2 : decide ((t : Int) < (m : Int)) = false := by simp; omega
    have q2n : decide (t < m) = false := by simp; omega
    have q3 : decide ((X'.entries.length : Int) < (m : Int)) = false := by simp; omega
    have q3n : decide (X'.entries.length < m) = false := by simp; omega
    have M0 : Hid (Mvd D es ds 0 D) := ⟨by simp, by simpa using hml⟩
    have x1 : wrap64 ((X'.entries.length : Int) - (m : Int)) = (X.entries.length : Int) := by unfold wrap64; omega
    have x2 : (X'.entries.length : Int) - (m : Int) = (X.entries.length : Int) := by omega
    have HX := hid hX
    have HEL := hid hel
    have HDL := hid hdl
    have g0 : Hid (G 0) := by obtain ⟨_, _, q⟩ := HJ.out; exact q.g0
    clear s1 s2 hP hkn hen hml hel hdl hX
    rcases her with rfl | rfl
    all_goals
      go_enter Tryd.func56, Tryd.ntmps56
      go_upto_region 6 with (go_at_call 86; refine (HJ.out.callX HP.out).mono ?_; rintro e y1 ⟨rfl, j1, k1⟩; have J1 := hid j1; have K1 := hid k1; clear j1 k1)
      obtain ⟨Fq1, hq1, _⟩ := J1.out.q
      have c0b := qin_ptr hq1
      have lb1 := hq1.lt
      clear hq1 c0 lb
      go_upto_region 11 with (go_at_call 29; refine (J1.out.entries (by omega)).mono ?_; rintro e y2 ⟨v2, rfl, j2, l2, o2, b2⟩; obtain ⟨a2, cap2, rfl, _, _⟩ := ownsRow_view o2; have J2 := hid j2; have L2 := hid l2; have O2 := hid o2; have B2 := hid b2; clear j2 l2 o2 b2)
      obtain ⟨G1, hG1⟩ : ∃ G1, G1 = (fun i => G i ∨ (y1.heap.size ≤ i ∧ i < y2.heap.size)) := ⟨_, rfl⟩
      rw [← hG1] at J2
      have HG1 := hid hG1
      have own1 : Hid (∀ q, (Value.slice a2 X'.entries.length cap2).ownBlock = some q → G1 q) := fun q e => by rw [hG1]; exact Or.inr ⟨B2.out q e, (O2.out.lt q e).2⟩
      clear hG1 c0b lb1
      go_loopg [9] m (fun left iv wr => ∃ (i ei : Nat), left = m - i ∧ i ≤ m ∧ iv = .int .i64 (ei : Int) ∧ Hid (ei = X.entries.length + i) ∧ Hid (∃ D', Mvd D es ds i D' ∧ JQ wr G1 b bx S R key X' D' Q ∧ Kept (fun k => ¬ G1 k) y2 wr))
      case atStart => exact ⟨0, X.entries.length, rfl, Nat.zero_le _, by simp, rfl, D, M0.out, J2.out, Kept.refl _ _⟩
      case round =>
        obtain ⟨i, ei, hgk, hi, rfl, HEI, HI⟩ := hrel
        have hei := HEI.out
        have HGK := hid hgk
        clear hgk
        obtain ⟨D', hm1, hj1, hk1⟩ := HI.out
        have M1 := hid hm1
        have JR := hid hj1
        have KR := hid hk1
        obtain ⟨Fq3, hq3, _⟩ := hj1.q
        have lb3 := hq3.lt
        have HQ3 := hid hq3
        have OR : Hid (wr.ownsRow 0 69 6 (.slice a2 X'.entries.length cap2) X'.entries.length (X'.entries.flatMap Ent.cells)) := owns_kept O2.out hk1 own1.out
        have hX := HX.out
        clear hm1 hj1 hk1 HI hq3 x1 x2 q1 q2 q2n q3 q3n hlen hn
        by_cases h3 : i < m
        · have q5 : decide ((ei : Int) < (X'.entries.length : Int)) = true := by simp; omega
          have q5n : decide (ei < X'.entries.length) = true := by simp; omega
          obtain ⟨e, he⟩ : ∃ e, es[i]? = some e := ⟨_, List.getElem?_eq_getElem (by have := HEL.out; omega)⟩
          have heX : X'.entries[ei]? = some e := by rw [hei, HEN.out, List.getElem?_append_right (by omega), show X.entries.length + i - X.entries.length = i by omega]; exact he
          obtain ⟨d, hd1, hd2, hd3, ⟨mm, hd4, hd5⟩, hd6, hd7⟩ := M1.out.step he
          have hl6 : ei < X'.entries.length := by omega
          obtain ⟨s1, t1, z1, _, f1⟩ := ownsRow_view OR.out
          obtain ⟨gl, rfl, hgl, _, _⟩ := f1 (by omega)
          cases z1
          have cell : ∀ q, q < 6 → wr.cell? ⟨gl, ei * 6 + q, none⟩ = e.cells[q]? := fun q hq => by
            rw [OR.out.cellAt (ei * 6 + q) (by omega), flat_at 6 Ent.cells Ent.len X'.entries ei q e heX hq]
          have p0 : wr.cell? ⟨gl, ei * 6, none⟩ = some (.string e.path) := cell 0 (by omega)
          have p1 : wr.cell? ⟨gl, ei * 6 + 1, none⟩ = some (.int .i64 e.rev) := cell 1 (by omega)
          have p5 : wr.cell? ⟨gl, ei * 6 + 5, none⟩ = some (.bool e.gone) := cell 5 (by omega)
          have ixe : (ei : Int) < (X'.entries.length : Int) := by omega
          have P1 := hid p1
          have P5 := hid p5
          obtain ⟨a4, cap4, hc4, _⟩ := qin_deeds HQ3.out
          rw [List.length_map] at hc4
          have lD : D'.deeds.length ≤ 100000000 := by
            rw [M1.out.d]
            show (D.deeds ++ ds.take i).length ≤ _
            rw [List.length_append, List.length_take]
            have := HLEN.out
            have := HDL.out
            omega
          have HD1 := hid hd1
          have HD3 := hid hd3
          have HD4 := hid hd4
          have HD7 := hid hd7
          clear hd1 hd3 hd4 hd7 f1 heX he cell hX hei p1 p5 hl6
          have HNE : Hid (ei ≤ 1000000000) := by show _ ≤ _; omega
          clear hne
          have HNW : Hid (∀ y : World, Low wr.heap.size wr y → Calls Tryd.prog 45 #[.pointer (some ⟨b, 0, none⟩), .string e.path, .int .i64 (D'.deeds.length : Int)] y fun x w' => x = .returned (.tuple #[.agg #[.string d.path, .string d.text, .bool d.gone], .int .i64 (mm : Int)]) ∧ Low wr.heap.size wr w' ∧ Low y.heap.size y w') := fun y hy => by
            refine (newestD_any y e.path D'.deeds.length (HQ3.out.low hy) (Nat.le_refl _) (by omega)).mono ?_
            rintro x w' ⟨r, d2, h1, h2, h3⟩
            rw [List.take_length] at h2
            obtain ⟨e1, e2⟩ := newD_unique h2 HD4.out
            rw [e1, e2] at h1
            exact ⟨h1, hy.trans (h3.mono hy.size), h3⟩
          have nb1 : gl ≠ wr.heap.size := Nat.ne_of_lt hgl
          have nb2 : b ≠ wr.heap.size := Nat.ne_of_lt lb3
          have HD6 := hid hd6
          clear ht hmt hd6
          go_upto_region 13 with fail
          go_cut [10, 11] (fun mv rv wc => ∃ (M : Nat), mv = .pointer (some ⟨M, 0, none⟩) ∧ rv = .int .i64 (mm : Int) ∧ Hid (Low wr.heap.size wr wc ∧ wr.heap.size ≤ M ∧ Blk wc M 43 d.cells))
          case first =>
            go_region_held3 (fun W' => W'.cell? ⟨gl, ei * 6, none⟩ = some (.string e.path) ∧ W'.cell? ⟨b, 4, none⟩ = some (.slice a4 D'.deeds.length cap4)) (first | assumption | go_keep | exact ⟨keep3 nb1 S2.1, keep3 nb2 S2.2⟩)
              (first | (go_at_call 45; refine (HNW.out _ (Low.refl _ wr).drew).mono ?_; rintro x z2 ⟨rfl, l2, l3⟩; have S2 : z2.cell? ⟨gl, ei * 6, none⟩ = some (.string e.path) ∧ z2.cell? ⟨b, 4, none⟩ = some (.slice a4 D'.deeds.length cap4) := ⟨(l2.cell (p := ⟨gl, ei * 6, none⟩) hgl).trans p0, (l2.cell (p := ⟨b, 4, none⟩) lb3).trans hc4⟩; have hz1 : gl < z2.heap.size := Nat.lt_of_lt_of_le hgl l2.size; have hz2 : b < z2.heap.size := Nat.lt_of_lt_of_le lb3 l2.size; have LL2 := hid l2; clear l2 l3) | (go_at_call 45; refine (HNW.out _ ((Low.refl _ wr).alloc (Nat.le_refl _) _).drew).mono ?_; rintro x z2 ⟨rfl, l2, l3⟩; have S2 : z2.cell? ⟨gl, ei * 6, none⟩ = some (.string e.path) ∧ z2.cell? ⟨b, 4, none⟩ = some (.slice a4 D'.deeds.length cap4) := ⟨(l2.cell (p := ⟨gl, ei * 6, none⟩) hgl).trans p0, (l2.cell (p := ⟨b, 4, none⟩) lb3).trans hc4⟩; have hz1 : gl < z2.heap.size := Nat.lt_of_lt_of_le hgl l2.size; have hz2 : b < z2.heap.size := Nat.lt_of_lt_of_le lb3 l2.size; have LL2 := hid l2; have bz : Blk z2 wr.heap.size 43 Dd.zero.cells := (Blk.low (w := (wr.alloc (.cells Dd.zero.cells.toArray 43)).drew) (Blk.new wr 43 Dd.zero.cells) l3 (by simp)); have z0 : z2.cell? ⟨wr.heap.size, 0, none⟩ = some (.string ⟨#[]⟩) := bz.cell 0; have z1 : z2.cell? ⟨wr.heap.size, 1, none⟩ = some (.string ⟨#[]⟩) := bz.cell 1; have z2' : z2.cell? ⟨wr.heap.size, 2, none⟩ = some (.bool false) := bz.cell 2; have g0' := bz.frozen 0; have g1 := bz.frozen 1; have g2 := bz.frozen 2; have lz := bz.lt; have BZ := hid bz; clear l2 l3 bz))
            all_goals
              go_wp2_with fail
              go_meet
            all_goals first | exact ⟨_, rfl, rfl, LL2.out.alloc LL2.out.size _, LL2.out.size, Blk.new z2 43 d.cells⟩ | exact ⟨_, rfl, rfl, ((LL2.out.setCell (Nat.le_refl _) _).setCell (Nat.le_refl _) _).setCell (Nat.le_refl _) _, Nat.le_refl _, ((BZ.out.set 0 _).set 1 _).set 2 _⟩
          case rest =>
            obtain ⟨M, rfl, rfl, HM⟩ := hcut
            have JC : Hid (JQ wc G1 b bx S R key X' D' Q) := JR.out.low HM.out.1
            obtain ⟨Fq5, hq5, _⟩ := JC.out.q
            obtain ⟨b4, dap4, hd4, o4, n4, _⟩ := qin_rowD hq5
            have lb5 := hq5.lt
            have q10 : ((mm : Int) == 0) = false := natz hd5
            have q10n : (mm == 0) = false := by simpa using hd5
            have w2 : wc.cell? ⟨M, 2, none⟩ = some (.bool d.gone) := HM.out.2.2.cell 2
            have w0 : wc.cell? ⟨M, 0, none⟩ = some (.string d.path) := HM.out.2.2.cell 0
            have w1 : wc.cell? ⟨M, 1, none⟩ = some (.string d.text) := HM.out.2.2.cell 1
            rw [HD6.out] at w2
            have lM := HM.out.2.2.lt
            have v1 : wc.cell? ⟨gl, ei * 6 + 1, none⟩ = some (.int .i64 e.rev) := (HM.out.1.cell (p := ⟨gl, ei * 6 + 1, none⟩) hgl).trans P1.out
            have v5 : wc.cell? ⟨gl, ei * 6 + 5, none⟩ = some (.bool e.gone) := (HM.out.1.cell (p := ⟨gl, ei * 6 + 5, none⟩) hgl).trans P5.out
            rw [hd2] at v5
            have hrev : e.rev = (D'.deeds.length : Int) + 1 := HD3.out
            rw [hrev] at v1
            have O4 := hid o4
            have N4 := hid n4
            have C4 := hid hd4
            have F4 := hid (hq5.frozen 4)
            have LB := hid lb5
            have hgc : gl < wc.heap.size := Nat.lt_of_lt_of_le hgl HM.out.1.size
            have x3 : wrap64 ((D'.deeds.length : Int) + 1) = (D'.deeds.length : Int) + 1 := wrapS (Nat.le_trans lD (by decide))
            have x4 : IntKind.i64.wrap ((D'.deeds.length : Int) + 1) = (D'.deeds.length : Int) + 1 := wrapS2 (Nat.le_trans lD (by decide))
            clear o4 n4 hq5 hc4 p0
            clear HNW P1 P5 HD1 HD3 HD4 hgl lb3 OR nb1 nb2
            go_upto_region 14 with fail
            go_region
            all_goals
              go_upto_region 16 with fail
              go_name_world U hU
              have JU : Hid (JQ U G1 b bx S R key X' D' Q) := by
                show JQ U _ _ _ _ _ _ _ _ _
                rw [← hU]; exact JC.out.low (Low.refl _ wc).drew
              have LU : Hid (Low wr.heap.size wr U) := by
                show Low _ _ _
                rw [← hU]; exact HM.out.1.drew
              have BU : Hid (Blk U M 43 d.cells) := by
                show Blk U _ _ _
                rw [← hU]; exact HM.out.2.2
              obtain ⟨Fq7, hq7, _⟩ := JU.out.q
              obtain ⟨u4, vap4, hu4, ou4, nu4, _⟩ := qin_rowD hq7
              have lbU := hq7.lt
              have OU := hid ou4
              have NU := hid nu4
              have CU := hid hu4
              have FU := hid (hq7.frozen 4)
              have LBU := hid lbU
              have s0 : U.cell? ⟨M, 0, none⟩ = some (.string d.path) := BU.out.cell 0
              have s1 : U.cell? ⟨M, 1, none⟩ = some (.string d.text) := BU.out.cell 1
              have s2 : U.cell? ⟨M, 2, none⟩ = some (.bool d.gone) := BU.out.cell 2
              have lMU := BU.out.lt
              have HLD := hid lD
              clear hU hq7 ou4 nu4 w0 w1 w2 v1 v5 hd4 lb5 lM hgc x3 x4 q10 q10n O4 N4 C4 F4 LB
              go_region_law ((refine step_append_mine _ rfl (.tmp 104) (.tmp 106) 41 rfl 43 _ 3 40 Tryd.underlying41 infoD rfl (by omega) (.slice u4 D'.deeds.length vap4) D'.deeds.length (D'.deeds.flatMap Dd.cells) ?_ ?_ ⟨U.heap.size, 0, none⟩ 1 1 d.cells ?_ rfl ?_ (Dd.one _) ⟨by have := HLD.out; omega, by omega⟩ ?_; rfl; exact (World.ownsRow.alloc (w := U) OU.out _); rfl; exact (news_new U d.cells 43); intro v' w1 o1 k1 p1; obtain ⟨a', cap', rfl, _, _⟩ := ownsRow_view o1; have O1 := hid o1; have K2 := hid k1.of_drew; have P1 := hid p1; have c4w := kept_cell K2.out LBU.out NU.out CU.out; have f4w := kept_frozen K2.out LBU.out NU.out FU.out; clear o1 k1 p1))
              all_goals go_wp2_with fail
              all_goals go_roundg (m - (i + 1))
              all_goals try (case measure => have := HGK.out; omega)
              all_goals
                obtain ⟨r1, r2⟩ := JU.out.write (D' := { D' with deeds := D'.deeds ++ [d] }) (Q' := Q) (fun Fq q _ => by
                  obtain ⟨a, c⟩ := qin_appD q CU.out K2.out d O1.out P1.out
                  exact ⟨_, a, c, fun k hk => hk.imp id (fun z => z.1)⟩)
                refine ⟨i + 1, ei + 1, rfl, by omega, by simp; exact wrapS HNE.out, by show _ = _; rw [HEI.out]; omega, { D' with deeds := D'.deeds ++ [d] }, HD7.out, r1, ?_⟩
                exact (KR.out.trans LU.out.kept (H := fun k => ¬ G1 k) (fun _ f => f) (fun _ _ f => f.elim)).trans r2 (fun _ f => f) (fun _ _ f => f)
        · have q5 : decide ((ei : Int) < (X'.entries.length : Int)) = false := by simp; omega
          have q5n : decide (ei < X'.entries.length) = false := by simp; omega
          obtain rfl : i = m := by omega
          clear hX hei
          go_wp2_with fail
          go_ret
          have hD : D' = { D with deeds := D.deeds ++ ds } := by rw [M1.out.d, List.take_of_length_le (by have := HDL.out; omega)]
          refine ⟨rfl, X', D', JR.out.weak (fun _ g => by rw [HG1.out]; exact Or.inl g) g0.out, ⟨by rw [hD]; exact HKN.out, by rw [hD]; exact ⟨rfl, rfl⟩⟩, ?_⟩
          exact (K1.out.trans L2.out.kept (H := fun k => ¬ G k) (fun _ f => f) (fun _ _ f => f.elim)).trans KR.out (fun _ f => f) (fun _ _ f g => f (by rw [HG1.out]; exact Or.inl g))
end Go.Proofs.YtphapknfkbgapaaDoor
namespace Go.Proofs.YtphapknfkbgapaaDoor
open Go.RowKit

variable {N : ByteArray → Prop} {G : Nat → Prop} {b bx S n : Nat} {R : Int} {key : ByteArray} {X : PS} {D : PD} {Q : Pods}

/-! turn: the key. -/
def TurnPost (N : ByteArray → Prop) (n : Nat) (w w' : World) (G : Nat → Prop) (b bx S : Nat) (R : Int) (key : ByteArray) (D : PD) (Q : Pods) : Prop := ∃ X' D', JQ w' G b bx S R key X' D' Q ∧ (Kn N (n + 20) X' D' S R ∧ Still D D') ∧ Kept (fun k => ¬ G k) w w'
theorem JQ.boxed {w : World} (h : JQ w G b bx S R key X D Q) (o : Obj) : JQ (w.alloc o) G b bx S R key X D Q := h.low ((Low.refl _ w).alloc (Nat.le_refl _) o)
theorem JQ.setDest {w : World} (h : JQ w G b bx S R key X D Q) {k : Nat} (hk : k < 7) (v : Bool) : JQ (w.setCell ⟨b, 22 + k, none⟩ (.bool v)) G b bx S R key X { D with dest := D.dest.set k v } Q ∧ Kept (fun k => ¬ G k) w (w.setCell ⟨b, 22 + k, none⟩ (.bool v)) :=
  h.write (fun Fq q _ => ⟨Fq, qin_setDest q hk v, qset_kept q (22 + k) _, fun _ f => Or.inl f⟩)
set_option maxRecDepth 100000 in
set_option maxHeartbeats 2000000 in
theorem turnPromote (w : World) (a : AAct) (h : JQ w G b bx S R key X D Q) (k : Kn N n X D S R) (hk : a.kind = 9) :
    Calls Tryd.prog 72 #[.pointer (some ⟨b, 0, none⟩), .agg #[.int .i64 a.kind, .int .i64 a.s, .int .i64 a.n, .int .i64 a.k, .string a.path, .string a.text, .bool a.on]] w fun e w' => e = .returned (.bool true) ∧ TurnPost N n w w' G b bx S R key D Q := by
  obtain ⟨s1, s2, s3⟩ := kn_promote k
  have hb0 : b < w.heap.size := by obtain ⟨Fq, hq, _⟩ := h.q; exact hq.lt
  obtain ⟨er, X', hP, hX', her⟩ : ∃ (er : Int) (X' : PS), PUni 55 [] X (.int .i64 er) X' ∧ Kn N (n + 20) X' D S R ∧ (er = 0 ∨ er = 17 ∨ er = 18) := by
    by_cases hu : X.turn = 1
    · by_cases hall : ∀ (i : Nat) (s : PSrv), X.servers[i]? = some s → s.seen = X.epoch
      · obtain ⟨m, P, _, _, hp, hk2⟩ := s3 hu hall
        exact ⟨0, _, hp, hk2.mono (by omega), Or.inl rfl⟩
      · refine ⟨18, X, s2 hu ?_, k.mono (by omega), Or.inr (Or.inr rfl)⟩
        simp only [Classical.not_forall] at hall
        obtain ⟨i, s, hs, hne⟩ := hall
        exact ⟨i, s, hs, hne⟩
    · exact ⟨17, X, s1 hu, k.mono (by omega), Or.inr (Or.inl rfl)⟩
  have HP := hid hP
  have HX := hid hX'
  have HJ := hid (h.boxed (.cells a.cells.toArray 57))
  obtain ⟨Fq, hq, _⟩ := HJ.out.q
  have c0 := qin_ptr hq
  have lb := hq.lt
  have LB : Hid (Low w.heap.size w (w.alloc (.cells a.cells.toArray 57))) := (Low.refl _ w).alloc (Nat.le_refl _) _
  clear s1 s2 s3 h k hP hX' hq
  rw [hk]
  rcases her with rfl | rfl | rfl
  all_goals
    go_enter Tryd.func72, Tryd.ntmps72
    go_upto_region 14 with fail
    go_name_world W hW
    have JW : Hid (JQ W G b bx S R key X D Q) := by
      show JQ W _ _ _ _ _ _ _ _ _
      rw [← hW]
      have := HJ.out
      unfold AAct.cells at this
      rw [hk] at this
      exact this
    have LW : Hid (Low w.heap.size w W) := by
      show Low _ _ _
      rw [← hW]; exact (Low.refl _ w).alloc (Nat.le_refl _) _
    clear hW
    obtain ⟨Fq1, hq1, _⟩ := JW.out.q
    have c0b := qin_ptr hq1
    have lb1 := hq1.lt
    clear hq1
    go_wp2_with (go_at_call 55; refine (JW.out.callX HP.out).mono ?_; rintro e y1 ⟨rfl, j1, q1⟩; have J1 := hid j1; have K1 := hid q1; clear j1 q1)
    go_ret
    exact ⟨rfl, X', D, J1.out, ⟨HX.out, ⟨rfl, rfl⟩⟩, LW.out.kept.trans K1.out (fun _ f => f.elim) (fun _ _ f => f)⟩
set_option maxRecDepth 100000 in
set_option maxHeartbeats 2000000 in
theorem turnGate (w : World) (a : AAct) (h : JQ w G b bx S R key X D Q) (k : Kn N n X D S R) (hk : a.kind = 11) :
    Calls Tryd.prog 72 #[.pointer (some ⟨b, 0, none⟩), .agg #[.int .i64 a.kind, .int .i64 a.s, .int .i64 a.n, .int .i64 a.k, .string a.path, .string a.text, .bool a.on]] w fun e w' => e = .returned (.bool true) ∧ TurnPost N n w w' G b bx S R key D Q := by
  obtain ⟨s1, s2, s3⟩ := kn_gate k
  have hb0 : b < w.heap.size := by obtain ⟨Fq, hq, _⟩ := h.q; exact hq.lt
  obtain ⟨er, X', hP, hX', her⟩ : ∃ (er : Int) (X' : PS), PUni 57 [] X (.int .i64 er) X' ∧ Kn N (n + 20) X' D S R ∧ (er = 0 ∨ er = 17 ∨ er = 19) := by
    cases hg : pGoing X
    · exact ⟨17, X, s1 hg, k.mono (by omega), Or.inr (Or.inl rfl)⟩
    · cases hu : pUsed X
      · obtain ⟨hp, hk2⟩ := s3 hg hu
        exact ⟨0, _, hp, hk2.mono (by omega), Or.inl rfl⟩
      · exact ⟨19, X, s2 hg hu, k.mono (by omega), Or.inr (Or.inr rfl)⟩
  have HP := hid hP
  have HX := hid hX'
  have HJ := hid h
  clear s1 s2 s3 h k hP hX'
  rw [hk]
  rcases her with rfl | rfl | rfl
  all_goals
    go_enter Tryd.func72, Tryd.ntmps72
    go_upto_region 19 with fail
    go_name_world W hW
    have LW : Hid (Low w.heap.size w W) := by
      show Low _ _ _
      rw [← hW]; exact (Low.refl _ w).alloc (Nat.le_refl _) _
    have JW : Hid (JQ W G b bx S R key X D Q) := HJ.out.low LW.out
    clear hW
    obtain ⟨Fq1, hq1, _⟩ := JW.out.q
    have c0b := qin_ptr hq1
    have lb1 := hq1.lt
    clear hq1
    go_wp2_with (go_at_call 57; refine (JW.out.callX HP.out).mono ?_; rintro e y1 ⟨rfl, j1, q1⟩; have J1 := hid j1; have K1 := hid q1; clear j1 q1)
    go_ret
    exact ⟨rfl, X', D, J1.out, ⟨HX.out, ⟨rfl, rfl⟩⟩, LW.out.kept.trans K1.out (fun _ f => f.elim) (fun _ _ f => f)⟩
set_option maxRecDepth 100000 in
set_option maxHeartbeats 2000000 in
theorem turnStage (w : World) (a : AAct) (h : JQ w G b bx S R key X D Q) (k : Kn N n X D S R) (hk : a.kind = 8) :
    Calls Tryd.prog 72 #[.pointer (some ⟨b, 0, none⟩), .agg #[.int .i64 a.kind, .int .i64 a.s, .int .i64 a.n, .int .i64 a.k, .string a.path, .string a.text, .bool a.on]] w fun e w' => e = .returned (.bool true) ∧ TurnPost N n w w' G b bx S R key D Q := by
  have hb0 : b < w.heap.size := by obtain ⟨Fq, hq, _⟩ := h.q; exact hq.lt
  have HJ := hid h
  have HK := hid k
  clear h k
  rw [hk]
  go_enter Tryd.func72, Tryd.ntmps72
  go_upto_region 12 with fail
  go_name_world W hW
  have LW : Hid (Low w.heap.size w W) := by
    show Low _ _ _
    rw [← hW]; exact (Low.refl _ w).alloc (Nat.le_refl _) _
  have BA : Hid (Blk W w.heap.size 57 (AAct.mk 8 a.s a.n a.k a.path a.text a.on).cells) := by
    show Blk W _ _ _
    rw [← hW]; exact Blk.new w 57 (AAct.mk 8 a.s a.n a.k a.path a.text a.on).cells
  have JW : Hid (JQ W G b bx S R key X D Q) := HJ.out.low LW.out
  have p5 : W.cell? ⟨w.heap.size, 5, none⟩ = some (.string a.text) := BA.out.cell 5
  have lA := BA.out.lt
  clear hW
  go_wp2_with (first | (go_at_call 17; refine (keyOf_any _ _).mono ?_; rintro e y1 ⟨t, rfl, ht, hy⟩; obtain rfl := hy.symm) | (go_at_call 54; refine (stageQ _ t ht JW.out HK.out).mono ?_; rintro e y2 ⟨rfl, X', D', j2, p2, k2⟩; have J2 := hid j2; have P2 := hid p2; have K2 := hid k2; clear j2 p2 k2))
  go_ret
  exact ⟨rfl, X', D', J2.out, ⟨P2.out.1.mono (by omega), by rcases P2.out.2 with ⟨_, e, _⟩ | ⟨_, _, _, e⟩ <;> rw [e] <;> exact ⟨rfl, rfl⟩⟩, LW.out.kept.trans K2.out (fun _ f => f.elim) (fun _ _ f => f)⟩
set_option maxRecDepth 100000 in
set_option maxHeartbeats 2000000 in
theorem turnDestroy (w : World) (a : AAct) (ha : AOk a) (h : JQ w G b bx S R key X D Q) (k : Kn N n X D S R) (hk : a.kind = 12) :
    Calls Tryd.prog 72 #[.pointer (some ⟨b, 0, none⟩), .agg #[.int .i64 a.kind, .int .i64 a.s, .int .i64 a.n, .int .i64 a.k, .string a.path, .string a.text, .bool a.on]] w fun e w' => e = .returned (.bool true) ∧ TurnPost N n w w' G b bx S R key D Q := by
  have hb0 : b < w.heap.size := by obtain ⟨Fq, hq, _⟩ := h.q; exact hq.lt
  have i0 := ha.n.1
  have i1 := ha.n.2
  have HJ := hid h
  have HK := hid k
  clear h k ha
  rw [hk]
  go_enter Tryd.func72, Tryd.ntmps72
  go_upto_region 21 with fail
  go_name_world W hW
  have LW : Hid (Low w.heap.size w W) := by
    show Low _ _ _
    rw [← hW]; exact (Low.refl _ w).alloc (Nat.le_refl _) _
  have BA : Hid (Blk W w.heap.size 57 (AAct.mk 12 a.s a.n a.k a.path a.text a.on).cells) := by
    show Blk W _ _ _
    rw [← hW]; exact Blk.new w 57 (AAct.mk 12 a.s a.n a.k a.path a.text a.on).cells
  have JW : Hid (JQ W G b bx S R key X D Q) := HJ.out.low LW.out
  have p2 : W.cell? ⟨w.heap.size, 2, none⟩ = some (.int .i64 a.n) := BA.out.cell 2
  have lA := BA.out.lt
  clear hW
  go_upto_region 22 with (go_at_call 18; refine (pick_some _ _ _ (by omega) (by omega) i0 i1).mono ?_; rintro e y1 ⟨r, rfl, hr, hy⟩; obtain rfl := hy.symm)
  obtain ⟨Fq1, hq1, _⟩ := JW.out.q
  have c0 := qin_ptr hq1
  have lb1 := hq1.lt
  have hkl := HK.out.keys
  obtain ⟨d1, d2⟩ := kn_destroy HK.out (r + 1)
  have er1 : ((r + 1 : Nat) : Int) = 1 + (r : Int) := by omega
  rw [er1] at d1 d2
  clear hq1 p2 i0 i1
  by_cases hlen : X.keys.length < r + 1
  · have HP := hid (d1 (Or.inr hlen))
    clear d1 d2
    go_wp2_with (go_at_call 28; refine (JW.out.callX HP.out).mono ?_; rintro e y1 ⟨rfl, j1, q1⟩; have J1 := hid j1; have K1 := hid q1; clear j1 q1)
    go_ret
    exact ⟨rfl, X, D, J1.out, ⟨HK.out.mono (by omega), ⟨rfl, rfl⟩⟩, LW.out.kept.trans K1.out (fun _ f => f.elim) (fun _ _ f => f)⟩
  · obtain ⟨P, hP0⟩ : ∃ P, X.keys[r]? = some P := ⟨_, List.getElem?_eq_getElem (by omega)⟩
    obtain ⟨e0, e1, e2, e3⟩ := d2 r P rfl hP0
    have E0 := hid e0
    have r7 : r + 1 < 7 := by omega
    have r7i : (1 : Int) + (r : Int) < 7 := by omega
    clear d1 d2 e0
    cases hg : keyGone P
    · by_cases hgate : (1 : Int) + (r : Int) = X.write ∨ X.turn ≠ 3
      · have HP := hid (e2 hg hgate)
        clear e1 e2 e3 hgate
        go_wp2_with (go_at_call 28; refine (JW.out.callX HP.out).mono ?_; rintro e y1 ⟨rfl, j1, q1⟩; have J1 := hid j1; have K1 := hid q1; clear j1 q1)
        go_ret
        exact ⟨rfl, X, D, J1.out, ⟨HK.out.mono (by omega), ⟨rfl, rfl⟩⟩, LW.out.kept.trans K1.out (fun _ f => f.elim) (fun _ _ f => f)⟩
      · obtain ⟨t, _, hP1, hk2⟩ := e3 hg (fun q => hgate (Or.inl q)) (by
          by_cases q : X.turn = 3
          · exact q
          · exact absurd (Or.inr q) hgate)
        have HP := hid hP1
        have HK2 := hid hk2
        clear e1 e2 e3 hgate hP1 hk2
        go_upto_region 24 with (go_at_call 28; refine (JW.out.callX HP.out).mono ?_; rintro e y1 ⟨rfl, j1, q1⟩; have J1 := hid j1; have K1 := hid q1; clear j1 q1)
        obtain ⟨Fq2, hq2, _⟩ := J1.out.q
        have z1 : y1.cell? ⟨b, 22 + (r + 1), none⟩ = some (.bool false) := by
          have := qin_dest hq2 E0.out
          rw [hg] at this
          exact this
        have z2 := hq2.frozen (22 + (r + 1))
        have lb2 := hq2.lt
        have tn : ((1 : Int) + (r : Int)).toNat = r + 1 := by omega
        clear hq2 c0
        go_wp2_with fail
        go_ret
        obtain ⟨r1, r2⟩ := J1.out.setDest r7 true
        exact ⟨rfl, _, _, r1, ⟨HK2.out.mono (by omega), ⟨rfl, rfl⟩⟩, (LW.out.kept.trans K1.out (H := fun k => ¬ G k) (fun _ f => f.elim) (fun _ _ f => f)).trans r2 (fun _ f => f) (fun _ _ f => f)⟩
    · have HP := hid (e1 hg)
      clear e1 e2 e3
      go_upto_region 23 with (go_at_call 28; refine (JW.out.callX HP.out).mono ?_; rintro e y1 ⟨rfl, j1, q1⟩; have J1 := hid j1; have K1 := hid q1; clear j1 q1)
      obtain ⟨Fq2, hq2, _⟩ := J1.out.q
      have z1 : y1.cell? ⟨b, 22 + (r + 1), none⟩ = some (.bool true) := by
        have := qin_dest hq2 E0.out
        rw [hg] at this
        exact this
      have lb2 := hq2.lt
      have tn : ((1 : Int) + (r : Int)).toNat = r + 1 := by omega
      clear hq2 c0
      go_wp2_with fail
      go_ret
      exact ⟨rfl, X, D, J1.out, ⟨HK.out.mono (by omega), ⟨rfl, rfl⟩⟩, LW.out.kept.trans K1.out (fun _ f => f.elim) (fun _ _ f => f)⟩
set_option maxRecDepth 100000 in
set_option maxHeartbeats 2000000 in
theorem turnCompact (w : World) (a : AAct) (ha : AOk a) (h : JQ w G b bx S R key X D Q) (k : Kn N n X D S R) (hd : D.deeds.length ≤ 100000000) (hk : a.kind = 7) :
    Calls Tryd.prog 72 #[.pointer (some ⟨b, 0, none⟩), .agg #[.int .i64 a.kind, .int .i64 a.s, .int .i64 a.n, .int .i64 a.k, .string a.path, .string a.text, .bool a.on]] w fun e w' => e = .returned (.bool true) ∧ TurnPost N n w w' G b bx S R key D Q := by
  have hb0 : b < w.heap.size := by obtain ⟨Fq, hq, _⟩ := h.q; exact hq.lt
  have i0 := ha.n.1
  have i1 := ha.n.2
  have HJ := hid h
  have HK := hid k
  clear h k ha
  rw [hk]
  go_enter Tryd.func72, Tryd.ntmps72
  go_upto_region 4 with fail
  go_name_world W hW
  have LW : Hid (Low w.heap.size w W) := by
    show Low _ _ _
    rw [← hW]; exact (Low.refl _ w).alloc (Nat.le_refl _) _
  have BA : Hid (Blk W w.heap.size 57 (AAct.mk 7 a.s a.n a.k a.path a.text a.on).cells) := by
    show Blk W _ _ _
    rw [← hW]; exact Blk.new w 57 (AAct.mk 7 a.s a.n a.k a.path a.text a.on).cells
  have JW : Hid (JQ W G b bx S R key X D Q) := HJ.out.low LW.out
  have p2 : W.cell? ⟨w.heap.size, 2, none⟩ = some (.int .i64 a.n) := BA.out.cell 2
  have lA := BA.out.lt
  obtain ⟨Fq, hq, _⟩ := JW.out.q
  obtain ⟨a4, cap4, hc4, _⟩ := qin_deeds hq
  rw [List.length_map] at hc4
  have lb := hq.lt
  have x1 : wrap64 ((D.deeds.length : Int) + 2) = (D.deeds.length : Int) + 2 := by unfold wrap64; omega
  have x2 : IntKind.i64.wrap ((D.deeds.length : Int) + 2) = (D.deeds.length : Int) + 2 := by rw [IntKind.wrap_i64]; omega
  clear hW hq
  go_region_held3 (fun W' => W'.cell? ⟨w.heap.size, 2, none⟩ = some (.int .i64 a.n) ∧ W'.cell? ⟨b, 4, none⟩ = some (.slice a4 D.deeds.length cap4)) (first | assumption | go_keep)
    (first | (go_at_call 18; refine (pick_some a.n ((D.deeds.length : Int) + 2) _ (by omega) (by omega) i0 i1).mono ?_; rintro e y3 ⟨rv, rfl, hrv, rfl⟩; have S3 : W.drew.cell? ⟨w.heap.size, 2, none⟩ = some (.int .i64 a.n) ∧ W.drew.cell? ⟨b, 4, none⟩ = some (.slice a4 D.deeds.length cap4) := ⟨p2, hc4⟩))
  have L3 : Hid (Low w.heap.size w W.drew) := LW.out.drew
  have J3 : Hid (JQ W.drew G b bx S R key X D Q) := JW.out.low (Low.refl _ W).drew
  obtain ⟨Fq3, hq3, _⟩ := J3.out.q
  have c0 := qin_ptr hq3
  have lb3 := hq3.lt
  obtain ⟨k1, k2⟩ := kn_compact HK.out rv
  clear S3 p2 hc4 hq3 x1 x2 i0 i1
  by_cases hc : D.floor < (rv : Int) ∧ rv ≤ D.deeds.length
  · obtain ⟨hP, hk3⟩ := k1 hc
    obtain ⟨hc1, hc2⟩ := hc
    have HP := hid hP
    have HK3 := hid hk3
    have q1 : decide (D.floor < (rv : Int)) = true := by simpa using hc1
    have q2 : decide ((rv : Int) ≤ (D.deeds.length : Int)) = true := by simp; omega
    have q3 : decide (rv ≤ D.deeds.length) = true := by simp; omega
    clear k1 k2 hP hk3
    go_upto_region 6 with (go_at_call 47; refine (J3.out.callX HP.out).mono ?_; rintro e y5 ⟨rfl, j5, k5⟩; have J5 := hid j5; have K5 := hid k5; clear j5 k5)
    obtain ⟨Fq5, hq5, _⟩ := J5.out.q
    obtain ⟨b4, dap4, hc5, _⟩ := qin_deeds hq5
    rw [List.length_map] at hc5
    have f5 := qin_floor hq5
    have g5 := hq5.frozen 5
    have lb5 := hq5.lt
    clear hq5 c0 lb3
    go_wp2_with fail
    go_ret
    obtain ⟨r1, r2⟩ := J5.out.setFloor (rv : Int)
    exact ⟨rfl, _, _, r1, ⟨HK3.out.mono (by omega), ⟨rfl, rfl⟩⟩, (L3.out.kept.trans K5.out (H := fun k => ¬ G k) (fun _ f => f.elim) (fun _ _ f => f)).trans r2 (fun _ f => f) (fun _ _ f => f)⟩
  · have HP := hid (k2 hc)
    clear k1 k2
    go_upto_region 6 with (go_at_call 47; refine (J3.out.callX HP.out).mono ?_; rintro e y5 ⟨rfl, j5, k5⟩; have J5 := hid j5; have K5 := hid k5; clear j5 k5)
    obtain ⟨Fq5, hq5, _⟩ := J5.out.q
    obtain ⟨b4, dap4, hc5, _⟩ := qin_deeds hq5
    rw [List.length_map] at hc5
    have f5 := qin_floor hq5
    have lb5 := hq5.lt
    have KW : Hid (Kept (fun k => ¬ G k) w y5) := L3.out.kept.trans K5.out (fun _ f => f.elim) (fun _ _ f => f)
    clear hq5 c0 lb3
    by_cases h1 : (rv : Int) ≤ D.floor
    · have q1 : decide ((rv : Int) ≤ D.floor) = true := by simpa using h1
      go_wp2_with fail
      go_ret
      exact ⟨rfl, X, D, J5.out, ⟨HK.out.mono (by omega), ⟨rfl, rfl⟩⟩, KW.out⟩
    · have q1 : decide ((rv : Int) ≤ D.floor) = false := by simpa using h1
      have h2 : D.deeds.length < rv := by
        by_cases h2 : rv ≤ D.deeds.length
        · exact absurd ⟨by omega, h2⟩ hc
        · omega
      have q2 : decide ((D.deeds.length : Int) < (rv : Int)) = true := by simp; omega
      have q3 : decide (D.deeds.length < rv) = true := by simpa using h2
      go_wp2_with fail
      go_ret
      exact ⟨rfl, X, D, J5.out, ⟨HK.out.mono (by omega), ⟨rfl, rfl⟩⟩, KW.out⟩
end Go.Proofs.YtphapknfkbgapaaDoor
namespace Go.Proofs.YtphapknfkbgapaaDoor
open Go.RowKit

variable {N : ByteArray → Prop} {G : Nat → Prop} {b bx S n : Nat} {R : Int} {key : ByteArray} {X : PS} {D : PD} {Q : Pods}

/-! Pods: allowed, fetch. -/
def allowedTo (Q : Pods) (node : Int) (k i : Nat) : Bool := (List.range i).any (fun i => ((Q.node[i]?).getD 0 == node) && needAt Q i k)
theorem allowedTo_snoc (Q : Pods) (node : Int) (k i : Nat) : allowedTo Q node k (i + 1) = (allowedTo Q node k i || (((Q.node[i]?).getD 0 == node) && needAt Q i k)) := by
  unfold allowedTo
  rw [List.range_succ, List.any_append]
  simp
set_option maxRecDepth 100000 in
set_option maxHeartbeats 1000000 in
theorem allowedQ_any (w : World) (node : Int) (k : Nat) (hk : k < 6) {F : Nat → Prop} (h : QIn w F b bx S R key D Q) :
    Calls Tryd.prog 122 #[.pointer (some ⟨b, 0, none⟩), .int .i64 node, .int .i64 (k : Int)] w fun e w' => e = .returned (.bool (allowedQ Q node k)) ∧ w' = w := by
  have HQ := hid h
  have lb := h.lt
  have kl : (k : Int) < 6 := by omega
  clear h
  go_enter Tryd.func122, Tryd.ntmps122
  go_wp2_with fail
  go_loopg [7] 8 (fun left iv wr => ∃ i : Nat, left = 8 - i ∧ i ≤ 8 ∧ iv = .int .i64 (i : Int) ∧ w = wr ∧ Hid (allowedTo Q node k i = false))
  case atStart => exact ⟨0, rfl, Nat.zero_le _, rfl, rfl, rfl⟩
  case round =>
    obtain ⟨i, hgk, hi, rfl, rfl, HI⟩ := hrel
    have HGK := hid hgk
    clear hgk
    by_cases h3 : i < 8
    · have q3 : decide ((i : Int) < 8) = true := by simp; omega
      have il : (i : Int) < 8 := by omega
      obtain ⟨nd, hnd⟩ : ∃ nd, Q.node[i]? = some nd := ⟨_, List.getElem?_eq_getElem (by rw [HQ.out.1.node]; exact h3)⟩
      obtain ⟨l, hl⟩ : ∃ l, Q.needs[i]? = some l := ⟨_, List.getElem?_eq_getElem (by rw [HQ.out.1.needs]; exact h3)⟩
      obtain ⟨v, hv⟩ : ∃ v, l[k]? = some v := ⟨_, List.getElem?_eq_getElem (by rw [HQ.out.1.need l (List.mem_of_getElem? hl)]; exact hk)⟩
      have c0 := qin_node HQ.out hnd
      have c1 := qin_need HQ.out hl hv
      rw [show 37 + (i * 6 + k) = 37 + i * 6 + k by omega] at c1
      have HS : Hid (allowedTo Q node k (i + 1) = ((nd == node) && v)) := by
        show _ = _
        rw [allowedTo_snoc, HI.out, hnd, Bool.false_or]
        unfold needAt
        rw [hl]
        simp only [Option.getD_some]
        rw [hv]
        rfl
      have H3 := hid h3
      have HND : Hid ((((Q.node[i]?).getD 0 == node) && needAt Q i k) = ((nd == node) && v)) := by
        show _ = _
        unfold needAt
        rw [hnd, hl]
        simp only [Option.getD_some]
        rw [hv]
        rfl
      clear hl hv hnd
      cases qn : (nd == node)
      · go_wp2_with fail
        go_roundg (8 - (i + 1))
        case rel => exact ⟨i + 1, rfl, by omega, by simp, rfl, by show _ = _; rw [HS.out, qn]; rfl⟩
        case measure => have := HGK.out; omega
      · cases v
        · go_wp2_with fail
          go_roundg (8 - (i + 1))
          case rel => exact ⟨i + 1, rfl, by omega, by simp, rfl, by show _ = _; rw [HS.out, qn]; rfl⟩
          case measure => have := HGK.out; omega
        · go_wp2_with fail
          go_ret
          refine ⟨?_, rfl⟩
          have : allowedQ Q node k = true := List.any_eq_true.2 ⟨i, List.mem_range.2 H3.out, by rw [HND.out, qn]; rfl⟩
          rw [this]; rfl
    · have q3 : decide ((i : Int) < 8) = false := by simp; omega
      obtain rfl : i = 8 := by omega
      go_wp2_with fail
      go_ret
      refine ⟨?_, rfl⟩
      have := HI.out
      unfold allowedTo at this
      unfold allowedQ
      rw [this]; rfl
theorem JQ.ptr0 {w : World} (h : JQ w G b bx S R key X D Q) : w.cell? ⟨b, 0, none⟩ = some (.pointer (some ⟨bx, 0, none⟩)) ∧ b < w.heap.size ∧ w.cell? ⟨b, 1, none⟩ = some (.int .i64 (S : Int)) := by
  obtain ⟨Fq, hq, _⟩ := h.q
  exact ⟨qin_ptr hq, hq.lt, qin_srv hq⟩
set_option maxRecDepth 100000 in
set_option maxHeartbeats 2000000 in
theorem fetchQ (w : World) (h : JQ w G b bx S R key X D D.pods) (kn : Kn N n X D S R) {s node k : Nat} (hs : s < S) (hn : node < 4) (hk : k < 6) :
    Calls Tryd.prog 102 #[.pointer (some ⟨b, 0, none⟩), .int .i64 (s : Int), .int .i64 (node : Int), .int .i64 (k : Int)] w fun e w' => e = .returned (.bool true) ∧ JQ w' G b bx S R key X D D.pods ∧ Kept (fun k => ¬ G k) w w' := by
  obtain ⟨f1, f2⟩ := kn_fetch kn hs hn (nameOf k)
  have ha := allowed_same kn.pods (node : Int) hk
  obtain ⟨c0, lb, _⟩ := h.ptr0
  have HJ := hid h
  have HN : Hid (∀ V, Calls Tryd.prog 44 #[.int .i64 (k : Int)] V fun e w' => e = .returned (.string (nameOf k)) ∧ w' = V) := fun V => name_any V k hk
  have HK6 := hid hk
  cases hd : neededOf X.pods (node : Int) (nameOf k)
  · have HP := hid (f1 hd)
    have HA : Hid (allowedQ D.pods (node : Int) k = false) := by show _ = _; rw [ha, hd]
    clear f1 f2 ha h kn hs hn hk
    go_enter Tryd.func102, Tryd.ntmps102
    go_upto_region 1 with fail
    go_region_held3 (fun W' => W'.cell? ⟨b, 0, none⟩ = some (.pointer (some ⟨bx, 0, none⟩))) (first | assumption | go_keep)
      (first | (go_at_call 44; refine (HN.out _).mono ?_; rintro e y0 ⟨rfl, hy⟩; obtain rfl := hy.symm; have S0 : w.drew.cell? ⟨b, 0, none⟩ = some (.pointer (some ⟨bx, 0, none⟩)) := c0) | (go_at_call 121; refine ((HJ.out.low (Low.refl _ w).drew).callX HP.out).mono ?_; rintro e y1 ⟨rfl, j1, k1⟩; have S1 := j1.ptr0.1; have J1 := hid j1; have K1 : Hid (Kept (fun k => ¬ G k) w y1) := ((Kept.refl _ w).drew).trans k1 (fun _ f => f) (fun _ _ f => f); clear j1 k1))
    all_goals
      obtain ⟨Fq1, hq1, _⟩ := J1.out.q
      have HQ1 := hid hq1
      clear hq1
      go_wp2_with (go_at_call 122; refine (allowedQ_any _ (node : Int) k HK6.out HQ1.out).mono ?_; rw [HA.out]; rintro e y2 ⟨rfl, hy⟩; obtain rfl := hy.symm)
      go_ret
      exact ⟨rfl, J1.out, K1.out⟩
  · obtain ⟨A, B, C, hC, hP1, hP2⟩ := f2 hd
    have HP := hid hP1
    have HP2 := hid hP2
    have HA : Hid (allowedQ D.pods (node : Int) k = true) := by show _ = _; rw [ha, hd]
    have hC' : (C != 21) = true := by rw [bne_iff_ne]; exact hC
    have hCe : (C == C) = true := beq_self_eq_true C
    have hAe : (A.toList == A.toList) = true := beq_self_eq_true _
    clear f1 f2 ha h kn hs hn hk hP1 hP2
    go_enter Tryd.func102, Tryd.ntmps102
    go_upto_region 1 with fail
    go_region_held3 (fun W' => W'.cell? ⟨b, 0, none⟩ = some (.pointer (some ⟨bx, 0, none⟩))) (first | assumption | go_keep)
      (first | (go_at_call 44; refine (HN.out _).mono ?_; rintro e y0 ⟨rfl, hy⟩; obtain rfl := hy.symm; have S0 : w.drew.cell? ⟨b, 0, none⟩ = some (.pointer (some ⟨bx, 0, none⟩)) := c0) | (go_at_call 121; refine ((HJ.out.low (Low.refl _ w).drew).callX HP.out).mono ?_; rintro e y1 ⟨rfl, j1, k1⟩; have S1 := j1.ptr0.1; have J1 := hid j1; have K1 : Hid (Kept (fun k => ¬ G k) w y1) := ((Kept.refl _ w).drew).trans k1 (fun _ f => f) (fun _ _ f => f); clear j1 k1))
    all_goals
      obtain ⟨Fq1, hq1, _⟩ := J1.out.q
      have HQ1 := hid hq1
      have lb1 := hq1.lt
      clear hq1 c0 lb
      go_upto_region 5 with (go_at_call 122; refine (allowedQ_any _ (node : Int) k HK6.out HQ1.out).mono ?_; rw [HA.out]; rintro e y2 ⟨rfl, hy⟩; obtain rfl := hy.symm)
      go_region_held3 (fun W' => W'.cell? ⟨b, 0, none⟩ = some (.pointer (some ⟨bx, 0, none⟩))) (first | assumption | go_keep)
        (first | (go_at_call 44; refine (HN.out _).mono ?_; rintro e y0 ⟨rfl, hy⟩; obtain rfl := hy.symm; have S0 : y1.drew.cell? ⟨b, 0, none⟩ = some (.pointer (some ⟨bx, 0, none⟩)) := S1) | (go_at_call 46; refine ((J1.out.low (Low.refl _ y1).drew).callX HP2.out).mono ?_; rintro e y3 ⟨rfl, j3, k3⟩; have S3 := j3.ptr0.1; have J3 := hid j3; have K3 : Hid (Kept (fun k => ¬ G k) w y3) := (K1.out.drew).trans k3 (fun _ f => f) (fun _ _ f => f); clear j3 k3))
      all_goals
        go_wp2_with fail
        go_ret
        exact ⟨by simp, J3.out, K3.out⟩
end Go.Proofs.YtphapknfkbgapaaDoor
