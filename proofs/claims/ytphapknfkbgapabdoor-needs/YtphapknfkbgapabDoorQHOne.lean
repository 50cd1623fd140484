import Derived.Test.YtphapknfkbgapabDoorQCToQG
import Derived.Test.YtphapknfkbgapabDoorPMToPF
namespace Go.Proofs.YtphapknfkbgapabDoor
open Go.RowKit

variable {G : Nat → Prop} {b bx S n : Nat} {R : Int} {key : ByteArray} {X : PS} {D : PD} {Q : Pods}

/-! begin. -/
theorem szO (e : AOp) : (Tryd.prog.info? 90).map (·.size) = some e.cells.length := show _ = some 4 by kernel_rfl
theorem AOp.one (e : AOp) : ∀ v ∈ e.cells, v.oneCell' = true := by simp [AOp.cells, Value.oneCell']
theorem stO {ops : Array Oper} {rest : List Oper} {d : Option Tmp} {t0 : TypeId} {pos : String} {after : Array Edge} {a : Act} {w : World} {Q : Exit → Act → World → Prop} (x y : Operand) (b : Nat) (old e : AOp)
    (hx : a.eval x = .pointer (some ⟨b, 0, none⟩)) (hy : a.eval y = .agg e.cells.toArray) (hB : Blk w b 90 old.cells)
    (h : ∀ w', Blk w' b 90 e.cells → Kept (fun k => k = b) w w' → w'.heap.size = w.heap.size → wpList Tryd.prog ops Q rest (a.put d undef) w') :
    wpList Tryd.prog ops Q ({ dst := d, op := .store 90 x y, type := t0, pos := pos, after := after, guard := none } :: rest) a w :=
  stBlk 90 x y b 90 old.cells e.cells hx hy hB rfl (szO e) e.one h
/-- What begin makes of an act: the deed and the operation. -/
structure BeginOk (a : AAct) (d : Dd) (o : AOp) : Prop where
  name : IsName d.path
  path : o.path = d.path
  put : a.k ≠ 2 → o.kind = 1 ∧ d.gone = false ∧ d.text = o.plain ∧ d.text.size ≤ 64
  del : a.k = 2 → o.kind = 2 ∧ d.gone = true ∧ d.text = ⟨#[]⟩ ∧ o.plain = ⟨#[]⟩
  rev : -1 ≤ o.rev
  neg : a.n < 0 → o.rev = -1
theorem BeginOk.proper {a : AAct} {d : Dd} {o : AOp} (h : BeginOk a d o) : properOf o = true := by
  have hp := isName_size h.name
  rw [← h.path] at hp
  unfold properOf isPath
  by_cases hk : a.k = 2
  · obtain ⟨k1, _, _, k4⟩ := h.del hk
    simp [k1, k4, h.rev, hp]
    exact ⟨by omega, rfl⟩
  · obtain ⟨k1, _, k3, k4⟩ := h.put hk
    rw [k3] at k4
    simp [k1, k4, h.rev, hp]
    omega
/-- What is there when the operation has been made: V the world; M, O the blocks of the deed and of the operation. -/
structure BeginAt (w V : World) (M O : Nat) (a : AAct) (d : Dd) (o : AOp) : Prop where
  low : Low w.heap.size w V
  m : w.heap.size < M
  om : M < O
  deed : Blk V M 38 d.cells
  op : Blk V O 90 o.cells
  ok : BeginOk a d o
/-- What begin leaves. -/
def BeginPost (N : ByteArray → Prop) (n : Nat) (X X' : PS) (D D' : PD) (S : Nat) (R : Int) (s : Nat) (a : AAct) : Prop :=
  Kn N (n + 1) X' D' S R ∧ (D'.deeds = D.deeds ∧ D'.floor = D.floor ∧ Still D D') ∧ SeenKept X X' ∧ (FreshAt X s → (∃ p', X'.servers[s]? = some p' ∧ p'.busy = true ∧ p'.epoch = X'.epoch ∧ (a.n < 0 → p'.rev = -1) ∧ (a.k ≠ 2 → p'.e.gone = false)) ∧ ∃ v, D'.ops[s]? = some v ∧ v.on = true)
set_option maxRecDepth 100000 in
set_option maxHeartbeats 4000000 in
theorem beginQ (w : World) (a : AAct) (ha : AOk a) (h : JQ w G b bx S R key X D Q) (k : Kn IsName n X D S R) (hn : n ≤ 1990000000000) {s : Nat} (hs : s < S) (hS : S ≤ 4) (hd : D.deeds.length ≤ 2000000000000) :
    Calls Tryd.prog 15 #[.pointer (some ⟨b, 0, none⟩), .int .i64 (s : Int), .agg #[.int .i64 a.kind, .int .i64 a.s, .int .i64 a.n, .int .i64 a.k, .string a.path, .string a.text, .bool a.on]] w fun e w' => e = .returned (.bool true) ∧ ∃ X' D', JQ w' G b bx S R key X' D' Q ∧ BeginPost IsName n X X' D D' S R s a ∧ Kept (fun k => ¬ G k) w w' := by
  have HJ := hid h
  have HK := hid k
  have HA := hid ha
  have hb0 : b < w.heap.size := by obtain ⟨Fq, hq, _⟩ := h.q; exact hq.lt
  have s4 : s < 4 := by omega
  have s4i : (s : Int) < 4 := by omega
  clear h k ha
  go_enter Tryd.func15, Tryd.ntmps15
  go_upto_region 2 with (go_at_call 33; refine (which_any _ _ HA.out.path).mono ?_; rintro e y1 ⟨wk, rfl, hwk, hy⟩; obtain rfl := hy.symm)
  go_name_world W hW
  have BA : Hid (Blk W w.heap.size 32 a.cells) := by
    show Blk W _ _ _
    rw [← hW]; exact Blk.new w 32 a.cells
  have LW : Hid (Low w.heap.size w W) := by
    show Low _ _ _
    rw [← hW]; exact (Low.refl _ w).alloc (Nat.le_refl _) _
  have a5 : W.cell? ⟨w.heap.size, 5, none⟩ = some (.string a.text) := BA.out.cell 5
  have lA := BA.out.lt
  clear hW
  go_cut [8] (fun mv wc => ∃ M t, mv = .pointer (some ⟨M, 0, none⟩) ∧ Hid (Low W.heap.size W wc ∧ W.heap.size ≤ M ∧ Blk wc M 38 (Dd.mk (nameOf wk) t false).cells ∧ t.size ≤ 64))
  case first =>
    go_region_with (first | (go_at_call 9; refine (name_any _ wk hwk).mono ?_; rintro e y2 ⟨rfl, hy⟩; obtain rfl := hy.symm) | (go_at_call 34; refine (cut_any _ _ _ (by omega)).mono ?_; rintro e y2 ⟨t, rfl, ht, hy⟩; obtain rfl := hy.symm))
    all_goals
      go_wp2_with fail
      go_meet
    all_goals exact ⟨_, t, rfl, ((Low.refl _ W).alloc (Nat.le_refl _) _).drew, Nat.le_refl _, (Blk.new W 38 (Dd.mk (nameOf wk) t false).cells).drew, by rw [ht]; exact Nat.le_trans (Nat.min_le_right _ _) (by decide)⟩
  case rest =>
    obtain ⟨M, t, rfl, HM⟩ := hcut
    obtain ⟨V0, hV0⟩ : ∃ V0, V0 = wc := ⟨_, rfl⟩
    subst hV0
    have BC : Hid (Blk V0 w.heap.size 32 a.cells) := BA.out.low HM.out.1 BA.out.lt
    have LC : Hid (Low w.heap.size w V0) := LW.out.trans (HM.out.1.mono LW.out.size)
    have p2 : V0.cell? ⟨w.heap.size, 2, none⟩ = some (.int .i64 a.n) := BC.out.cell 2
    have p3 : V0.cell? ⟨w.heap.size, 3, none⟩ = some (.int .i64 a.k) := BC.out.cell 3
    have m0 : V0.cell? ⟨M, 0, none⟩ = some (.string (nameOf wk)) := HM.out.2.2.1.cell 0
    have m1 : V0.cell? ⟨M, 1, none⟩ = some (.string t) := HM.out.2.2.1.cell 1
    have lM := HM.out.2.2.1.lt
    have lC := BC.out.lt
    have wM : w.heap.size < M := by have := HM.out.2.1; omega
    clear a5 lA
    go_upto_region 4 with fail
    go_name_world V hV
    have BO : Hid (Blk V V0.heap.size 90 (AOp.mk 1 (nameOf wk) t (-1)).cells) := by
      show Blk V _ _ _
      rw [← hV]; exact Blk.new V0 90 (AOp.mk 1 (nameOf wk) t (-1)).cells
    have LV : Hid (Low V0.heap.size V0 V) := by
      show Low _ _ _
      rw [← hV]; exact (Low.refl _ V0).alloc (Nat.le_refl _) _
    have BM : Hid (Blk V M 38 (Dd.mk (nameOf wk) t false).cells) := HM.out.2.2.1.low LV.out lM
    have BC2 : Hid (Blk V w.heap.size 32 a.cells) := BC.out.low LV.out lC
    have LwV : Hid (Low w.heap.size w V) := LC.out.trans (LV.out.mono LC.out.size)
    clear hV p2 p3 m0 m1 lM lC
    have p2 : V.cell? ⟨w.heap.size, 2, none⟩ = some (.int .i64 a.n) := BC2.out.cell 2
    have p3 : V.cell? ⟨w.heap.size, 3, none⟩ = some (.int .i64 a.k) := BC2.out.cell 3
    have m0 : V.cell? ⟨M, 0, none⟩ = some (.string (nameOf wk)) := BM.out.cell 0
    have lM := BM.out.lt
    have lC := BC2.out.lt
    have lO := BO.out.lt
    have MO : M < V0.heap.size := HM.out.2.2.1.lt
    have ht64 := HM.out.2.2.2
    cases qk : (a.k == 2)
    case' false =>
      go_upto_region 7 with fail
      obtain ⟨d, hdd⟩ : ∃ d, d = Dd.mk (nameOf wk) t false := ⟨_, rfl⟩
      obtain ⟨o, hoo⟩ : ∃ o, o = AOp.mk 1 (nameOf wk) t (-1) := ⟨_, rfl⟩
      have hk2 : a.k ≠ 2 := by simpa using qk
      have HB : Hid (BeginAt w V M V0.heap.size a d o) := ⟨LwV.out, wM, MO, by rw [hdd]; exact BM.out, by rw [hoo]; exact BO.out, by rw [hdd, hoo]; exact ⟨⟨wk, hwk, rfl⟩, rfl, fun _ => ⟨rfl, rfl, rfl, ht64⟩, fun q => absurd q hk2, Int.le_refl _, fun _ => rfl⟩⟩
      obtain ⟨U, hU⟩ : ∃ U, U = V := ⟨_, rfl⟩
      subst hU
      clear hdd hoo hk2 BM BO m0 p3 HM LC LV LwV BC BA LW ht64 hwk BC2 lM
    case' true =>
      go_upto_region 7 with (first | ((with_reducible refine stD (.tmp 8) (.tmp 32) M (Dd.mk (nameOf wk) t false) (Dd.mk (nameOf wk) ⟨#[]⟩ true) ?_ ?_ BM.out ?_); rfl; rfl; intro V2 b2 k2 s2; have BM2 := hid b2; have K2 := hid k2; have S2 := hid s2; have m0b : V2.cell? ⟨M, 0, none⟩ = some (.string (nameOf wk)) := b2.cell 0; have lM2 := b2.lt; clear b2 k2 s2 m0) | ((with_reducible refine stO (.tmp 9) (.tmp 35) V0.heap.size (AOp.mk 1 (nameOf wk) t (-1)) (AOp.mk 2 (nameOf wk) ⟨#[]⟩ (-1)) ?_ ?_ (BO.out.kept K2.out (by omega)) ?_); rfl; rfl; intro U b3 k3 s3; have BO3 := hid b3; have K3 := hid k3; have S3 := hid s3; clear b3 k3 s3))
      obtain ⟨d, hdd⟩ : ∃ d, d = Dd.mk (nameOf wk) ⟨#[]⟩ true := ⟨_, rfl⟩
      obtain ⟨o, hoo⟩ : ∃ o, o = AOp.mk 2 (nameOf wk) ⟨#[]⟩ (-1) := ⟨_, rfl⟩
      have hk2 : a.k = 2 := by simpa using qk
      have LU : Low w.heap.size w U := low_set (low_set LwV.out K2.out (by omega) LwV.out.size) K3.out (by omega) (by rw [S2.out]; exact LwV.out.size)
      have HB : Hid (BeginAt w U M V0.heap.size a d o) := ⟨LU, wM, MO, by rw [hdd]; exact BM2.out.kept K3.out (by omega), by rw [hoo]; exact BO3.out, by rw [hdd, hoo]; exact ⟨⟨wk, hwk, rfl⟩, rfl, fun q => absurd hk2 q, fun _ => ⟨rfl, rfl, rfl, rfl⟩, Int.le_refl _, fun _ => rfl⟩⟩
      have BCU : Blk U w.heap.size 32 a.cells := (BC2.out.kept K2.out (by omega)).kept K3.out (by omega)
      clear p2 lC lO
      have p2 : U.cell? ⟨w.heap.size, 2, none⟩ = some (.int .i64 a.n) := BCU.cell 2
      have lC := BCU.lt
      have lO := BO3.out.lt
      clear hdd hoo hk2 BM BO p3 HM LC LV LwV BC BA LW ht64 hwk BC2 BM2 K2 S2 K3 S3 BO3 BCU LU m0b lM2
    all_goals
      obtain ⟨Fq, hq, _⟩ := (HJ.out.low HB.out.low).q
      obtain ⟨a4, cap4, hc4, _⟩ := qin_deeds hq
      rw [List.length_map] at hc4
      have HQ := hid hq
      have lbU := hq.lt
      have m0 : U.cell? ⟨M, 0, none⟩ = some (.string d.path) := HB.out.deed.cell 0
      have lM := HB.out.deed.lt
      clear hq
      cases qn : decide (0 ≤ a.n)
      case' false =>
        go_upto_region 12 with fail
        obtain ⟨U2, hU2⟩ : ∃ U2, U2 = U := ⟨_, rfl⟩
        subst hU2
        obtain ⟨o2, ho2⟩ : ∃ o2, o2 = o := ⟨_, rfl⟩
        subst ho2
        have HB2 := hid HB.out
        clear hc4 m0 p2
      case' true =>
        have n0 : 0 ≤ a.n := by simpa using qn
        have n1 := HA.out.n.2
        have HNW : Hid (∀ y : World, Low U.heap.size U y → Calls Tryd.prog 35 #[.pointer (some ⟨b, 0, none⟩), .string d.path, .int .i64 (D.deeds.length : Int)] y fun e w' => ∃ (r : Nat) (d2 : Dd), e = .returned (.tuple #[.agg #[.string d2.path, .string d2.text, .bool d2.gone], .int .i64 (r : Int)]) ∧ NewD D.deeds d.path r d2 ∧ Low U.heap.size U w' ∧ Low y.heap.size y w') := fun y hy => by
          refine (newestD_any y d.path D.deeds.length (HQ.out.low hy) (Nat.le_refl _) (by omega)).mono ?_
          rintro e w' ⟨r, d2, h1, h2, h3⟩
          rw [List.take_length] at h2
          exact ⟨r, d2, h1, h2, hy.trans (h3.mono hy.size), h3⟩
        go_upto_region 8 with fail
        go_cut [11] (fun rv wc => ∃ (r : Nat) (d2 : Dd), rv = .int .i64 (r : Int) ∧ Hid (NewD D.deeds d.path r d2 ∧ Low U.heap.size U wc))
        case first =>
          go_region_with (first | (go_at_call 35; refine (HNW.out _ (Low.refl _ U).drew).mono ?_; rintro e y2 ⟨r, d2, rfl, hN, l2, l3⟩; have LL2 := hid l2; have HN2 := hid hN; clear l2 hN l3) | (go_at_call 35; refine (HNW.out _ ((Low.refl _ U).alloc (Nat.le_refl _) _).drew).mono ?_; rintro e y2 ⟨r, d2, rfl, hN, l2, l3⟩; have LL2 := hid l2; have HN2 := hid hN; have bz : Blk y2 U.heap.size 38 Dd.zero.cells := (Blk.new U 38 Dd.zero.cells).drew.low l3 (by simp); have z0 : y2.cell? ⟨U.heap.size, 0, none⟩ = some (.string ⟨#[]⟩) := bz.cell 0; have z1 : y2.cell? ⟨U.heap.size, 1, none⟩ = some (.string ⟨#[]⟩) := bz.cell 1; have z2 : y2.cell? ⟨U.heap.size, 2, none⟩ = some (.bool false) := bz.cell 2; have g0 := bz.frozen 0; have g1 := bz.frozen 1; have g2 := bz.frozen 2; clear l2 hN l3 bz))
          all_goals
            go_wp2_with fail
            go_meet
          all_goals first | exact ⟨r, d2, rfl, HN2.out, LL2.out.alloc LL2.out.size _⟩ | exact ⟨r, d2, rfl, HN2.out, ((LL2.out.setCell (Nat.le_refl _) _).setCell (Nat.le_refl _) _).setCell (Nat.le_refl _) _⟩
        case' rest =>
          obtain ⟨r, d2, rfl, HN⟩ := hcut
          have hr : r ≤ D.deeds.length := by
            rcases HN.out.1 with ⟨rfl, _⟩ | ⟨i, rfl, hi, _⟩
            · exact Nat.zero_le _
            · exact (List.getElem?_eq_some_iff.1 hi).1
          have BZ : Hid (BeginAt w wc M V0.heap.size a d o) := ⟨HB.out.low.trans (HN.out.2.mono HB.out.low.size), HB.out.m, HB.out.om, HB.out.deed.low HN.out.2 HB.out.deed.lt, HB.out.op.low HN.out.2 HB.out.op.lt, HB.out.ok⟩
          have p2z : wc.cell? ⟨w.heap.size, 2, none⟩ = some (.int .i64 a.n) := (HN.out.2.cell (by exact lC)).trans p2
          have o3 : wc.cell? ⟨V0.heap.size, 3, none⟩ = some (.int .i64 o.rev) := BZ.out.op.cell 3
          have f3 := BZ.out.op.frozen 3
          have lOz := BZ.out.op.lt
          have lCz : w.heap.size < wc.heap.size := Nat.lt_of_lt_of_le lC HN.out.2.size
          have ne : V0.heap.size ≠ w.heap.size := by omega
          clear hc4 m0 p2
          have md := Int.emod_two_eq a.n
          go_upto_region 10 with fail
          go_name_world Z hZ
          have BO2 : Hid (Blk Z V0.heap.size 90 (AOp.mk o.kind o.path o.plain ((r : Int) - a.n % 2)).cells) := by
            show Blk Z _ _ _
            rw [← hZ]; exact BZ.out.op.set 3 _
          have BD2 : Hid (Blk Z M 38 d.cells) := by
            show Blk Z _ _ _
            rw [← hZ]; exact BZ.out.deed.setOther (by have := BZ.out.om; show M ≠ V0.heap.size; omega) _
          have LZ : Hid (Low w.heap.size w Z) := by
            show Low _ _ _
            rw [← hZ]; exact BZ.out.low.setCell (by have := BZ.out.om; have := BZ.out.m; show w.heap.size ≤ V0.heap.size; omega) _
          have r3 : Z.cell? ⟨V0.heap.size, 3, none⟩ = some (.int .i64 ((r : Int) - a.n % 2)) := BO2.out.cell 3
          have g3 := BO2.out.frozen 3
          have lOZ := BO2.out.lt
          clear hZ o3 f3 lOz p2z
          by_cases hneg : (r : Int) - a.n % 2 < 0
          case' pos =>
            have qz : decide ((r : Int) - a.n % 2 < 0) = true := by simpa using hneg
            go_upto_region 12 with fail
            go_name_world U2 hU2
            obtain ⟨o2, ho2⟩ : ∃ o2, o2 = AOp.mk o.kind o.path o.plain 0 := ⟨_, rfl⟩
            have HB2 : Hid (BeginAt w U2 M V0.heap.size a d o2) := by
              show BeginAt w U2 M V0.heap.size a d o2
              rw [← hU2, ho2]
              exact ⟨LZ.out.setCell (by have := BZ.out.om; have := BZ.out.m; show w.heap.size ≤ V0.heap.size; omega) _, BZ.out.m, BZ.out.om, BD2.out.setOther (by have := BZ.out.om; show M ≠ V0.heap.size; omega) _, BO2.out.set 3 _, ⟨BZ.out.ok.name, BZ.out.ok.path, BZ.out.ok.put, BZ.out.ok.del, by show (-1 : Int) ≤ 0; omega, fun q => absurd n0 (by omega)⟩⟩
            clear hU2 ho2
          case' neg =>
            have qz : decide ((r : Int) - a.n % 2 < 0) = false := by simpa using hneg
            go_upto_region 12 with fail
            obtain ⟨o2, ho2⟩ : ∃ o2, o2 = AOp.mk o.kind o.path o.plain ((r : Int) - a.n % 2) := ⟨_, rfl⟩
            obtain ⟨U2, hU2⟩ : ∃ U2, U2 = Z := ⟨_, rfl⟩
            subst hU2
            have HB2 : Hid (BeginAt w U2 M V0.heap.size a d o2) := by
              show BeginAt w U2 M V0.heap.size a d o2
              rw [ho2]
              exact ⟨LZ.out, BZ.out.m, BZ.out.om, BD2.out, BO2.out, ⟨BZ.out.ok.name, BZ.out.ok.path, BZ.out.ok.put, BZ.out.ok.del, by show (-1 : Int) ≤ (r : Int) - a.n % 2; omega, fun q => absurd n0 (by omega)⟩⟩
            clear ho2
          all_goals clear BO2 BD2 LZ r3 g3 lOZ BZ HN hr md n0 n1
      all_goals
        have hok := HB2.out.ok
        have hpz := isName_size hok.name
        have hplain : o2.plain.size ≤ 64 := by
          by_cases q : a.k = 2
          · rw [(hok.del q).2.2.2]; decide
          · obtain ⟨_, _, q3, q4⟩ := hok.put q
            rw [← q3]; exact q4
        obtain ⟨er, X', hP, hsk, hfr, v, hv, hcs⟩ := kn_begin HK.out (by omega) hs o2 d (by rw [hok.path]; unfold maxLen; omega) (by unfold maxLen; omega) hok.proper hok.path hok.name (fun q => by
            by_cases hk2 : a.k = 2
            · rw [(hok.del hk2).1] at q; cases q
            · obtain ⟨_, q2, q3, _⟩ := hok.put hk2
              exact ⟨q2, q3⟩) (fun q => by
            by_cases hk2 : a.k = 2
            · obtain ⟨_, q2, q3, _⟩ := hok.del hk2
              exact ⟨q2, q3⟩
            · rw [(hok.put hk2).1] at q; cases q)
        have JU : Hid (JQ U2 (fun i => G i ∨ (w.heap.size ≤ i ∧ i < U2.heap.size)) b bx S R key X D Q) := HJ.out.wide HB2.out.low
        obtain ⟨Fq2, hq2, _⟩ := JU.out.q
        have c0 := qin_ptr hq2
        have lb2 := hq2.lt
        have z0 : U2.cell? ⟨V0.heap.size, 0, none⟩ = some (.int .i64 o2.kind) := HB2.out.op.cell 0
        have z1 : U2.cell? ⟨V0.heap.size, 1, none⟩ = some (.string o2.path) := HB2.out.op.cell 1
        have z2 : U2.cell? ⟨V0.heap.size, 2, none⟩ = some (.string o2.plain) := HB2.out.op.cell 2
        have z3 : U2.cell? ⟨V0.heap.size, 3, none⟩ = some (.int .i64 o2.rev) := HB2.out.op.cell 3
        have lO2 := HB2.out.op.lt
        have HP := hid hP
        have HFR := hid hfr
        have HSK := hid hsk
        have HV := hid hv
        have HCS := hid hcs
        have HOK := hid hok
        clear hP hfr hsk hv hcs hok hq2 hpz hplain
        go_region_held3 (fun W' => W'.cell? ⟨b, 0, none⟩ = some (.pointer (some ⟨bx, 0, none⟩)) ∧ W'.cell? ⟨V0.heap.size, 0, none⟩ = some (.int .i64 o2.kind) ∧ W'.cell? ⟨V0.heap.size, 1, none⟩ = some (.string o2.path) ∧ W'.cell? ⟨V0.heap.size, 2, none⟩ = some (.string o2.plain) ∧ W'.cell? ⟨V0.heap.size, 3, none⟩ = some (.int .i64 o2.rev)) (first | assumption | go_keep)
          (first | (go_at_call 36; refine ((JU.out.low (Low.refl _ U2).drew).callX HP.out).mono ?_; rintro e y5 ⟨rfl, j5, k5⟩; have KO : ∀ q x, U2.cell? ⟨V0.heap.size, q, none⟩ = some x → y5.cell? ⟨V0.heap.size, q, none⟩ = some x := fun q x hx => k5.cell (by exact hx) (fun f => f (Or.inr ⟨by have := HB2.out.om; have := HB2.out.m; show w.heap.size ≤ V0.heap.size; omega, lO2⟩)); have S5 : y5.cell? ⟨b, 0, none⟩ = some (.pointer (some ⟨bx, 0, none⟩)) ∧ y5.cell? ⟨V0.heap.size, 0, none⟩ = some (.int .i64 o2.kind) ∧ y5.cell? ⟨V0.heap.size, 1, none⟩ = some (.string o2.path) ∧ y5.cell? ⟨V0.heap.size, 2, none⟩ = some (.string o2.plain) ∧ y5.cell? ⟨V0.heap.size, 3, none⟩ = some (.int .i64 o2.rev) := ⟨by obtain ⟨Fq5, hq5, _⟩ := j5.q; exact qin_ptr hq5, KO 0 _ z0, KO 1 _ z1, KO 2 _ z2, KO 3 _ z3⟩; have J5 := hid j5; have K5 := hid k5; clear j5 k5 KO))
        obtain ⟨Fq5, hq5, _⟩ := J5.out.q
        have u0 : y5.cell? ⟨b, 6 + s * 4, none⟩ = some (.bool v.on) := qin_op hq5 HV.out (j := 0) (by omega)
        have u1 : y5.cell? ⟨b, 6 + s * 4 + 1, none⟩ = some (.string v.deed.path) := qin_op hq5 HV.out (j := 1) (by omega)
        have u2 : y5.cell? ⟨b, 6 + s * 4 + 2, none⟩ = some (.string v.deed.text) := qin_op hq5 HV.out (j := 2) (by omega)
        have u3 : y5.cell? ⟨b, 6 + s * 4 + 3, none⟩ = some (.bool v.deed.gone) := qin_op hq5 HV.out (j := 3) (by omega)
        have w0 := hq5.frozen (6 + s * 4)
        have w1 := hq5.frozen (6 + s * 4 + 1)
        have w2 := hq5.frozen (6 + s * 4 + 2)
        have w3 := hq5.frozen (6 + s * 4 + 3)
        have lb5 := hq5.lt
        have K6 : Hid (Kept (fun k => ¬ (G k ∨ (w.heap.size ≤ k ∧ k < U2.heap.size))) U2 y5) := ⟨K5.out.os, K5.out.output, K5.out.size, K5.out.block⟩
        have B5 : Hid (Blk y5 M 38 d.cells) := HB2.out.deed.kept K6.out (fun f => f (Or.inr ⟨by have := HB2.out.m; omega, HB2.out.deed.lt⟩))
        have d0 : y5.cell? ⟨M, 0, none⟩ = some (.string d.path) := B5.out.cell 0
        have d1 : y5.cell? ⟨M, 1, none⟩ = some (.string d.text) := B5.out.cell 1
        have d2 : y5.cell? ⟨M, 2, none⟩ = some (.bool d.gone) := B5.out.cell 2
        have lM5 := B5.out.lt
        have KW : Hid (Kept (fun k => ¬ G k) w y5) := HB2.out.low.kept.trans K6.out (fun _ f => f.elim) (fun _ _ f g => f (Or.inl g))
        have g0 : Hid (G 0) := by obtain ⟨_, _, q⟩ := HJ.out; exact q.g0
        clear S5 c0 z0 z1 z2 z3 hq5
        rcases HCS.out with ⟨rfl, hon, hk⟩ | ⟨her, hk⟩
        · rw [hon] at u0
          have HKN := hid hk
          clear hk HCS
          go_upto_region 16 with fail
          go_region
          all_goals go_wp2_with fail
          all_goals go_ret
          all_goals
            obtain ⟨r1, r2⟩ := J5.out.setOp s4 ⟨true, d⟩
            refine ⟨rfl, X', { D with ops := D.ops.set s ⟨true, d⟩ }, (r1.low (Low.refl _ _).drew).weak (fun _ g => Or.inl g) g0.out, ⟨HKN.out, ⟨rfl, rfl, rfl, rfl⟩, HSK.out, fun hf => ?_⟩, (KW.out.trans r2 (H := fun k => ¬ G k) (fun _ f => f) (fun _ _ f g => f (Or.inl g))).drew⟩
            obtain ⟨_, p', q1, q2, q3, q4, q5⟩ := HFR.out hf
            exact ⟨⟨p', q1, q2, q3, fun hn => by rw [q4]; exact HOK.out.neg hn, fun hk => by rw [q5]; exact (HOK.out.put hk).2.1⟩, ⟨true, d⟩, List.getElem?_set_self (List.getElem?_eq_some_iff.1 HV.out).1, rfl⟩
        · have HKN := hid hk
          clear hk HCS
          rcases her with rfl | rfl | ⟨rfl, hon⟩
          · go_wp2_with fail
            go_ret
            exact ⟨rfl, X', D, J5.out.weak (fun _ g => Or.inl g) g0.out, ⟨HKN.out, ⟨rfl, rfl, rfl, rfl⟩, HSK.out, fun hf => absurd (HFR.out hf).1 (by decide)⟩, KW.out⟩
          · go_wp2_with fail
            go_ret
            exact ⟨rfl, X', D, J5.out.weak (fun _ g => Or.inl g) g0.out, ⟨HKN.out, ⟨rfl, rfl, rfl, rfl⟩, HSK.out, fun hf => absurd (HFR.out hf).1 (by decide)⟩, KW.out⟩
          · rw [hon] at u0
            go_wp2_with fail
            go_ret
            exact ⟨rfl, X', D, J5.out.weak (fun _ g => Or.inl g) g0.out, ⟨HKN.out, ⟨rfl, rfl, rfl, rfl⟩, HSK.out, fun hf => absurd (HFR.out hf).1 (by decide)⟩, KW.out⟩
end Go.Proofs.YtphapknfkbgapabDoor
