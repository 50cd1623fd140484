import Derived.Test.YtphapknfkbgapaaDoorPlIToQF
import Derived.Deep.DeepCutAuto
import Derived.Test.YtphapknfkbgapaaDoorPMToPF
namespace Go.Proofs.YtphapknfkbgapaaDoor
open Go.RowKit

variable {G : Nat → Prop} {b bx S n : Nat} {R : Int} {key : ByteArray} {X : PS} {D : PD} {Q : Pods}

/-! which; an act. -/
structure AAct where
  kind : Int
  s : Int
  n : Int
  k : Int
  path : ByteArray
  text : ByteArray
  on : Bool
def AAct.cells (a : AAct) : List Value := [.int .i64 a.kind, .int .i64 a.s, .int .i64 a.n, .int .i64 a.k, .string a.path, .string a.text, .bool a.on]
def i64 (c : Int) : Prop := -9223372036854775808 ≤ c ∧ c ≤ 9223372036854775807
structure AOk (a : AAct) : Prop where
  kind : i64 a.kind
  s : i64 a.s
  n : i64 a.n
  k : i64 a.k
  path : a.path.size ≤ 140737488355328
  text : a.text.size ≤ 140737488355328
set_option maxRecDepth 100000 in
set_option maxHeartbeats 1000000 in
theorem which_any (w : World) (p : ByteArray) (hp : p.size ≤ 140737488355328) : Calls Tryd.prog 48 #[.string p] w fun e w' => ∃ k : Nat, e = .returned (.int .i64 (k : Int)) ∧ k < 6 ∧ w' = w := by
  go_enter Tryd.func48, Tryd.ntmps48
  go_wp2_with fail
  go_loopg [3, 4] p.size (fun left nv iv wr => ∃ (i : Nat) (m : Int), left = p.size - i ∧ i ≤ p.size ∧ nv = .int .i64 m ∧ iv = .int .i64 (i : Int) ∧ Hid (0 ≤ m ∧ m ≤ 3 * (p.size : Int) + 255 * (i : Int)) ∧ w = wr)
  case atStart => exact ⟨0, 3 * (p.size : Int), rfl, Nat.zero_le _, rfl, rfl, ⟨by omega, by omega⟩, rfl⟩
  case round =>
    obtain ⟨i, m, hgk, hi, rfl, rfl, HM, rfl⟩ := hrel
    have HGK := hid hgk
    clear hgk
    by_cases h3 : i < p.size
    · have q1 : decide ((i : Int) < (p.size : Int)) = true := by simp; omega
      have il : (i : Int) < (p.size : Int) := by omega
      go_wp2_with fail
      go_roundg (p.size - (i + 1))
      case rel =>
        obtain ⟨hm0, hm1⟩ := HM.out
        have hb := UInt8.toNat_lt (p[i]'h3)
        have e1 : wrap64 ((p[i]'h3).toNat : Int) = ((p[i]'h3).toNat : Int) := by unfold wrap64; omega
        have e2 : wrap64 (m + ((p[i]'h3).toNat : Int)) = m + ((p[i]'h3).toNat : Int) := by unfold wrap64; omega
        refine ⟨i + 1, m + ((p[i]'h3).toNat : Int), rfl, by omega, by rw [e1, e2], by simp, ⟨by omega, by omega⟩, rfl⟩
      case measure => have := HGK.out; omega
    · have q1 : decide ((i : Int) < (p.size : Int)) = false := by simp; omega
      have hm0 : 0 ≤ m := HM.out.1
      have hm1 : m ≤ 9223372036854775807 := by have := HM.out.2; omega
      go_wp2_with (go_at_call 18; refine (pick_some _ _ _ (by omega) (by omega) (by omega) hm1).mono ?_; rintro e y1 ⟨r, rfl, hr, hy⟩; obtain rfl := hy.symm)
      go_ret
      exact ⟨r, rfl, by omega, rfl⟩
end Go.Proofs.YtphapknfkbgapaaDoor
namespace Go.Proofs.YtphapknfkbgapaaDoor
open Go.RowKit

variable {G : Nat → Prop} {b bx S n : Nat} {R : Int} {key : ByteArray} {X : PS} {D : PD} {Q : Pods}

/-! begin. -/
theorem szO (e : AOp) : (Tryd.prog.info? 88).map (·.size) = some e.cells.length := show _ = some 4 by kernel_rfl
theorem AOp.one (e : AOp) : ∀ v ∈ e.cells, v.oneCell' = true := by simp [AOp.cells, Value.oneCell']
theorem stO {ops : Array Oper} {rest : List Oper} {d : Option Tmp} {t0 : TypeId} {pos : String} {after : Array Edge} {a : Act} {w : World} {Q : Exit → Act → World → Prop} (x y : Operand) (b : Nat) (old e : AOp)
    (hx : a.eval x = .pointer (some ⟨b, 0, none⟩)) (hy : a.eval y = .agg e.cells.toArray) (hB : Blk w b 88 old.cells)
    (h : ∀ w', Blk w' b 88 e.cells → Kept (fun k => k = b) w w' → w'.heap.size = w.heap.size → wpList Tryd.prog ops Q rest (a.put d undef) w') :
    wpList Tryd.prog ops Q ({ dst := d, op := .store 88 x y, type := t0, pos := pos, after := after, guard := none } :: rest) a w :=
  stBlk 88 x y b 88 old.cells e.cells hx hy hB rfl (szO e) e.one h
/-- What begin makes of an act: the deed and the operation. -/
structure BeginOk (a : AAct) (d : Dd) (o : AOp) : Prop where
  name : IsName d.path
  path : o.path = d.path
  put : a.k ≠ 2 → o.kind = 1 ∧ d.gone = false ∧ d.text = o.plain ∧ d.text.size ≤ 64
  del : a.k = 2 → o.kind = 2 ∧ d.gone = true ∧ d.text = ⟨#[]⟩ ∧ o.plain = ⟨#[]⟩
  rev : -1 ≤ o.rev
  neg : a.n < 0 → o.rev = -1
theorem BeginOk.proper {a : AAct} {d : Dd} {o : AOp} (h : BeginOk a d o) : properOf o = true := by
  have hp := isName_size h.name
  rw [← h.path] at hp
  unfold properOf isPath
  by_cases hk : a.k = 2
  · obtain ⟨k1, _, _, k4⟩ := h.del hk
    simp [k1, k4, h.rev, hp]
    exact ⟨by omega, rfl⟩
  · obtain ⟨k1, _, k3, k4⟩ := h.put hk
    rw [k3] at k4
    simp [k1, k4, h.rev, hp]
    omega
/-- What is there when the operation has been made: V the world; M, O the blocks of the deed and of the operation. -/
structure BeginAt (w V : World) (M O : Nat) (a : AAct) (d : Dd) (o : AOp) : Prop where
  low : Low w.heap.size w V
  m : w.heap.size < M
  om : M < O
  deed : Blk V M 43 d.cells
  op : Blk V O 88 o.cells
  ok : BeginOk a d o
/-- What begin leaves. -/
def BeginPost (N : ByteArray → Prop) (n : Nat) (X X' : PS) (D D' : PD) (S : Nat) (R : Int) (s : Nat) (a : AAct) : Prop :=
  Kn N (n + 1) X' D' S R ∧ (D'.deeds = D.deeds ∧ Still D D') ∧ (FreshAt X s → (∃ p', X'.servers[s]? = some p' ∧ p'.busy = true ∧ p'.epoch = X'.epoch ∧ (a.n < 0 → p'.rev = -1) ∧ (a.k ≠ 2 → p'.e.gone = false)) ∧ ∃ v, D'.ops[s]? = some v ∧ v.on = true)
set_option maxRecDepth 100000 in
set_option maxHeartbeats 4000000 in
theorem beginQ (w : World) (a : AAct) (ha : AOk a) (h : JQ w G b bx S R key X D Q) (k : Kn IsName n X D S R) (hn : n ≤ 40000000) {s : Nat} (hs : s < S) (hS : S ≤ 4) (hd : D.deeds.length ≤ 100000000) :
    Calls Tryd.prog 23 #[.pointer (some ⟨b, 0, none⟩), .int .i64 (s : Int), .agg #[.int .i64 a.kind, .int .i64 a.s, .int .i64 a.n, .int .i64 a.k, .string a.path, .string a.text, .bool a.on]] w fun e w' => e = .returned (.bool true) ∧ ∃ X' D', JQ w' G b bx S R key X' D' Q ∧ BeginPost IsName n X X' D D' S R s a ∧ Kept (fun k => ¬ G k) w w' := by
  have HJ := hid h
  have HK := hid k
  have HA := hid ha
  have hb0 : b < w.heap.size := by obtain ⟨Fq, hq, _⟩ := h.q; exact hq.lt
  have s4 : s < 4 := by omega
  have s4i : (s : Int) < 4 := by omega
  clear h k ha
  go_enter Tryd.func23, Tryd.ntmps23
  go_upto_region 2 with (go_at_call 48; refine (which_any _ _ HA.out.path).mono ?_; rintro e y1 ⟨wk, rfl, hwk, hy⟩; obtain rfl := hy.symm)
  go_name_world W hW
  have BA : Hid (Blk W w.heap.size 57 a.cells) := by
    show Blk W _ _ _
    rw [← hW]; exact Blk.new w 57 a.cells
  have LW : Hid (Low w.heap.size w W) := by
    show Low _ _ _
    rw [← hW]; exact (Low.refl _ w).alloc (Nat.le_refl _) _
  have a5 : W.cell? ⟨w.heap.size, 5, none⟩ = some (.string a.text) := BA.out.cell 5
  have lA := BA.out.lt
  clear hW
  go_cut [8] (fun mv wc => ∃ M t, mv = .pointer (some ⟨M, 0, none⟩) ∧ Hid (Low W.heap.size W wc ∧ W.heap.size ≤ M ∧ Blk wc M 43 (Dd.mk (nameOf wk) t false).cells ∧ t.size ≤ 64))
  case first =>
    go_region_with (first | (go_at_call 44; refine (name_any _ wk hwk).mono ?_; rintro e y2 ⟨rfl, hy⟩; obtain rfl := hy.symm) | (go_at_call 16; refine (cut_any _ _ _ (by omega)).mono ?_; rintro e y2 ⟨t, rfl, ht, hy⟩; obtain rfl := hy.symm))
    all_goals
      go_wp2_with fail
      go_meet
    all_goals exact ⟨_, t, rfl, ((Low.refl _ W).alloc (Nat.le_refl _) _).drew, Nat.le_refl _, (Blk.new W 43 (Dd.mk (nameOf wk) t false).cells).drew, by rw [ht]; exact Nat.le_trans (Nat.min_le_right _ _) (by decide)⟩
  case rest =>
    obtain ⟨M, t, rfl, HM⟩ := hcut
    obtain ⟨V0, hV0⟩ : ∃ V0, V0 = wc := ⟨_, rfl⟩
    subst hV0
    have BC : Hid (Blk V0 w.heap.size 57 a.cells) := BA.out.low HM.out.1 BA.out.lt
    have LC : Hid (Low w.heap.size w V0) := LW.out.trans (HM.out.1.mono LW.out.size)
    have p2 : V0.cell? ⟨w.heap.size, 2, none⟩ = some (.int .i64 a.n) := BC.out.cell 2
    have p3 : V0.cell? ⟨w.heap.size, 3, none⟩ = some (.int .i64 a.k) := BC.out.cell 3
    have m0 : V0.cell? ⟨M, 0, none⟩ = some (.string (nameOf wk)) := HM.out.2.2.1.cell 0
    have m1 : V0.cell? ⟨M, 1, none⟩ = some (.string t) := HM.out.2.2.1.cell 1
    have lM := HM.out.2.2.1.lt
    have lC := BC.out.lt
    have wM : w.heap.size < M := by have := HM.out.2.1; omega
    clear a5 lA
    go_upto_region 4 with fail
    go_name_world V hV
    have BO : Hid (Blk V V0.heap.size 88 (AOp.mk 1 (nameOf wk) t (-1)).cells) := by
      show Blk V _ _ _
      rw [← hV]; exact Blk.new V0 88 (AOp.mk 1 (nameOf wk) t (-1)).cells
    have LV : Hid (Low V0.heap.size V0 V) := by
      show Low _ _ _
      rw [← hV]; exact (Low.refl _ V0).alloc (Nat.le_refl _) _
    have BM : Hid (Blk V M 43 (Dd.mk (nameOf wk) t false).cells) := HM.out.2.2.1.low LV.out lM
    have BC2 : Hid (Blk V w.heap.size 57 a.cells) := BC.out.low LV.out lC
    have LwV : Hid (Low w.heap.size w V) := LC.out.trans (LV.out.mono LC.out.size)
    clear hV p2 p3 m0 m1 lM lC
    have p2 : V.cell? ⟨w.heap.size, 2, none⟩ = some (.int .i64 a.n) := BC2.out.cell 2
    have p3 : V.cell? ⟨w.heap.size, 3, none⟩ = some (.int .i64 a.k) := BC2.out.cell 3
    have m0 : V.cell? ⟨M, 0, none⟩ = some (.string (nameOf wk)) := BM.out.cell 0
    have lM := BM.out.lt
    have lC := BC2.out.lt
    have lO := BO.out.lt
    have MO : M < V0.heap.size := HM.out.2.2.1.lt
    have ht64 := HM.out.2.2.2
    cases qk : (a.k == 2)
    case' false =>
      go_upto_region 7 with fail
      obtain ⟨d, hdd⟩ : ∃ d, d = Dd.mk (nameOf wk) t false := ⟨_, rfl⟩
      obtain ⟨o, hoo⟩ : ∃ o, o = AOp.mk 1 (nameOf wk) t (-1) := ⟨_, rfl⟩
      have hk2 : a.k ≠ 2 := by simpa using qk
      have HB : Hid (BeginAt w V M V0.heap.size a d o) := ⟨LwV.out, wM, MO, by rw [hdd]; exact BM.out, by rw [hoo]; exact BO.out, by rw [hdd, hoo]; exact ⟨⟨wk, hwk, rfl⟩, rfl, fun _ => ⟨rfl, rfl, rfl, ht64⟩, fun q => absurd q hk2, Int.le_refl _, fun _ => rfl⟩⟩
      obtain ⟨U, hU⟩ : ∃ U, U = V := ⟨_, rfl⟩
      subst hU
      clear hdd hoo hk2 BM BO m0 p3 HM LC LV LwV BC BA LW ht64 hwk BC2 lM
    case' true =>
      go_upto_region 7 with (first | ((with_reducible refine stD (.tmp 8) (.tmp 32) M (Dd.mk (nameOf wk) t false) (Dd.mk (nameOf wk) ⟨#[]⟩ true) ?_ ?_ BM.out ?_); rfl; rfl; intro V2 b2 k2 s2; have BM2 := hid b2; have K2 := hid k2; have S2 := hid s2; have m0b : V2.cell? ⟨M, 0, none⟩ = some (.string (nameOf wk)) := b2.cell 0; have lM2 := b2.lt; clear b2 k2 s2 m0) | ((with_reducible refine stO (.tmp 9) (.tmp 35) V0.heap.size (AOp.mk 1 (nameOf wk) t (-1)) (AOp.mk 2 (nameOf wk) ⟨#[]⟩ (-1)) ?_ ?_ (BO.out.kept K2.out (by omega)) ?_); rfl; rfl; intro U b3 k3 s3; have BO3 := hid b3; have K3 := hid k3; have S3 := hid s3; clear b3 k3 s3))
      obtain ⟨d, hdd⟩ : ∃ d, d = Dd.mk (nameOf wk) ⟨#[]⟩ true := ⟨_, rfl⟩
      obtain ⟨o, hoo⟩ : ∃ o, o = AOp.mk 2 (nameOf wk) ⟨#[]⟩ (-1) := ⟨_, rfl⟩
      have hk2 : a.k = 2 := by simpa using qk
      have LU : Low w.heap.size w U := low_set (low_set LwV.out K2.out (by omega) LwV.out.size) K3.out (by omega) (by rw [S2.out]; exact LwV.out.size)
      have HB : Hid (BeginAt w U M V0.heap.size a d o) := ⟨LU, wM, MO, by rw [hdd]; exact BM2.out.kept K3.out (by omega), by rw [hoo]; exact BO3.out, by rw [hdd, hoo]; exact ⟨⟨wk, hwk, rfl⟩, rfl, fun q => absurd hk2 q, fun _ => ⟨rfl, rfl, rfl, rfl⟩, Int.le_refl _, fun _ => rfl⟩⟩
      have BCU : Blk U w.heap.size 57 a.cells := (BC2.out.kept K2.out (by omega)).kept K3.out (by omega)
      clear p2 lC lO
      have p2 : U.cell? ⟨w.heap.size, 2, none⟩ = some (.int .i64 a.n) := BCU.cell 2
      have lC := BCU.lt
      have lO := BO3.out.lt
      clear hdd hoo hk2 BM BO p3 HM LC LV LwV BC BA LW ht64 hwk BC2 BM2 K2 S2 K3 S3 BO3 BCU LU m0b lM2
    all_goals
      obtain ⟨Fq, hq, _⟩ := (HJ.out.low HB.out.low).q
      obtain ⟨a4, cap4, hc4, _⟩ := qin_deeds hq
      rw [List.length_map] at hc4
      have HQ := hid hq
      have lbU := hq.lt
      have m0 : U.cell? ⟨M, 0, none⟩ = some (.string d.path) := HB.out.deed.cell 0
      have lM := HB.out.deed.lt
      clear hq
      cases qn : decide (0 ≤ a.n)
      case' false =>
        go_upto_region 12 with fail
        obtain ⟨U2, hU2⟩ : ∃ U2, U2 = U := ⟨_, rfl⟩
        subst hU2
        obtain ⟨o2, ho2⟩ : ∃ o2, o2 = o := ⟨_, rfl⟩
        subst ho2
        have HB2 := hid HB.out
        clear hc4 m0 p2
      case' true =>
        have n0 : 0 ≤ a.n := by simpa using qn
        have n1 := HA.out.n.2
        have HNW : Hid (∀ y : World, Low U.heap.size U y → Calls Tryd.prog 45 #[.pointer (some ⟨b, 0, none⟩), .string d.path, .int .i64 (D.deeds.length : Int)] y fun e w' => ∃ (r : Nat) (d2 : Dd), e = .returned (.tuple #[.agg #[.string d2.path, .string d2.text, .bool d2.gone], .int .i64 (r : Int)]) ∧ NewD D.deeds d.path r d2 ∧ Low U.heap.size U w' ∧ Low y.heap.size y w') := fun y hy => by
          refine (newestD_any y d.path D.deeds.length (HQ.out.low hy) (Nat.le_refl _) (by omega)).mono ?_
          rintro e w' ⟨r, d2, h1, h2, h3⟩
          rw [List.take_length] at h2
          exact ⟨r, d2, h1, h2, hy.trans (h3.mono hy.size), h3⟩
        go_upto_region 8 with fail
        go_cut [11] (fun rv wc => ∃ (r : Nat) (d2 : Dd), rv = .int .i64 (r : Int) ∧ Hid (NewD D.deeds d.path r d2 ∧ Low U.heap.size U wc))
        case first =>
          go_region_with (first | (go_at_call 45; refine (HNW.out _ (Low.refl _ U).drew).mono ?_; rintro e y2 ⟨r, d2, rfl, hN, l2, l3⟩; have LL2 := hid l2; have HN2 := hid hN; clear l2 hN l3) | (go_at_call 45; refine (HNW.out _ ((Low.refl _ U).alloc (Nat.le_refl _) _).drew).mono ?_; rintro e y2 ⟨r, d2, rfl, hN, l2, l3⟩; have LL2 := hid l2; have HN2 := hid hN; have bz : Blk y2 U.heap.size 43 Dd.zero.cells := (Blk.new U 43 Dd.zero.cells).drew.low l3 (by simp); have z0 : y2.cell? ⟨U.heap.size, 0, none⟩ = some (.string ⟨#[]⟩) := bz.cell 0; have z1 : y2.cell? ⟨U.heap.size, 1, none⟩ = some (.string ⟨#[]⟩) := bz.cell 1; have z2 : y2.cell? ⟨U.heap.size, 2, none⟩ = some (.bool false) := bz.cell 2; have g0 := bz.frozen 0; have g1 := bz.frozen 1; have g2 := bz.frozen 2; clear l2 hN l3 bz))
          all_goals
            go_wp2_with fail
            go_meet
          all_goals first | exact ⟨r, d2, rfl, HN2.out, LL2.out.alloc LL2.out.size _⟩ | exact ⟨r, d2, rfl, HN2.out, ((LL2.out.setCell (Nat.le_refl _) _).setCell (Nat.le_refl _) _).setCell (Nat.le_refl _) _⟩
        case' rest =>
          obtain ⟨r, d2, rfl, HN⟩ := hcut
          have hr : r ≤ D.deeds.length := by
            rcases HN.out.1 with ⟨rfl, _⟩ | ⟨i, rfl, hi, _⟩
            · exact Nat.zero_le _
            · exact (List.getElem?_eq_some_iff.1 hi).1
          have BZ : Hid (BeginAt w wc M V0.heap.size a d o) := ⟨HB.out.low.trans (HN.out.2.mono HB.out.low.size), HB.out.m, HB.out.om, HB.out.deed.low HN.out.2 HB.out.deed.lt, HB.out.op.low HN.out.2 HB.out.op.lt, HB.out.ok⟩
          have p2z : wc.cell? ⟨w.heap.size, 2, none⟩ = some (.int .i64 a.n) := (HN.out.2.cell (by exact lC)).trans p2
          have o3 : wc.cell? ⟨V0.heap.size, 3, none⟩ = some (.int .i64 o.rev) := BZ.out.op.cell 3
          have f3 := BZ.out.op.frozen 3
          have lOz := BZ.out.op.lt
          have lCz : w.heap.size < wc.heap.size := Nat.lt_of_lt_of_le lC HN.out.2.size
          have ne : V0.heap.size ≠ w.heap.size := by omega
          clear hc4 m0 p2
          have md := Int.emod_two_eq a.n
          go_upto_region 10 with fail
          go_name_world Z hZ
          have BO2 : Hid (Blk Z V0.heap.size 88 (AOp.mk o.kind o.path o.plain ((r : Int) - a.n % 2)).cells) := by
            show Blk Z _ _ _
            rw [← hZ]; exact BZ.out.op.set 3 _
          have BD2 : Hid (Blk Z M 43 d.cells) := by
            show Blk Z _ _ _
            rw [← hZ]; exact BZ.out.deed.setOther (by have := BZ.out.om; show M ≠ V0.heap.size; omega) _
          have LZ : Hid (Low w.heap.size w Z) := by
            show Low _ _ _
            rw [← hZ]; exact BZ.out.low.setCell (by have := BZ.out.om; have := BZ.out.m; show w.heap.size ≤ V0.heap.size; omega) _
          have r3 : Z.cell? ⟨V0.heap.size, 3, none⟩ = some (.int .i64 ((r : Int) - a.n % 2)) := BO2.out.cell 3
          have g3 := BO2.out.frozen 3
          have lOZ := BO2.out.lt
          clear hZ o3 f3 lOz p2z
          by_cases hneg : (r : Int) - a.n % 2 < 0
          case' pos =>
            have qz : decide ((r : Int) - a.n % 2 < 0) = true := by simpa using hneg
            go_upto_region 12 with fail
            go_name_world U2 hU2
            obtain ⟨o2, ho2⟩ : ∃ o2, o2 = AOp.mk o.kind o.path o.plain 0 := ⟨_, rfl⟩
            have HB2 : Hid (BeginAt w U2 M V0.heap.size a d o2) := by
              show BeginAt w U2 M V0.heap.size a d o2
              rw [← hU2, ho2]
              exact ⟨LZ.out.setCell (by have := BZ.out.om; have := BZ.out.m; show w.heap.size ≤ V0.heap.size; omega) _, BZ.out.m, BZ.out.om, BD2.out.setOther (by have := BZ.out.om; show M ≠ V0.heap.size; omega) _, BO2.out.set 3 _, ⟨BZ.out.ok.name, BZ.out.ok.path, BZ.out.ok.put, BZ.out.ok.del, by show (-1 : Int) ≤ 0; omega, fun q => absurd n0 (by omega)⟩⟩
            clear hU2 ho2
          case' neg =>
            have qz : decide ((r : Int) - a.n % 2 < 0) = false := by simpa using hneg
            go_upto_region 12 with fail
            obtain ⟨o2, ho2⟩ : ∃ o2, o2 = AOp.mk o.kind o.path o.plain ((r : Int) - a.n % 2) := ⟨_, rfl⟩
            obtain ⟨U2, hU2⟩ : ∃ U2, U2 = Z := ⟨_, rfl⟩
            subst hU2
            have HB2 : Hid (BeginAt w U2 M V0.heap.size a d o2) := by
              show BeginAt w U2 M V0.heap.size a d o2
              rw [ho2]
              exact ⟨LZ.out, BZ.out.m, BZ.out.om, BD2.out, BO2.out, ⟨BZ.out.ok.name, BZ.out.ok.path, BZ.out.ok.put, BZ.out.ok.del, by show (-1 : Int) ≤ (r : Int) - a.n % 2; omega, fun q => absurd n0 (by omega)⟩⟩
            clear ho2
          all_goals clear BO2 BD2 LZ r3 g3 lOZ BZ HN hr md n0 n1
      all_goals
        have hok := HB2.out.ok
        have hpz := isName_size hok.name
        have hplain : o2.plain.size ≤ 64 := by
          by_cases q : a.k = 2
          · rw [(hok.del q).2.2.2]; decide
          · obtain ⟨_, _, q3, q4⟩ := hok.put q
            rw [← q3]; exact q4
        obtain ⟨er, X', hP, hfr, v, hv, hcs⟩ := kn_begin HK.out (by omega) hs o2 d (by rw [hok.path]; unfold maxLen; omega) (by unfold maxLen; omega) hok.proper hok.path hok.name (fun q => by
            by_cases hk2 : a.k = 2
            · rw [(hok.del hk2).1] at q; cases q
            · obtain ⟨_, q2, q3, _⟩ := hok.put hk2
              exact ⟨q2, q3⟩) (fun q => by
            by_cases hk2 : a.k = 2
            · obtain ⟨_, q2, q3, _⟩ := hok.del hk2
              exact ⟨q2, q3⟩
            · rw [(hok.put hk2).1] at q; cases q)
        have JU : Hid (JQ U2 (fun i => G i ∨ (w.heap.size ≤ i ∧ i < U2.heap.size)) b bx S R key X D Q) := HJ.out.wide HB2.out.low
        obtain ⟨Fq2, hq2, _⟩ := JU.out.q
        have c0 := qin_ptr hq2
        have lb2 := hq2.lt
        have z0 : U2.cell? ⟨V0.heap.size, 0, none⟩ = some (.int .i64 o2.kind) := HB2.out.op.cell 0
        have z1 : U2.cell? ⟨V0.heap.size, 1, none⟩ = some (.string o2.path) := HB2.out.op.cell 1
        have z2 : U2.cell? ⟨V0.heap.size, 2, none⟩ = some (.string o2.plain) := HB2.out.op.cell 2
        have z3 : U2.cell? ⟨V0.heap.size, 3, none⟩ = some (.int .i64 o2.rev) := HB2.out.op.cell 3
        have lO2 := HB2.out.op.lt
        have HP := hid hP
        have HFR := hid hfr
        have HV := hid hv
        have HCS := hid hcs
        have HOK := hid hok
        clear hP hfr hv hcs hok hq2 hpz hplain
        go_region_held3 (fun W' => W'.cell? ⟨b, 0, none⟩ = some (.pointer (some ⟨bx, 0, none⟩)) ∧ W'.cell? ⟨V0.heap.size, 0, none⟩ = some (.int .i64 o2.kind) ∧ W'.cell? ⟨V0.heap.size, 1, none⟩ = some (.string o2.path) ∧ W'.cell? ⟨V0.heap.size, 2, none⟩ = some (.string o2.plain) ∧ W'.cell? ⟨V0.heap.size, 3, none⟩ = some (.int .i64 o2.rev)) (first | assumption | go_keep)
          (first | (go_at_call 49; refine ((JU.out.low (Low.refl _ U2).drew).callX HP.out).mono ?_; rintro e y5 ⟨rfl, j5, k5⟩; have KO : ∀ q x, U2.cell? ⟨V0.heap.size, q, none⟩ = some x → y5.cell? ⟨V0.heap.size, q, none⟩ = some x := fun q x hx => k5.cell (by exact hx) (fun f => f (Or.inr ⟨by have := HB2.out.om; have := HB2.out.m; show w.heap.size ≤ V0.heap.size; omega, lO2⟩)); have S5 : y5.cell? ⟨b, 0, none⟩ = some (.pointer (some ⟨bx, 0, none⟩)) ∧ y5.cell? ⟨V0.heap.size, 0, none⟩ = some (.int .i64 o2.kind) ∧ y5.cell? ⟨V0.heap.size, 1, none⟩ = some (.string o2.path) ∧ y5.cell? ⟨V0.heap.size, 2, none⟩ = some (.string o2.plain) ∧ y5.cell? ⟨V0.heap.size, 3, none⟩ = some (.int .i64 o2.rev) := ⟨by obtain ⟨Fq5, hq5, _⟩ := j5.q; exact qin_ptr hq5, KO 0 _ z0, KO 1 _ z1, KO 2 _ z2, KO 3 _ z3⟩; have J5 := hid j5; have K5 := hid k5; clear j5 k5 KO))
        obtain ⟨Fq5, hq5, _⟩ := J5.out.q
        have u0 : y5.cell? ⟨b, 6 + s * 4, none⟩ = some (.bool v.on) := qin_op hq5 HV.out (j := 0) (by omega)
        have u1 : y5.cell? ⟨b, 6 + s * 4 + 1, none⟩ = some (.string v.deed.path) := qin_op hq5 HV.out (j := 1) (by omega)
        have u2 : y5.cell? ⟨b, 6 + s * 4 + 2, none⟩ = some (.string v.deed.text) := qin_op hq5 HV.out (j := 2) (by omega)
        have u3 : y5.cell? ⟨b, 6 + s * 4 + 3, none⟩ = some (.bool v.deed.gone) := qin_op hq5 HV.out (j := 3) (by omega)
        have w0 := hq5.frozen (6 + s * 4)
        have w1 := hq5.frozen (6 + s * 4 + 1)
        have w2 := hq5.frozen (6 + s * 4 + 2)
        have w3 := hq5.frozen (6 + s * 4 + 3)
        have lb5 := hq5.lt
        have K6 : Hid (Kept (fun k => ¬ (G k ∨ (w.heap.size ≤ k ∧ k < U2.heap.size))) U2 y5) := ⟨K5.out.os, K5.out.output, K5.out.size, K5.out.block⟩
        have B5 : Hid (Blk y5 M 43 d.cells) := HB2.out.deed.kept K6.out (fun f => f (Or.inr ⟨by have := HB2.out.m; omega, HB2.out.deed.lt⟩))
        have d0 : y5.cell? ⟨M, 0, none⟩ = some (.string d.path) := B5.out.cell 0
        have d1 : y5.cell? ⟨M, 1, none⟩ = some (.string d.text) := B5.out.cell 1
        have d2 : y5.cell? ⟨M, 2, none⟩ = some (.bool d.gone) := B5.out.cell 2
        have lM5 := B5.out.lt
        have KW : Hid (Kept (fun k => ¬ G k) w y5) := HB2.out.low.kept.trans K6.out (fun _ f => f.elim) (fun _ _ f g => f (Or.inl g))
        have g0 : Hid (G 0) := by obtain ⟨_, _, q⟩ := HJ.out; exact q.g0
        clear S5 c0 z0 z1 z2 z3 hq5
        rcases HCS.out with ⟨rfl, hon, hk⟩ | ⟨her, hk⟩
        · rw [hon] at u0
          have HKN := hid hk
          clear hk HCS
          go_upto_region 16 with fail
          go_region
          all_goals go_wp2_with fail
          all_goals go_ret
          all_goals
            obtain ⟨r1, r2⟩ := J5.out.setOp s4 ⟨true, d⟩
            refine ⟨rfl, X', { D with ops := D.ops.set s ⟨true, d⟩ }, (r1.low (Low.refl _ _).drew).weak (fun _ g => Or.inl g) g0.out, ⟨HKN.out, ⟨rfl, rfl, rfl⟩, fun hf => ?_⟩, (KW.out.trans r2 (H := fun k => ¬ G k) (fun _ f => f) (fun _ _ f g => f (Or.inl g))).drew⟩
            obtain ⟨_, p', q1, q2, q3, q4, q5⟩ := HFR.out hf
            exact ⟨⟨p', q1, q2, q3, fun hn => by rw [q4]; exact HOK.out.neg hn, fun hk => by rw [q5]; exact (HOK.out.put hk).2.1⟩, ⟨true, d⟩, List.getElem?_set_self (List.getElem?_eq_some_iff.1 HV.out).1, rfl⟩
        · have HKN := hid hk
          clear hk HCS
          rcases her with rfl | rfl | ⟨rfl, hon⟩
          · go_wp2_with fail
            go_ret
            exact ⟨rfl, X', D, J5.out.weak (fun _ g => Or.inl g) g0.out, ⟨HKN.out, ⟨rfl, rfl, rfl⟩, fun hf => absurd (HFR.out hf).1 (by decide)⟩, KW.out⟩
          · go_wp2_with fail
            go_ret
            exact ⟨rfl, X', D, J5.out.weak (fun _ g => Or.inl g) g0.out, ⟨HKN.out, ⟨rfl, rfl, rfl⟩, fun hf => absurd (HFR.out hf).1 (by decide)⟩, KW.out⟩
          · rw [hon] at u0
            go_wp2_with fail
            go_ret
            exact ⟨rfl, X', D, J5.out.weak (fun _ g => Or.inl g) g0.out, ⟨HKN.out, ⟨rfl, rfl, rfl⟩, fun hf => absurd (HFR.out hf).1 (by decide)⟩, KW.out⟩
end Go.Proofs.YtphapknfkbgapaaDoor
namespace Go.Proofs.YtphapknfkbgapaaDoor
open Go.RowKit

variable {G : Nat → Prop} {b bx S n : Nat} {R : Int} {key : ByteArray} {X : PS} {D : PD} {Q : Pods}

/-! reads. -/
theorem read_val (bl : Bool) (r : Nat) (d : Dd) : ∃ (tx : ByteArray) (m e : Int), (if bl then blindV else tellV r d) = .tuple #[.string tx, .int .i64 m, .int .i64 e] ∧ ((tx, m, e) = tells r d ∨ (tx = ⟨#[]⟩ ∧ m = 0 ∧ e = 6)) := by
  cases bl
  · exact ⟨_, _, _, rfl, Or.inl rfl⟩
  · exact ⟨_, _, _, rfl, Or.inr ⟨rfl, rfl, rfl⟩⟩
set_option maxRecDepth 100000 in
set_option maxHeartbeats 2000000 in
theorem readsGet (w : World) (a : AAct) (ha : AOk a) (h : JQ w G b bx S R key X D Q) (k : Kn IsName n X D S R) {s : Nat} (hs : s < S) (hd : D.deeds.length ≤ 100000000) (hk : (a.kind == 5) = true) :
    Calls Tryd.prog 71 #[.pointer (some ⟨b, 0, none⟩), .int .i64 (s : Int), .agg #[.int .i64 a.kind, .int .i64 a.s, .int .i64 a.n, .int .i64 a.k, .string a.path, .string a.text, .bool a.on]] w fun e w' => e = .returned (.bool true) ∧ JQ w' G b bx S R key X D Q ∧ Kept (fun k => ¬ G k) w w' := by
  have HJ := hid h
  have HK := hid k
  have HA := hid ha
  have hb0 : b < w.heap.size := by obtain ⟨Fq, hq, _⟩ := h.q; exact hq.lt
  clear h k ha
  go_enter Tryd.func71, Tryd.ntmps71
  go_upto_region 4 with (first | (go_at_call 48; refine (which_any _ _ HA.out.path).mono ?_; rintro e y1 ⟨wk, rfl, hwk, hy⟩; obtain rfl := hy.symm) | (go_at_call 44; refine (name_any _ wk hwk).mono ?_; rintro e y2 ⟨rfl, hy⟩; obtain rfl := hy.symm))
  go_name_world W hW
  have LW : Hid (Low w.heap.size w W) := by
    show Low _ _ _
    rw [← hW]; exact (Low.refl _ w).alloc (Nat.le_refl _) _
  have JW : Hid (JQ W G b bx S R key X D Q) := HJ.out.low LW.out
  clear hW
  obtain ⟨Fq, hq, _⟩ := JW.out.q
  have c0 := qin_ptr hq
  have lb := hq.lt
  obtain ⟨r, d, hN⟩ := newD_ex (nameOf wk) D.deeds
  obtain ⟨bl, hP, _⟩ := kn_get HK.out hs (nameOf wk) hN
  obtain ⟨tx, m, er, hv, hcs⟩ := read_val bl r d
  rw [hv] at hP
  have HP := hid hP
  have HN := hid hN
  have HCS := hid hcs
  clear hP hN hcs hv hq
  go_upto_region 5 with (go_at_call 46; refine (JW.out.callX HP.out).mono ?_; rintro e y3 ⟨rfl, j3, k3⟩; have J3 := hid j3; have K3 := hid k3; clear j3 k3)
  obtain ⟨Fq3, hq3, _⟩ := J3.out.q
  obtain ⟨a4, cap4, hc4, _⟩ := qin_deeds hq3
  rw [List.length_map] at hc4
  have HQ := hid hq3
  have lb3 := hq3.lt
  clear hq3 c0 lb
  go_wp2_with (go_at_call 98; refine (read_true _ tx (nameOf wk) m er D.deeds.length HQ.out (Nat.le_refl _) (by omega) (by rw [List.take_length]; exact HN.out) HCS.out).mono ?_; rintro e y4 ⟨rfl, l4⟩; have L4 := hid l4; clear l4)
  go_ret
  exact ⟨rfl, J3.out.low L4.out, (LW.out.kept.trans K3.out (H := fun k => ¬ G k) (fun _ f => f.elim) (fun _ _ f => f)).trans L4.out.kept (fun _ f => f) (fun _ _ f => f.elim)⟩
theorem readAt_val (bl bad : Bool) (r : Nat) (d : Dd) : ∃ (tx : ByteArray) (m e : Int), (if bl then blindV else if bad then .tuple #[.string ⟨#[]⟩, .int .i64 0, .int .i64 15] else tellV r d) = .tuple #[.string tx, .int .i64 m, .int .i64 e] ∧ (bad = true → tx = ⟨#[]⟩ ∧ m = 0 ∧ (e = 15 ∨ e = 6)) ∧ (bad = false → (tx, m, e) = tells r d ∨ (tx = ⟨#[]⟩ ∧ m = 0 ∧ e = 6)) := by
  cases bl
  · cases bad
    · exact ⟨_, _, _, rfl, (fun q => by cases q), fun _ => Or.inl rfl⟩
    · exact ⟨_, _, _, rfl, (fun _ => ⟨rfl, rfl, Or.inl rfl⟩), fun q => by cases q⟩
  · exact ⟨_, _, _, rfl, (fun _ => ⟨rfl, rfl, Or.inr rfl⟩), fun _ => Or.inr ⟨rfl, rfl, rfl⟩⟩
set_option maxRecDepth 100000 in
set_option maxHeartbeats 2000000 in
theorem readsAt (w : World) (a : AAct) (ha : AOk a) (h : JQ w G b bx S R key X D Q) (k : Kn IsName n X D S R) {s : Nat} (hs : s < S) (hd : D.deeds.length ≤ 100000000) (hk : (a.kind == 5) = false) :
    Calls Tryd.prog 71 #[.pointer (some ⟨b, 0, none⟩), .int .i64 (s : Int), .agg #[.int .i64 a.kind, .int .i64 a.s, .int .i64 a.n, .int .i64 a.k, .string a.path, .string a.text, .bool a.on]] w fun e w' => e = .returned (.bool true) ∧ JQ w' G b bx S R key X D Q ∧ Kept (fun k => ¬ G k) w w' := by
  have HJ := hid h
  have HK := hid k
  have HA := hid ha
  have hb0 : b < w.heap.size := by obtain ⟨Fq, hq, _⟩ := h.q; exact hq.lt
  clear h k ha
  go_enter Tryd.func71, Tryd.ntmps71
  go_upto_region 6 with (first | (go_at_call 48; refine (which_any _ _ HA.out.path).mono ?_; rintro e y1 ⟨wk, rfl, hwk, hy⟩; obtain rfl := hy.symm) | (go_at_call 44; refine (name_any _ wk hwk).mono ?_; rintro e y2 ⟨rfl, hy⟩; obtain rfl := hy.symm))
  go_name_world W hW
  have BA : Hid (Blk W w.heap.size 57 a.cells) := by
    show Blk W _ _ _
    rw [← hW]; exact Blk.new w 57 a.cells
  have LW : Hid (Low w.heap.size w W) := by
    show Low _ _ _
    rw [← hW]; exact (Low.refl _ w).alloc (Nat.le_refl _) _
  have JW : Hid (JQ W G b bx S R key X D Q) := HJ.out.low LW.out
  clear hW
  have p2 : W.cell? ⟨w.heap.size, 2, none⟩ = some (.int .i64 a.n) := BA.out.cell 2
  have lA := BA.out.lt
  obtain ⟨Fq, hq, _⟩ := JW.out.q
  obtain ⟨a4, cap4, hc4, _⟩ := qin_deeds hq
  rw [List.length_map] at hc4
  have lb := hq.lt
  have i0 := HA.out.n.1
  have i1 := HA.out.n.2
  have x1 : wrap64 ((D.deeds.length : Int) + 2) = (D.deeds.length : Int) + 2 := by unfold wrap64; omega
  have x2 : IntKind.i64.wrap ((D.deeds.length : Int) + 2) = (D.deeds.length : Int) + 2 := by rw [IntKind.wrap_i64]; omega
  clear hq
  go_region_held3 (fun W' => W'.cell? ⟨w.heap.size, 2, none⟩ = some (.int .i64 a.n) ∧ W'.cell? ⟨b, 4, none⟩ = some (.slice a4 D.deeds.length cap4)) (first | assumption | go_keep)
    (first | (go_at_call 18; refine (pick_some a.n ((D.deeds.length : Int) + 2) _ (by omega) (by omega) i0 i1).mono ?_; rintro e y3 ⟨rv, rfl, hrv, rfl⟩; have S3 : W.drew.cell? ⟨w.heap.size, 2, none⟩ = some (.int .i64 a.n) ∧ W.drew.cell? ⟨b, 4, none⟩ = some (.slice a4 D.deeds.length cap4) := ⟨p2, hc4⟩))
  have L3 : Hid (Low w.heap.size w W.drew) := LW.out.drew
  have J3 : Hid (JQ W.drew G b bx S R key X D Q) := JW.out.low (Low.refl _ W).drew
  obtain ⟨Fq3, hq3, _⟩ := J3.out.q
  have c0 := qin_ptr hq3
  have lb3 := hq3.lt
  obtain ⟨r, d, hN⟩ := newD_ex (nameOf wk) (D.deeds.take rv)
  obtain ⟨bl, hP⟩ := kn_getAt HK.out hs (nameOf wk) rv hN
  obtain ⟨bad, hbad⟩ : ∃ bad, bad = (decide ((rv : Int) < D.floor) || decide ((D.deeds.length : Int) < (rv : Int))) := ⟨_, rfl⟩
  rw [← hbad] at hP
  obtain ⟨tx, m, er, hv, hcs1, hcs2⟩ := readAt_val bl bad r d
  rw [hv] at hP
  have HP := hid hP
  have HN := hid hN
  have H1 := hid hcs1
  have H2 := hid hcs2
  have HBAD := hid hbad
  clear S3 p2 hc4 hq3 hN hP hcs1 hcs2 hv hbad x1 x2 i0 i1
  go_upto_region 8 with (go_at_call 99; refine (J3.out.callX HP.out).mono ?_; rintro e y5 ⟨rfl, j5, k5⟩; have J5 := hid j5; have K5 := hid k5; clear j5 k5)
  obtain ⟨Fq5, hq5, _⟩ := J5.out.q
  obtain ⟨b4, dap4, hc5, _⟩ := qin_deeds hq5
  rw [List.length_map] at hc5
  have f5 := qin_floor hq5
  have HQ := hid hq5
  have lb5 := hq5.lt
  have KW : Hid (Kept (fun k => ¬ G k) w y5) := L3.out.kept.trans K5.out (fun _ f => f.elim) (fun _ _ f => f)
  clear hq5 c0 lb3
  cases q1 : decide ((rv : Int) < D.floor)
  · by_cases hl : rv ≤ D.deeds.length
    · have q2 : decide ((D.deeds.length : Int) < (rv : Int)) = false := by simp; omega
      have q3 : decide (D.deeds.length < rv) = false := by simp; omega
      have hb : bad = false := by rw [HBAD.out, q1, q2]; rfl
      have HRL := hid hl
      clear hl hrv
      go_wp2_with (go_at_call 98; refine (read_true _ tx (nameOf wk) m er rv HQ.out HRL.out (by omega) HN.out (H2.out hb)).mono ?_; rintro e y6 ⟨rfl, l6⟩; have L6 := hid l6; clear l6)
      go_ret
      exact ⟨rfl, J5.out.low L6.out, KW.out.trans L6.out.kept (fun _ f => f) (fun _ _ f => f.elim)⟩
    · have q2 : decide ((D.deeds.length : Int) < (rv : Int)) = true := by simp; omega
      have q3 : decide (D.deeds.length < rv) = true := by simp; omega
      have hb : bad = true := by rw [HBAD.out, q2, Bool.or_true]
      obtain ⟨rfl, rfl, he⟩ := H1.out hb
      clear H1 H2
      rcases he with rfl | rfl
      · go_wp2_with fail
        go_ret
        exact ⟨rfl, J5.out, KW.out⟩
      · go_wp2_with fail
        go_ret
        exact ⟨rfl, J5.out, KW.out⟩
  · have hb : bad = true := by rw [HBAD.out, q1, Bool.true_or]
    obtain ⟨rfl, rfl, he⟩ := H1.out hb
    clear H1 H2
    rcases he with rfl | rfl
    · go_wp2_with fail
      go_ret
      exact ⟨rfl, J5.out, KW.out⟩
    · go_wp2_with fail
      go_ret
      exact ⟨rfl, J5.out, KW.out⟩
end Go.Proofs.YtphapknfkbgapaaDoor
namespace Go.Proofs.YtphapknfkbgapaaDoor
open Go.RowKit

variable {N : ByteArray → Prop} {G : Nat → Prop} {b bx S n : Nat} {R : Int} {key : ByteArray} {X : PS} {D : PD} {Q : Pods}

/-! refreshed, compacted. -/
theorem kn_crashX (h : Kn N n X D S R) {s : Nat} (hs : s < S) : PUni 42 [.int .i64 (s : Int)] X (.int .i64 0) (X.crash s) ∧ Kn N (n + 1) (X.crash s) { D with ops := D.ops.set s Und2.zero } S R := by
  obtain ⟨Y, h, k, rfl, r⟩ := h
  obtain ⟨p, sn, u, hp, ha, hS⟩ := h.srvAt hs
  refine ⟨p_kept (fun w F b hX _ _ => pCrash_yes w s p hX hp), Y.crash (s : Int), rel_crash h hs, know_crash k s, ?_, r⟩
  show (Y.seen.set _ _).length = _
  simp
theorem kn_refreshX (h : Kn N n X D S R) {s : Nat} (hs : s < S) {p : PSrv} (hp : X.servers[s]? = some p) : PUni 43 [.int .i64 (s : Int)] X (.int .i64 0) (X.refresh s p) ∧ Kn N (n + 1) (X.refresh s p) D S R := by
  obtain ⟨Y, h, k, rfl, r⟩ := h
  obtain ⟨p', sn, u, hp', ha, hS⟩ := h.srvAt hs
  obtain rfl := Option.some.inj (hp'.symm.trans hp)
  refine ⟨p_kept (fun w F b hX _ _ => pRefresh_yes w s p' hX hp), Y.refresh (s : Int), rel_refresh h hp ha hS hs, know_refresh k h (s : Int), ?_, r⟩
  show (Y.seen.set _ _).length = _
  simp
theorem Kn.srv (h : Kn N n X D S R) : X.servers.length = S ∧ S ≤ 4 ∧ 1 ≤ S := by
  obtain ⟨Y, h, k, rfl, r⟩ := h
  exact ⟨h.len.1, h.len.2.2⟩
/-- How far the servers are refreshed. -/
structure Refr (N : ByteArray → Prop) (n : Nat) (X X' : PS) (D D' : PD) (S : Nat) (R : Int) (i : Nat) : Prop where
  kn : Kn N (n + 2 * i) X' D' S R
  x : X' = { X with servers := X'.servers }
  d : D' = { D with ops := D'.ops }
  fresh : ∀ t, t < i → FreshAt X' t
theorem Refr.step {X' : PS} {D' : PD} {i : Nat} (h : Refr N n X X' D D' S R i) (hi : i < S) : Refr N n X ((X'.crash i).refresh i PSrv.zero) D { D' with ops := D'.ops.set i Und2.zero } S R (i + 1) ∧ PUni 42 [.int .i64 (i : Int)] X' (.int .i64 0) (X'.crash i) ∧ PUni 43 [.int .i64 (i : Int)] (X'.crash i) (.int .i64 0) ((X'.crash i).refresh i PSrv.zero) := by
  obtain ⟨p1, k1⟩ := kn_crashX h.kn hi
  have hl := h.kn.srv.1
  have hz : (X'.crash i).servers[i]? = some PSrv.zero := List.getElem?_set_self (by omega)
  obtain ⟨p2, k2⟩ := kn_refreshX k1 hi hz
  refine ⟨⟨?_, ?_, ?_, fun t ht => ?_⟩, p1, p2⟩
  · rw [show n + 2 * (i + 1) = n + 2 * i + 1 + 1 by omega]; exact k2
  · rw [h.x]; rfl
  · rw [h.d]
  · by_cases e : i = t
    · subst e
      refine ⟨{ PSrv.zero with seen := X'.epoch }, List.getElem?_set_self (by show i < (X'.servers.set i PSrv.zero).length; rw [List.length_set]; omega), rfl, rfl⟩
    · obtain ⟨p, a, b, c⟩ := h.fresh t (by omega)
      exact ⟨p, by show ((X'.servers.set i _).set i _)[t]? = _; rw [List.getElem?_set_ne e, List.getElem?_set_ne e]; exact a, b, c⟩
set_option maxRecDepth 100000 in
set_option maxHeartbeats 2000000 in
theorem refreshedQ (w : World) (h : JQ w G b bx S R key X D Q) (k : Kn N n X D S R) :
    Calls Tryd.prog 20 #[.pointer (some ⟨b, 0, none⟩)] w fun e w' => e = .returned (.bool true) ∧ ∃ X' D', JQ w' G b bx S R key X' D' Q ∧ Refr N n X X' D D' S R S ∧ Kept (fun k => ¬ G k) w w' := by
  have hS := k.srv.2.1
  have HJ := hid h
  have HK : Hid (Refr N n X X D D S R 0) := ⟨k, rfl, rfl, fun t ht => by omega⟩
  clear h k
  go_enter Tryd.func20, Tryd.ntmps20
  go_wp2_with fail
  go_loopg [3] S (fun left iv wr => ∃ i : Nat, left = S - i ∧ i ≤ S ∧ iv = .int .i64 (i : Int) ∧ Hid (∃ X' D', JQ wr G b bx S R key X' D' Q ∧ Refr N n X X' D D' S R i ∧ Kept (fun k => ¬ G k) w wr))
  case atStart => exact ⟨0, rfl, Nat.zero_le _, rfl, X, D, HJ.out, HK.out, Kept.refl _ _⟩
  case round =>
    obtain ⟨i, hgk, hi, rfl, HI⟩ := hrel
    have HGK := hid hgk
    clear hgk
    obtain ⟨X', D', hj, hr, hk⟩ := HI.out
    have J1 := hid hj
    have R1 := hid hr
    have K1 := hid hk
    obtain ⟨Fq, hq, _⟩ := hj.q
    have c0 := qin_ptr hq
    have c1 := qin_srv hq
    have lb := hq.lt
    clear hj hr hk HI hq
    by_cases h3 : i < S
    · have q1 : decide ((i : Int) < (S : Int)) = true := by simp; omega
      have q2 : decide (i < S) = true := by simp; omega
      obtain ⟨st, p1, p2⟩ := R1.out.step h3
      have ST := hid st
      have P1 := hid p1
      have P2 := hid p2
      have i4 : i < 4 := by omega
      have i4i : (i : Int) < 4 := by omega
      clear st p1 p2
      go_upto_region 5 with (go_at_call 42; refine (J1.out.callX P1.out).mono ?_; rintro e y2 ⟨rfl, j2, k2⟩; have J2 := hid j2; have K2 := hid k2; clear j2 k2)
      obtain ⟨Fq2, hq2, _⟩ := J2.out.q
      have c0b := qin_ptr hq2
      have lb2 := hq2.lt
      clear hq2 c0 c1 lb
      go_upto_region 6 with (go_at_call 43; refine (J2.out.callX P2.out).mono ?_; rintro e y3 ⟨rfl, j3, k3⟩; have J3 := hid j3; have K3 := hid k3; clear j3 k3)
      have HT : Hid (y3.there b (6 + i * 4) 4) := J3.out.there i4
      obtain ⟨Fq3, hq3, _⟩ := J3.out.q
      have lb3 := hq3.lt
      clear hq3 c0b lb2
      go_wp2_with ((with_reducible refine stU (.tmp 32) (.tmp 29) b (6 + i * 4) Und2.zero ?_ ?_ HT.out ?_); rfl; rfl)
      go_roundg (S - (i + 1))
      case rel =>
        obtain ⟨r1, r2⟩ := J3.out.setOp i4 Und2.zero
        exact ⟨i + 1, rfl, by omega, by simp, _, _, r1, ST.out, ((K1.out.trans K2.out (H := fun k => ¬ G k) (fun _ f => f) (fun _ _ f => f)).trans K3.out (H := fun k => ¬ G k) (fun _ f => f) (fun _ _ f => f)).trans r2 (fun _ f => f) (fun _ _ f => f)⟩
      case measure => have := HGK.out; omega
    · have q1 : decide ((i : Int) < (S : Int)) = false := by simp; omega
      have q2 : decide (i < S) = false := by simp; omega
      obtain rfl : i = S := by omega
      go_wp2_with fail
      go_ret
      exact ⟨rfl, X', D', J1.out, R1.out, K1.out⟩
end Go.Proofs.YtphapknfkbgapaaDoor
namespace Go.Proofs.YtphapknfkbgapaaDoor
open Go.RowKit

variable {N : ByteArray → Prop} {G : Nat → Prop} {b bx S n : Nat} {R : Int} {key : ByteArray} {X : PS} {D : PD} {Q : Pods}

/-! compacted, stage. -/
/-- A call of the coffer's leaves the player's own cells. -/
theorem JQ.callY {f : Nat} {args : List Value} {v : Value} {X' : PS} {w : World} (h : JQ w G b bx S R key X D Q) (hp : PUni f args X v X') :
    Calls Tryd.prog f (.pointer (some ⟨bx, 0, none⟩) :: args).toArray w fun e w' => e = .returned v ∧ JQ w' G b bx S R key X' D Q ∧ Kept (fun k => ¬ G k) w w' ∧ w'.heap[b]? = w.heap[b]? := by
  obtain ⟨Fx, Fq, h⟩ := h
  refine (hp w Fx bx h.x h.f (Nat.lt_of_le_of_lt (Nat.zero_le 0) (h.gb 0 h.g0))).mono ?_
  rintro e w' ⟨rfl, F', x', k, hF⟩
  have hq := h.q.below
  have hg := h.gb
  refine ⟨rfl, ⟨F', Fq, x', h.q.kept k (fun i hi g => h.xq i g hi), fun g hg => Nat.lt_of_lt_of_le (h.gb g hg) k.size, fun q f g => ?_, h.gq, fun q f g => ?_, h.g0, fours_of h.f (k.block 0 (h.gb 0 h.g0) (fun f => h.gx 0 f h.g0)) k.os k.output k.size⟩, k.mono (fun i _ f g => h.gx i f g), k.block b h.q.lt (fun f => h.xq b f h.q.inF)⟩
  · rcases hF q f with e | e
    · exact h.gx q e g
    · have := hg q g; omega
  · rcases hF q f with e | e
    · exact h.xq q e g
    · have := hq q g; omega
theorem JQ.setFloor {w : World} (h : JQ w G b bx S R key X D Q) (v : Int) : JQ (w.setCell ⟨b, 5, none⟩ (.int .i64 v)) G b bx S R key X { D with floor := v } Q ∧ Kept (fun k => ¬ G k) w (w.setCell ⟨b, 5, none⟩ (.int .i64 v)) :=
  h.write (fun Fq q _ => ⟨Fq, qin_setFloor q v, qset_kept q 5 _, fun _ f => Or.inl f⟩)
theorem Kn.floor (h : Kn N n X D S R) : 0 ≤ D.floor ∧ D.floor ≤ (D.deeds.length : Int) ∧ D.deeds.length ≤ n := by
  obtain ⟨Y, h, k, rfl, r⟩ := h
  rw [k.floor, k.deeds]
  exact ⟨h.floor0, k.floor1, h.all⟩
/-- All is compacted. -/
structure Compd (N : ByteArray → Prop) (n : Nat) (X X' : PS) (D D' : PD) (S : Nat) (R : Int) : Prop where
  kn : Kn N (n + 1) X' D' S R
  d : D' = { D with floor := (D.deeds.length : Int) }
  x : X' = X ∨ X' = X.compact (D.deeds.length : Int)
set_option maxRecDepth 100000 in
set_option maxHeartbeats 2000000 in
theorem compactedQ (w : World) (h : JQ w G b bx S R key X D Q) (k : Kn N n X D S R) :
    Calls Tryd.prog 22 #[.pointer (some ⟨b, 0, none⟩)] w fun e w' => e = .returned (.bool true) ∧ ∃ X' D', JQ w' G b bx S R key X' D' Q ∧ Compd N n X X' D D' S R ∧ Kept (fun k => ¬ G k) w w' := by
  have hfl := k.floor
  obtain ⟨Fq, hq, _⟩ := h.q
  obtain ⟨a4, cap4, hc4, _⟩ := qin_deeds hq
  rw [List.length_map] at hc4
  have c0 := qin_ptr hq
  have c5 := qin_floor hq
  have lb := hq.lt
  have HJ := hid h
  have HK := hid k
  clear h k hq
  by_cases he : D.floor = (D.deeds.length : Int)
  · have q1 : ((D.deeds.length : Int) == D.floor) = true := by rw [he]; simp
    go_enter Tryd.func22, Tryd.ntmps22
    go_upto_region 1 with fail
    go_region
    all_goals go_wp2_with fail
    all_goals go_ret
    all_goals exact ⟨rfl, X, D, HJ.out.low (Low.refl _ w).drew, ⟨HK.out.up, by rw [← he], Or.inl rfl⟩, (Kept.refl _ w).drew⟩
  · have q1 : ((D.deeds.length : Int) == D.floor) = false := by rw [beq_eq_false_iff_ne]; exact fun e => he e.symm
    obtain ⟨hP, hk2⟩ := (kn_compact HK.out D.deeds.length).1 ⟨by omega, Nat.le_refl _⟩
    have HP := hid hP
    have HK2 := hid hk2
    clear hP hk2
    go_enter Tryd.func22, Tryd.ntmps22
    go_upto_region 1 with fail
    go_region
    all_goals
      go_upto_region 3 with fail
      go_name_world W hW
      have JW : Hid (JQ W G b bx S R key X D Q) := by
        show JQ W _ _ _ _ _ _ _ _ _
        rw [← hW]; exact HJ.out.low (Low.refl _ w).drew
      have KW : Hid (Kept (fun k => ¬ G k) w W) := by
        show Kept _ w W
        rw [← hW]; exact (Kept.refl _ w).drew
      obtain ⟨Fq1, hq1, _⟩ := JW.out.q
      obtain ⟨b4, dap4, hd4, _⟩ := qin_deeds hq1
      rw [List.length_map] at hd4
      have e0 := qin_ptr hq1
      have lbW := hq1.lt
      clear hW hq1 hc4 c0 c5 lb
      go_region_held3 (fun W' => W'.cell? ⟨b, 0, none⟩ = some (.pointer (some ⟨bx, 0, none⟩)) ∧ W'.cell? ⟨b, 4, none⟩ = some (.slice b4 D.deeds.length dap4)) (first | assumption | go_keep)
        (first | (go_at_call 47; refine ((JW.out.low (Low.refl _ W).drew).callY HP.out).mono ?_; rintro e y3 ⟨rfl, j3, k3, hb3⟩; have S3 : y3.cell? ⟨b, 0, none⟩ = some (.pointer (some ⟨bx, 0, none⟩)) ∧ y3.cell? ⟨b, 4, none⟩ = some (.slice b4 D.deeds.length dap4) := ⟨(World.cell?_of_block (w := W) hb3).trans e0, (World.cell?_of_block (w := W) hb3).trans hd4⟩; have J3 := hid j3; have K3 := hid k3; clear j3 k3 hb3))
      have t4 := S3.2
      obtain ⟨Fq3, hq3, _⟩ := J3.out.q
      have t5 := qin_floor hq3
      have g5 := hq3.frozen 5
      have lb3 := hq3.lt
      clear S3 hq3 e0 hd4
      go_wp2_with fail
      go_ret
      obtain ⟨r1, r2⟩ := J3.out.setFloor (D.deeds.length : Int)
      exact ⟨rfl, _, _, r1, ⟨HK2.out, rfl, Or.inr rfl⟩, (KW.out.trans (Kept.mk K3.out.os K3.out.output K3.out.size K3.out.block : Kept (fun k => ¬ G k) W y3) (H := fun k => ¬ G k) (fun _ f => f) (fun _ _ f => f)).trans r2 (fun _ f => f) (fun _ _ f => f)⟩
theorem infoS : (Tryd.prog.info? 9).map (fun i => (i.zero, i.size, i.bytes)) = some (some (.string ⟨#[]⟩), 1, 16) := by kernel_rfl
theorem strs_one (t : ByteArray) : ∀ v ∈ strs t, v.oneCell' = true := by simp [strs, Value.oneCell']
theorem qin_rowK {w : World} {F : Nat → Prop} (h : QIn w F b bx S R key D Q) : ∃ a cap, w.cell? ⟨b, 86, none⟩ = some (.slice a D.keys.length cap) ∧ w.ownsRow 0 9 1 (.slice a D.keys.length cap) D.keys.length (D.keys.flatMap strs) ∧ (Value.slice a D.keys.length cap).ownBlock ≠ some b := by
  obtain ⟨hl, vD, vS, vK, hO⟩ := h
  obtain ⟨v, hv, ho, _⟩ := hO.row 2 rfl
  have hn := hO.apart 2 rfl hv
  obtain ⟨a, cap, rfl, _, _⟩ := ownsRow_view ho
  exact ⟨a, cap, by rw [hO.cell]; exact hv, ho, hn⟩
theorem qc_setKeys (h : PLen D Q) {vD vS vK v : Value} : (qcells bx S R key D Q vD vS vK).set 86 v = qcells bx S R key D Q vD vS v := by
  unfold qcells
  rw [List.set_append_right _ _ (by simp [headOf])]
  have e : 86 - (headOf bx S R key D vD).length = 80 := by simp [headOf]
  rw [e, List.set_append_right _ _ (by rw [h.mid]; omega), h.mid]
  rfl
theorem qin_appK {w w1 : World} {F : Nat → Prop} {v v' : Value} {o : Obj} (h : QIn w F b bx S R key D Q) (hv : w.cell? ⟨b, 86, none⟩ = some v) (k : Kept (fun q => v.ownBlock = some q) (w.alloc o) w1) (t : ByteArray) (ho : w1.ownsRow 0 9 1 v' (D.keys.length + 1) (D.keys.flatMap strs ++ strs t)) (P : v'.ownBlock = v.ownBlock ∨ v'.ownBlock = some (w.alloc o).heap.size) :
    QIn (w1.setCell ⟨b, 86, none⟩ v') (grow F w (w1.setCell ⟨b, 86, none⟩ v')) b bx S R key { D with keys := D.keys ++ [t] } Q ∧ Kept F w (w1.setCell ⟨b, 86, none⟩ v') := by
  obtain ⟨hl, vD, vS, vK, hO⟩ := h
  obtain rfl : vK = v := Option.some.inj ((qc_keys hl).symm.trans ((hO.cell 86).symm.trans hv))
  obtain ⟨q1, q2⟩ := hO.appended (Low.refl _ w) 2 rfl (qc_keys hl) k ho P (qoffs D 2 rfl)
  exact ⟨⟨⟨hl.ops, hl.dest, hl.node, hl.needs, hl.need⟩, vD, vS, v', q1.cast (qc_setKeys hl) (by simp [PD.rows])⟩, q2⟩
/-- What stage leaves. -/
def StagePost (N : ByteArray → Prop) (n : Nat) (X X' : PS) (D D' : PD) (S : Nat) (R : Int) (t : ByteArray) : Prop :=
  Kn N (n + 1) X' D' S R ∧ ((X' = X ∧ D' = D ∧ (X.turn ≠ 0 ∨ X.keys.length = 6)) ∨ (X.turn = 0 ∧ X.keys.length < 6 ∧ X' = X.stage t ∧ D' = { D with keys := D.keys ++ [t] }))
set_option maxRecDepth 100000 in
set_option maxHeartbeats 2000000 in
theorem stageQ (w : World) (t : ByteArray) (ht : t.size = 48) (h : JQ w G b bx S R key X D Q) (k : Kn N n X D S R) :
    Calls Tryd.prog 54 #[.pointer (some ⟨b, 0, none⟩), .string t] w fun e w' => e = .returned (.bool true) ∧ ∃ X' D', JQ w' G b bx S R key X' D' Q ∧ StagePost N n X X' D D' S R t ∧ Kept (fun k => ¬ G k) w w' := by
  obtain ⟨k1, k2, k3⟩ := k.keys
  obtain ⟨s1, s2, s3⟩ := kn_stage k t ht
  obtain ⟨Fq, hq, _⟩ := h.q
  have c0 := qin_ptr hq
  have lb := hq.lt
  have HJ := hid h
  have HK := hid k
  clear h k hq
  by_cases h6 : X.keys.length = 6
  · have HP := hid (s1 h6)
    clear s1 s2 s3
    go_enter Tryd.func54, Tryd.ntmps54
    go_wp2_with (go_at_call 53; refine (HJ.out.callX HP.out).mono ?_; rintro e y1 ⟨rfl, j1, q1⟩; have J1 := hid j1; have K1 := hid q1; clear j1 q1)
    go_ret
    exact ⟨rfl, X, D, J1.out, ⟨HK.out.up, Or.inl ⟨rfl, rfl, Or.inr h6⟩⟩, K1.out⟩
  · have hl6 : X.keys.length < 6 := by omega
    by_cases hu : X.turn = 0
    · obtain ⟨hP, hk2⟩ := s3 hl6 hu
      have HP := hid hP
      have HK2 := hid hk2
      clear s1 s2 s3 hP hk2
      go_enter Tryd.func54, Tryd.ntmps54
      go_upto_region 4 with (go_at_call 53; refine (HJ.out.callX HP.out).mono ?_; rintro e y1 ⟨rfl, j1, q1⟩; have J1 := hid j1; have K1 := hid q1; clear j1 q1)
      obtain ⟨Fq1, hq1, _⟩ := J1.out.q
      obtain ⟨a8, cap8, d8, o8, n8⟩ := qin_rowK hq1
      have lb1 := hq1.lt
      have O8 := hid o8
      have N8 := hid n8
      have C8 := hid d8
      have F8 := hid (hq1.frozen 86)
      have LB := hid lb1
      clear o8 n8 hq1 c0 lb
      go_wp2_with (at_builtin; refine wpList_append_mine _ rfl (.tmp 32) (.tmp 34) 52 rfl 9 _ 1 16 Tryd.underlying52 infoS rfl (by omega) (.slice a8 D.keys.length cap8) D.keys.length (D.keys.flatMap strs) rfl (O8.out.alloc _) ⟨y1.heap.size, 0, none⟩ 1 1 (strs t) rfl rfl (by exact news_new y1 (strs t) 9) (strs_one t) ⟨by omega, by omega⟩ ?_; intro v' w1 o1 k1' p1; obtain ⟨a', cap', rfl, _, _⟩ := ownsRow_view o1; have O1 := hid o1; have K2 := hid k1'; have P1 := hid p1; have c8w := kept_cell k1' LB.out N8.out C8.out; have f8w := kept_frozen k1' LB.out N8.out F8.out; clear o1 k1' p1)
      go_ret
      obtain ⟨r1, r2⟩ := J1.out.write (D' := { D with keys := D.keys ++ [t] }) (Q' := Q) (fun Fq q _ => by
        obtain ⟨a, c⟩ := qin_appK q C8.out K2.out t O1.out P1.out
        exact ⟨_, a, c, fun k hk => hk.imp id (fun z => z.1)⟩)
      refine ⟨?_, X.stage t, _, r1, ⟨HK2.out, Or.inr ⟨hu, hl6, rfl, rfl⟩⟩, K1.out.trans r2 (fun _ f => f) (fun _ _ f => f)⟩
      simp
      omega
    · have HP := hid (s2 hl6 hu)
      clear s1 s2 s3
      go_enter Tryd.func54, Tryd.ntmps54
      go_wp2_with (go_at_call 53; refine (HJ.out.callX HP.out).mono ?_; rintro e y1 ⟨rfl, j1, q1⟩; have J1 := hid j1; have K1 := hid q1; clear j1 q1)
      go_ret
      exact ⟨rfl, X, D, J1.out, ⟨HK.out.up, Or.inl ⟨rfl, rfl, Or.inl hu⟩⟩, K1.out⟩
end Go.Proofs.YtphapknfkbgapaaDoor
namespace Go.Proofs.YtphapknfkbgapaaDoor
open Go.RowKit

variable {N : ByteArray → Prop} {G : Nat → Prop} {b bx S n : Nat} {R : Int} {key : ByteArray} {X : PS} {D : PD} {Q : Pods}

/-! known. -/
set_option maxRecDepth 100000 in
set_option maxHeartbeats 4000000 in
theorem knownQ (w : World) (h : JQ w G b bx S R key X D Q) (k : Kn N n X D S R) (hd : D.deeds.length ≤ 100000000) (hf : ∀ t, t < S → ∃ p, X.servers[t]? = some p ∧ p.seen ≠ 0) :
    Calls Tryd.prog 21 #[.pointer (some ⟨b, 0, none⟩)] w fun e w' => e = .returned (.bool true) ∧ JQ w' G b bx S R key X D Q ∧ Kept (fun k => ¬ G k) w w' := by
  have hS := k.srv.2.1
  have HJ := hid h
  have HK := hid k
  have HF := hid hf
  clear h k hf
  go_enter Tryd.func21, Tryd.ntmps21
  go_wp2_with fail
  go_loopg [3] S (fun left iv wr => ∃ i : Nat, left = S - i ∧ i ≤ S ∧ iv = .int .i64 (i : Int) ∧ Hid (JQ wr G b bx S R key X D Q ∧ Kept (fun k => ¬ G k) w wr))
  case atStart => exact ⟨0, rfl, Nat.zero_le _, rfl, HJ.out, Kept.refl _ _⟩
  case round =>
    obtain ⟨i, hgk, hi, rfl, HI⟩ := hrel
    have HGK := hid hgk
    clear hgk
    obtain ⟨Fq, hq, _⟩ := HI.out.1.q
    have c1 := qin_srv hq
    have lb := hq.lt
    clear hq
    by_cases h3 : i < S
    · have q1 : decide ((i : Int) < (S : Int)) = true := by simp; omega
      have q2 : decide (i < S) = true := by simp; omega
      go_wp2_with fail
      go_loopg [4] 6 (fun left kv wz => ∃ j : Nat, left = 6 - j ∧ j ≤ 6 ∧ kv = .int .i64 (j : Int) ∧ Hid (JQ wz G b bx S R key X D Q ∧ Kept (fun k => ¬ G k) w wz))
      case atStart => exact ⟨0, rfl, Nat.zero_le _, rfl, HI.out⟩
      case round =>
        obtain ⟨j, hgk2, hj, rfl, HI2⟩ := hrel
        have HGK2 := hid hgk2
        clear hgk2 c1 lb
        by_cases h4 : j < 6
        · have q3 : decide ((j : Int) < 6) = true := by simp; omega
          have q4 : decide (j < 6) = true := by simp; omega
          obtain ⟨Fq2, hq2, _⟩ := HI2.out.1.q
          obtain ⟨a4, cap4, hc4, _⟩ := qin_deeds hq2
          rw [List.length_map] at hc4
          have HQ2 := hid hq2
          have lb2 := hq2.lt
          clear hq2
          go_upto_region 9 with (first | (go_at_call 44; refine (name_any _ j h4).mono ?_; rintro e y1 ⟨rfl, hy⟩; obtain rfl := hy.symm) | (go_at_call 45; refine (newestD_any _ (nameOf j) D.deeds.length HQ2.out (Nat.le_refl _) (by omega)).mono ?_; rintro e y1 ⟨r, d, rfl, hN, l1⟩; have L1 := hid l1; have HN : Hid (NewD D.deeds (nameOf j) r d) := (by rw [List.take_length] at hN; exact hN); clear l1 hN) | ((with_reducible refine stD (.tmp 6) (.tmp 36) y1.heap.size Dd.zero d ?_ ?_ ?_ ?_); rfl; rfl; exact (Blk.new y1 43 Dd.zero.cells); intro W b2 k2 s2; have B2 := hid b2; have LW : Hid (Low wr.heap.size wr W) := low_set (L1.out.alloc L1.out.size _) k2 L1.out.size (by have := L1.out.size; simp; omega); have NW : Hid (wr.heap.size ≤ y1.heap.size) := L1.out.size; clear b2 k2 s2))
          have JW := hid (HI2.out.1.wide LW.out)
          obtain ⟨Fq3, hq3, _⟩ := JW.out.q
          have c0 := qin_ptr hq3
          have lbW := hq3.lt
          obtain ⟨bl, hP, hbl⟩ := kn_get HK.out h3 (nameOf j) HN.out
          have hbf : bl = false := by
            cases bl
            · rfl
            · obtain ⟨p, hp1, hp2⟩ := hbl rfl
              obtain ⟨p', hp3, hp4⟩ := HF.out i h3
              obtain rfl := Option.some.inj (hp1.symm.trans hp3)
              exact absurd hp2 hp4
          rw [hbf] at hP
          obtain ⟨tx, m, er, hv, hcs⟩ : ∃ (tx : ByteArray) (m er : Int), (if false = true then blindV else tellV r d) = .tuple #[.string tx, .int .i64 m, .int .i64 er] ∧ (tx, m, er) = tells r d := ⟨_, _, _, rfl, rfl⟩
          rw [hv] at hP
          have HP := hid hP
          have HCS := hid (tells_cases hcs)
          clear hP hcs hv hbl hbf hq3 hc4 lb2
          go_upto_region 10 with (go_at_call 46; refine (JW.out.callX HP.out).mono ?_; rintro e y3 ⟨rfl, j3, k3⟩; have J3 := hid j3; have K3 := hid k3; clear j3 k3)
          have B3 : Hid (Blk y3 y1.heap.size 43 d.cells) := B2.out.kept K3.out (fun f => f (Or.inr ⟨NW.out, B2.out.lt⟩))
          have m1 : y3.cell? ⟨y1.heap.size, 1, none⟩ = some (.string d.text) := B3.out.cell 1
          have m2 : y3.cell? ⟨y1.heap.size, 2, none⟩ = some (.bool d.gone) := B3.out.cell 2
          have g0 : Hid (G 0) := by obtain ⟨_, _, q⟩ := HJ.out; exact q.g0
          have R3 : Hid (JQ y3 G b bx S R key X D Q ∧ Kept (fun k => ¬ G k) w y3) := ⟨J3.out.weak (fun _ g => Or.inl g) g0.out, (HI2.out.2.trans LW.out.kept (H := fun k => ¬ G k) (fun _ f => f) (fun _ _ f => f.elim)).trans K3.out (fun _ f => f) (fun _ _ f g => f (Or.inl g))⟩
          clear c0 lbW
          rcases HCS.out with ⟨h0, rfl, rfl, rfl⟩ | ⟨h0, hg, rfl, rfl, rfl⟩ | ⟨h0, hg, rfl, rfl, rfl⟩
          · have q5 : decide ((0 : Int) < (r : Int)) = false := by rw [h0]; decide
            clear HCS
            go_wp2_with fail
            go_roundg (6 - (j + 1))
            case rel => exact ⟨j + 1, rfl, by omega, by simp, R3.out⟩
            case measure => have := HGK2.out; omega
          · have q5 : decide ((0 : Int) < (r : Int)) = true := by simp; omega
            rw [hg] at m2
            clear HCS
            go_wp2_with fail
            go_roundg (6 - (j + 1))
            case rel => exact ⟨j + 1, rfl, by omega, by simp, R3.out⟩
            case measure => have := HGK2.out; omega
          · have q5 : decide ((0 : Int) < (r : Int)) = true := by simp; omega
            rw [hg] at m2
            clear HCS
            go_wp2_with fail
            go_roundg (6 - (j + 1))
            case rel => exact ⟨j + 1, rfl, by omega, by simp, R3.out⟩
            case measure => have := HGK2.out; omega
        · have q3 : decide ((j : Int) < 6) = false := by simp; omega
          have q4 : decide (j < 6) = false := by simp; omega
          go_wp2_with fail
          go_roundg (S - (i + 1))
          case rel => exact ⟨i + 1, rfl, by omega, by simp, HI2.out⟩
          case measure => have := HGK.out; omega
    · have q1 : decide ((i : Int) < (S : Int)) = false := by simp; omega
      have q2 : decide (i < S) = false := by simp; omega
      go_wp2_with fail
      go_ret
      exact ⟨rfl, HI.out.1, HI.out.2⟩
end Go.Proofs.YtphapknfkbgapaaDoor
