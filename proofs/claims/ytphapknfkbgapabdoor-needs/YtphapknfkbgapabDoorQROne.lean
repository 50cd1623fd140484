import Derived.Test.YtphapknfkbgapabDoorQIToQN
import Derived.Test.YtphapknfkbgapabDoorQOToQQ
namespace Go.Proofs.YtphapknfkbgapabDoor
open Go.RowKit

variable {N : ByteArray → Prop} {G : Nat → Prop} {b bx S n : Nat} {R : Int} {key : ByteArray} {X : PS} {D : PD} {Q : Pods}

/-! entries. -/
/-- What entries leaves, behind i of them. -/
def Seen (N : ByteArray → Prop) (n : Nat) (X : PS) (D D' : PD) (S : Nat) (R : Int) (i : Nat) : Prop := Kn N n X D' S R ∧ ∃ l, D' = { D with seen := D.seen ++ l } ∧ l.length ≤ i
theorem Seen.step {D' : PD} {i : Nat} (h : Seen N n X D D' S R i) : Seen N n X D D' S R (i + 1) := by
  obtain ⟨k, l, e, hl⟩ := h
  exact ⟨k, l, e, by omega⟩
theorem Seen.see {D' : PD} {i : Nat} (h : Seen N n X D D' S R i) {e : Ent} (he : e ∈ X.entries) (hg : e.gone = false) (ho : ∀ z ∈ D'.seen, z.rev ≠ e.rev) : Seen N n X D { D' with seen := D'.seen ++ [e] } S R (i + 1) := by
  obtain ⟨k, l, q, hl⟩ := h
  refine ⟨kn_see k he hg ho, l ++ [e], ?_, by simp; omega⟩
  rw [q]
  show ({ D with seen := D.seen ++ l ++ [e] } : PD) = _
  rw [List.append_assoc]
theorem wrap_succ {q n : Nat} (h : q < n) (hn : n ≤ 2180000000000) : wrap64 ((q : Int) + 1) = (q : Int) + 1 := by unfold wrap64; omega
theorem wrap_pred {j jk : Nat} (h : jk = j + 1) (hj : j ≤ 1000000000000000) : wrap64 ((jk : Int) - 1) = (j : Int) := by unfold wrap64; omega
theorem wrap_pred2 {j jk : Nat} (h : jk = j + 1) (hj : j ≤ 1000000000000000) : IntKind.i64.wrap ((jk : Int) - 1) = (j : Int) := by rw [IntKind.wrap_i64]; omega
set_option maxRecDepth 100000 in
set_option maxHeartbeats 4000000 in
theorem entriesQ (w : World) (h : JQ w G b bx S R key X D Q) (k : Kn N n X D S R) (hd : D.deeds.length ≤ 2000000000000) (hs : D.seen.length ≤ 2100000000000) :
    Calls Tryd.prog 22 #[.pointer (some ⟨b, 0, none⟩)] w fun e w' => e = .returned (.bool true) ∧ ∃ D', JQ w' G b bx S R key X D' Q ∧ Seen N n X D D' S R X.entries.length ∧ Kept (fun k => ¬ G k) w w' := by
  have hne : X.entries.length ≤ 60 := by
    obtain ⟨Y, _, hr, _⟩ := k
    have := hr.few
    have := hr.rooms
    omega
  obtain ⟨c0, lb, _⟩ := h.ptr0
  have HJ := hid h
  have HK := hid k
  have g0 : Hid (G 0) := by obtain ⟨_, _, q⟩ := h; exact q.g0
  clear h k
  go_enter Tryd.func22, Tryd.ntmps22
  go_upto_region 3 with (go_at_call 48; refine (HJ.out.entries (by omega)).mono ?_; rintro e y2 ⟨v2, rfl, j2, l2, o2, b2⟩; obtain ⟨a2, cap2, rfl, _, _⟩ := ownsRow_view o2; have J2 := hid j2; have L2 := hid l2; have O2 := hid o2; have B2 := hid b2; clear j2 l2 o2 b2)
  obtain ⟨G1, hG1⟩ : ∃ G1, G1 = (fun i => G i ∨ (w.heap.size ≤ i ∧ i < y2.heap.size)) := ⟨_, rfl⟩
  rw [← hG1] at J2
  have HG1 := hid hG1
  have own1 : Hid (∀ q, (Value.slice a2 X.entries.length cap2).ownBlock = some q → G1 q) := fun q e => by rw [hG1]; exact Or.inr ⟨B2.out q e, (O2.out.lt q e).2⟩
  clear hG1 c0 lb
  go_loopg [4] X.entries.length (fun left iv wr => ∃ i : Nat, left = X.entries.length - i ∧ i ≤ X.entries.length ∧ iv = .int .i64 (i : Int) ∧ Hid (∃ D', JQ wr G1 b bx S R key X D' Q ∧ Seen N n X D D' S R i ∧ Kept (fun k => ¬ G1 k) y2 wr))
  case atStart => exact ⟨0, rfl, Nat.zero_le _, rfl, D, J2.out, ⟨HK.out, [], by simp, Nat.le_refl _⟩, Kept.refl _ _⟩
  case round =>
    obtain ⟨i, hgk, hi, rfl, HI⟩ := hrel
    have HGK := hid hgk
    clear hgk
    obtain ⟨D', hj1, hsn, hk1⟩ := HI.out
    have JR := hid hj1
    have SN := hid hsn
    have KR := hid hk1
    have OR : Hid (wr.ownsRow 0 65 6 (.slice a2 X.entries.length cap2) X.entries.length (X.entries.flatMap Ent.cells)) := owns_kept O2.out hk1 own1.out
    clear hj1 hk1 HI hsn
    by_cases h3 : i < X.entries.length
    · have q3 : decide ((i : Int) < (X.entries.length : Int)) = true := by simp; omega
      have q3n : decide (i < X.entries.length) = true := by simp; omega
      have ixe : (i : Int) < (X.entries.length : Int) := by omega
      obtain ⟨e, he⟩ : ∃ e, X.entries[i]? = some e := ⟨_, List.getElem?_eq_getElem h3⟩
      obtain ⟨⟨m, d, hek⟩, hris⟩ := kn_entry SN.out.1 he
      obtain ⟨s1, t1, z1, _, f1⟩ := ownsRow_view OR.out
      obtain ⟨gl, rfl, hgl, _, _⟩ := f1 (by omega)
      cases z1
      have cell : ∀ (i' : Nat) (e' : Ent), X.entries[i']? = some e' → ∀ q, q < 6 → wr.cell? ⟨gl, i' * 6 + q, none⟩ = e'.cells[q]? := fun i' e' he' q hq => by
        have hl' := (List.getElem?_eq_some_iff.1 he').1
        rw [OR.out.cellAt (i' * 6 + q) (by omega), flat_at 6 Ent.cells Ent.len X.entries i' q e' he' hq]
      have HC : Hid (wr.rangeAt gl (i * 6) e.cells) := range_of (cell i e he) (fun _ _ e => ⟨(List.getElem?_eq_some_iff.1 e).1, e⟩)
      have HCELL := hid cell
      have HE := hid he
      have HEK := hid hek
      have HRIS := hid hris
      clear cell he hek hris f1
      go_upto_region 6 with (first | ((with_reducible refine ld50 (.tmp 25) gl (i * 6) e ?_ HC.out ?_); rfl) | ((with_reducible refine st50 (.tmp 5) (.tmp 26) wr.heap.size Ent.zero e ?_ ?_ ?_ ?_); rfl; rfl; exact (Blk.new wr 65 Ent.zero.cells); intro W b4 k4 s4; have B4 := hid b4; have LW : Hid (Low wr.heap.size wr W) := low_set ((Low.refl _ wr).alloc (Nat.le_refl _) _) k4 (Nat.le_refl _) (by simp); clear b4 k4 s4))
      have JW : Hid (JQ W G1 b bx S R key X D' Q) := JR.out.low LW.out
      obtain ⟨mr, hmr⟩ : ∃ mr : Nat, mr = m + 1 := ⟨_, rfl⟩
      have hrev : e.rev = (mr : Int) := by rw [HEK.out.rev, hmr]; simp
      have r1 : W.cell? ⟨wr.heap.size, 1, none⟩ = some (.int .i64 (mr : Int)) := by rw [← hrev]; exact B4.out.cell 1
      have lM := B4.out.lt
      obtain ⟨Fq, hq, _⟩ := JW.out.q
      obtain ⟨a4, cap4, hc4, hel4⟩ := qin_deeds hq
      rw [List.length_map] at hc4
      have lb := hq.lt
      have hml : m < D'.deeds.length := (List.getElem?_eq_some_iff.1 HEK.out.at_).1
      obtain ⟨gd, ha4, hgd, hdc, _⟩ := hel4 m d.cells (by rw [List.getElem?_map, HEK.out.at_]; rfl)
      subst ha4
      have dc0 : W.cell? ⟨gd, m * 3, none⟩ = some (.string d.path) := hdc 0 (by omega)
      have dc1 : W.cell? ⟨gd, m * 3 + 1, none⟩ = some (.string d.text) := hdc 1 (by omega)
      have dc2 : W.cell? ⟨gd, m * 3 + 2, none⟩ = some (.bool d.gone) := hdc 2 (by omega)
      have DC0 := hid dc0
      have DC1 := hid dc1
      have DC2 := hid dc2
      have t1 : decide ((mr : Int) < 1) = false := by simp; omega
      have t2 : decide ((D'.deeds.length : Int) < (mr : Int)) = false := by simp; omega
      have t2n : decide (D'.deeds.length < mr) = false := by simp; omega
      have hglW : gl < W.heap.size := Nat.lt_of_lt_of_le hgl LW.out.size
      have MR := hid hmr
      have HML := hid hml
      clear hq hel4 hdc dc0 dc1 dc2 hrev hmr
      dsimp only [Act.put]
      go_cut [5, 54] (fun ev cv wc => ev = .pointer (some ⟨wr.heap.size, 0, none⟩) ∧ cv = .bool false ∧ wc = W.drew)
      case first =>
        by_cases hi0 : i = 0
        · have u0 : decide (0 < (i : Int)) = false := by simp; omega
          have u0n : decide (0 < i) = false := by simp; omega
          go_region
          all_goals
            go_wp2_with fail
            go_meet
          all_goals exact ⟨rfl, rfl, rfl⟩
        · obtain ⟨j, hj⟩ : ∃ j, i = j + 1 := ⟨i - 1, by omega⟩
          obtain ⟨c, hc⟩ : ∃ c, X.entries[j]? = some c := ⟨_, List.getElem?_eq_getElem (by omega)⟩
          have pc0 : wr.cell? ⟨gl, j * 6 + 1, none⟩ = some (.int .i64 c.rev) := HCELL.out j c hc 1 (by omega)
          have pc : W.cell? ⟨gl, j * 6 + 1, none⟩ = some (.int .i64 c.rev) := (LW.out.cell (p := ⟨gl, j * 6 + 1, none⟩) hgl).trans pc0
          have hlt := HRIS.out j c (by omega) hc
          have u0 : decide (0 < (i : Int)) = true := by simp; omega
          have u0n : decide (0 < i) = true := by simp; omega
          have u1 : decide ((mr : Int) ≤ c.rev) = false := by
            have := HEK.out.rev
            have := MR.out
            simp
            omega
          have x1 : wrap64 ((i : Int) - 1) = (j : Int) := by unfold wrap64; omega
          have x2 : IntKind.i64.wrap ((i : Int) - 1) = (j : Int) := by rw [IntKind.wrap_i64]; omega
          have x3 : (i : Int) - 1 = (j : Int) := by omega
          have jl : (j : Int) < (X.entries.length : Int) := by omega
          clear pc0 hlt hc hj
          go_region
          all_goals
            go_wp2_with fail
            go_meet
          all_goals exact ⟨rfl, rfl, rfl⟩
      case rest =>
        obtain ⟨rfl, rfl, rfl⟩ := hcut
        have hdd : D'.deeds.length ≤ 2000000000000 := by obtain ⟨_, l, q, _⟩ := SN.out; rw [q]; exact hd
        have ya : wrap64 ((mr : Int) - 1) = (m : Int) := by have := MR.out; have := HML.out; unfold wrap64; omega
        have yb : IntKind.i64.wrap ((mr : Int) - 1) = (m : Int) := by have := MR.out; have := HML.out; rw [IntKind.wrap_i64]; omega
        have yc : (mr : Int) - 1 = (m : Int) := by have := MR.out; omega
        have ml : (m : Int) < (D'.deeds.length : Int) := by have := HML.out; omega
        have dc0 := DC0.out
        have dc1 := DC1.out
        have dc2 := DC2.out
        clear t1 t2 t2n
        go_upto_region 8 with fail
        go_cut [5, 6] (fun ev dv wc => ev = .pointer (some ⟨wr.heap.size, 0, none⟩) ∧ dv = .pointer (some ⟨W.heap.size, 0, none⟩) ∧ Hid (Low wr.heap.size wr wc ∧ Blk wc wr.heap.size 65 e.cells ∧ Blk wc W.heap.size 38 d.cells))
        case first =>
          go_region
          all_goals
            go_wp2_with fail
            go_meet
          all_goals exact ⟨rfl, rfl, ((LW.out.alloc LW.out.size _).drew).drew, B4.out.alloc _, Blk.new W 38 d.cells⟩
        case rest =>
          obtain ⟨rfl, rfl, HM⟩ := hcut
          have JC : Hid (JQ wc G1 b bx S R key X D' Q) := JR.out.low HM.out.1
          have KC : Hid (Kept (fun k => ¬ G1 k) y2 wc) := KR.out.trans HM.out.1.kept (fun _ f => f) (fun _ _ f => f.elim)
          clear dc0 dc1 dc2 DC0 DC1 DC2 ya yb yc ml r1 hc4 B4 JW LW lM lb hgd hglW
          have e0 : wc.cell? ⟨wr.heap.size, 0, none⟩ = some (.string e.path) := HM.out.2.1.cell 0
          have e5 : wc.cell? ⟨wr.heap.size, 5, none⟩ = some (.bool e.gone) := HM.out.2.1.cell 5
          have d0 : wc.cell? ⟨W.heap.size, 0, none⟩ = some (.string e.path) := by rw [HEK.out.path]; exact HM.out.2.2.cell 0
          have d2 : wc.cell? ⟨W.heap.size, 2, none⟩ = some (.bool e.gone) := by rw [HEK.out.gone]; exact HM.out.2.2.cell 2
          have v1 : (e.path.toList != e.path.toList) = false := by simp
          have v2 : (e.gone != e.gone) = false := by simp
          cases hgo : e.gone
          · obtain ⟨hok, hdr, j, t, hkey, hkt, ht48, hdst, hop, hmk⟩ := HEK.out.shut hgo
            obtain ⟨jk, hjk⟩ : ∃ jk : Nat, jk = j + 1 := ⟨_, rfl⟩
            have hkey2 : e.key = (jk : Int) := by rw [hkey, hjk]; simp
            have e2 : wc.cell? ⟨wr.heap.size, 2, none⟩ = some (.int .i64 (jk : Int)) := by rw [← hkey2]; exact HM.out.2.1.cell 2
            have e3 : wc.cell? ⟨wr.heap.size, 3, none⟩ = some (.int .i64 e.draw) := HM.out.2.1.cell 3
            have e4 : wc.cell? ⟨wr.heap.size, 4, none⟩ = some (.string e.sealed) := HM.out.2.1.cell 4
            have d1 : wc.cell? ⟨W.heap.size, 1, none⟩ = some (.string d.text) := HM.out.2.2.cell 1
            obtain ⟨Fq, hq, _⟩ := JC.out.q
            obtain ⟨a6, cap6, hc6, hel6⟩ := qin_keys hq
            rw [List.length_map] at hc6
            obtain ⟨gk, ha6, hgk, hkc, _⟩ := hel6 j (strs t) (by rw [List.getElem?_map, hkt]; rfl)
            subst ha6
            have kc : wc.cell? ⟨gk, j, none⟩ = some (.string t) := by
              have := hkc 0 (by omega)
              rw [Nat.mul_one, Nat.add_zero] at this
              exact this
            have hjl : j < D'.keys.length := (List.getElem?_eq_some_iff.1 hkt).1
            have dst : wc.cell? ⟨b, 22 + jk, none⟩ = some (.bool false) := by
              have := qin_dest hq hdst
              rw [hjk]; exact this
            have lb := hq.lt
            have lE := HM.out.2.1.lt
            have jk7 : jk < 7 := by have := hq.1.dest; have := (List.getElem?_eq_some_iff.1 hdst).1; omega
            have t1 : decide ((jk : Int) < 1) = false := by simp; omega
            have t2 : decide ((D'.keys.length : Int) < (jk : Int)) = false := by simp; omega
            have t2n : decide (D'.keys.length < jk) = false := by simp; omega
            have t3 : decide (e.draw < 1) = false := by simp; omega
            have jk7i : (jk : Int) < 7 := by omega
            have t1n : decide (jk < 1) = false := by simp; omega
            have j0 : jk ≠ 0 := by omega
            have HOK := hid hok
            have HT48 := hid ht48
            have HOP := hid hop
            have HMK := hid hmk
            have JK := hid hjk
            have HJL := hid hjl
            have KC6 := hid kc
            have HC6 := hid hc6
            have E0 := hid e0
            have E4 := hid e4
            have E2 := hid e2
            have D1 := hid d1
            have HGKK := hid hgk
            rw [hgo] at e5 d2 v2
            clear hq hel6 hkc hkt hdst hok hop hmk hkey hkey2 hdr kc hjl hjk ht48 hml j0
            go_upto_region 12 with fail
            go_cut [5, 6, 104] (fun ev dv cv wd => ev = .pointer (some ⟨wr.heap.size, 0, none⟩) ∧ dv = .pointer (some ⟨W.heap.size, 0, none⟩) ∧ cv = .bool false ∧ wd = wc.drew)
            case first =>
              go_region
              all_goals
                go_wp2_with fail
                go_meet
              all_goals exact ⟨rfl, rfl, rfl, rfl⟩
            case rest =>
              obtain ⟨rfl, rfl, rfl, rfl⟩ := hcut
              clear t1 t1n t2 t2n t3 dst e0 e4 e5 d0 d2 v1 v2 jk7i hc6 e2 d1 jk7
              go_upto_region 15 with (go_at_call 49; refine (nonceD_any _ e.draw HOK.out.draw.1 HOK.out.draw.2).mono ?_; rintro x y5 ⟨rfl, l5⟩; have L5 : Hid (Low wc.heap.size wc y5) := ((Low.refl _ wc).drew).trans l5; clear l5)
              have e0 : y5.cell? ⟨wr.heap.size, 0, none⟩ = some (.string e.path) := (L5.out.cell (p := ⟨wr.heap.size, 0, none⟩) lE).trans E0.out
              have e2 : y5.cell? ⟨wr.heap.size, 2, none⟩ = some (.int .i64 (jk : Int)) := (L5.out.cell (p := ⟨wr.heap.size, 2, none⟩) lE).trans E2.out
              have e4 : y5.cell? ⟨wr.heap.size, 4, none⟩ = some (.string e.sealed) := (L5.out.cell (p := ⟨wr.heap.size, 4, none⟩) lE).trans E4.out
              have hc6 : y5.cell? ⟨b, 86, none⟩ = some (.slice (some ⟨gk, 0, none⟩) D'.keys.length cap6) := (L5.out.cell (p := ⟨b, 86, none⟩) lb).trans HC6.out
              have kc : y5.cell? ⟨gk, j, none⟩ = some (.string t) := (L5.out.cell (p := ⟨gk, j, none⟩) HGKK.out).trans KC6.out
              have lb5 : b < y5.heap.size := Nat.lt_of_lt_of_le lb L5.out.size
              have lE5 : wr.heap.size < y5.heap.size := Nat.lt_of_lt_of_le lE L5.out.size
              have lg5 : gk < y5.heap.size := Nat.lt_of_lt_of_le HGKK.out L5.out.size
              have ya : wrap64 ((jk : Int) - 1) = (j : Int) := wrap_pred JK.out (by have := HJL.out; have := SN.out.1.keys; omega)
              have yb : IntKind.i64.wrap ((jk : Int) - 1) = (j : Int) := wrap_pred2 JK.out (by have := HJL.out; have := SN.out.1.keys; omega)
              have jl : (j : Int) < (D'.keys.length : Int) := by have := HJL.out; omega
              have J5 : Hid (JQ y5 G1 b bx S R key X D' Q) := JC.out.low L5.out
              have HOPEN : Hid (∀ V, Low y5.heap.size y5 V → Calls Tryd.prog 50 #[.string t, .string (nonceTo e.draw 12), .string e.path, .string e.sealed] V fun x w' => x = .returned (.tuple #[.string d.text, .int .i64 0]) ∧ Low y5.heap.size y5 w') := fun V hV => by
                have q := Open_yes t (nonceTo e.draw 12) e.path e.sealed V ⟨HT48.out, nonceTo_size _ _, HOK.out.path.1, HOK.out.path.2⟩ HOK.out.sealed.1 HOK.out.sealed.2 (by have q0 := HOP.out; unfold openB at q0; unfold opens; simpa using q0) (fours_low J5.out.f4 J5.out.pos hV) (Nat.le_trans J5.out.pos hV.size)
                rw [HMK.out] at q
                exact q.mono (fun x w' ⟨h1, h2⟩ => ⟨h1, hV.trans (h2.mono hV.size)⟩)
              clear lE lb hgk
              go_region_held3 (fun W' => W'.cell? ⟨b, 86, none⟩ = some (.slice (some ⟨gk, 0, none⟩) D'.keys.length cap6) ∧ W'.cell? ⟨wr.heap.size, 2, none⟩ = some (.int .i64 (jk : Int)) ∧ W'.cell? ⟨gk, j, none⟩ = some (.string t) ∧ W'.cell? ⟨wr.heap.size, 0, none⟩ = some (.string e.path) ∧ W'.cell? ⟨wr.heap.size, 4, none⟩ = some (.string e.sealed)) (first | assumption | go_keep)
                (first | (go_at_call 50; refine (HOPEN.out _ (Low.refl _ y5).drew).mono ?_; rintro x y6 ⟨rfl, l6⟩; have S6 : y6.cell? ⟨b, 86, none⟩ = some (.slice (some ⟨gk, 0, none⟩) D'.keys.length cap6) ∧ y6.cell? ⟨wr.heap.size, 2, none⟩ = some (.int .i64 (jk : Int)) ∧ y6.cell? ⟨gk, j, none⟩ = some (.string t) ∧ y6.cell? ⟨wr.heap.size, 0, none⟩ = some (.string e.path) ∧ y6.cell? ⟨wr.heap.size, 4, none⟩ = some (.string e.sealed) := ⟨(l6.cell (p := ⟨b, 86, none⟩) lb5).trans hc6, (l6.cell (p := ⟨wr.heap.size, 2, none⟩) lE5).trans e2, (l6.cell (p := ⟨gk, j, none⟩) lg5).trans kc, (l6.cell (p := ⟨wr.heap.size, 0, none⟩) lE5).trans e0, (l6.cell (p := ⟨wr.heap.size, 4, none⟩) lE5).trans e4⟩; have L6 := hid l6; clear l6))
              all_goals
                clear S6 e0 e2 e4 hc6 kc ya yb jl
                have LZ : Hid (Low wr.heap.size wr y6) := HM.out.1.trans ((L5.out.trans (L6.out.mono L5.out.size)).mono HM.out.1.size)
                have JZ : Hid (JQ y6 G1 b bx S R key X D' Q) := J5.out.low L6.out
                have BE : Hid (Blk y6 wr.heap.size 65 e.cells) := (HM.out.2.1.low L5.out HM.out.2.1.lt).low L6.out lE5
                have BD : Hid (Blk y6 W.heap.size 38 d.cells) := (HM.out.2.2.low L5.out HM.out.2.2.lt).low L6.out (Nat.lt_of_lt_of_le HM.out.2.2.lt L5.out.size)
                have d1 : y6.cell? ⟨W.heap.size, 1, none⟩ = some (.string d.text) := BD.out.cell 1
                have v1 : (d.text.toList != d.text.toList) = false := by simp
                have lE6 := BE.out.lt
                clear lb5 lE5 lg5
                go_upto_region 18 with fail
                have HSN : Hid (D'.seen.length ≤ 2180000000000) := by
                  show _ ≤ _
                  obtain ⟨_, l, q, hl⟩ := SN.out
                  rw [q]
                  show (D.seen ++ l).length ≤ _
                  rw [List.length_append]
                  omega
                have HEM : Hid (e ∈ X.entries) := List.mem_of_getElem? HE.out
                have KZ : Hid (Kept (fun k => ¬ G1 k) y2 y6) := KR.out.trans LZ.out.kept (fun _ f => f) (fun _ _ f => f.elim)
                clear d1 v1 KC
                obtain ⟨W0, rfl⟩ : ∃ W0, W0 = wr := ⟨wr, rfl⟩
                go_wp2_with fail
                go_loopg [10] D'.seen.length (fun left kv wx => ∃ q : Nat, left = D'.seen.length - q ∧ q ≤ D'.seen.length ∧ kv = .int .i64 (q : Int) ∧ Hid (Low y6.heap.size y6 wx))
                case atStart => exact ⟨0, rfl, Nat.zero_le _, rfl, Low.refl _ _⟩
                case round =>
                  obtain ⟨q, hgq, hqi, rfl, LX⟩ := hrel
                  have HGQ := hid hgq
                  have JX : Hid (JQ wr G1 b bx S R key X D' Q) := JZ.out.low LX.out
                  have BX : Hid (Blk wr W0.heap.size 65 e.cells) := BE.out.low LX.out lE6
                  obtain ⟨Fq6, hq6, _⟩ := JX.out.q
                  obtain ⟨a8, cap8, hc8, hel8⟩ := qin_seen hq6
                  rw [List.length_map] at hc8
                  have lb6 := hq6.lt
                  have lX := BX.out.lt
                  have HEL8 := hid hel8
                  clear hgq hq6 hel8
                  by_cases h5 : q < D'.seen.length
                  · have p3 : decide ((q : Int) < (D'.seen.length : Int)) = true := by simp; omega
                    have p3n : decide (q < D'.seen.length) = true := by simp; omega
                    have ql : (q : Int) < (D'.seen.length : Int) := by omega
                    obtain ⟨z, hz⟩ : ∃ z, D'.seen[q]? = some z := ⟨_, List.getElem?_eq_getElem h5⟩
                    obtain ⟨k1, k2⟩ := kn_told SN.out.1 HEM.out hgo (List.mem_of_getElem? hz)
                    obtain ⟨g8, ha8, hg8, hzc, _⟩ := HEL8.out q z.cells (by rw [List.getElem?_map, hz]; rfl)
                    subst ha8
                    have r1 : wr.cell? ⟨W0.heap.size, 1, none⟩ = some (.int .i64 e.rev) := BX.out.cell 1
                    have r3 : wr.cell? ⟨W0.heap.size, 3, none⟩ = some (.int .i64 e.draw) := BX.out.cell 3
                    have z1 : wr.cell? ⟨g8, q * 6 + 1, none⟩ = some (.int .i64 z.rev) := hzc 1 (by omega)
                    have z3 : wr.cell? ⟨g8, q * 6 + 3, none⟩ = some (.int .i64 z.draw) := hzc 3 (by omega)
                    cases hsm : (z.rev == e.rev)
                    · have hne1 : ¬ z.rev = e.rev := by simpa using hsm
                      have hdm : (z.draw == e.draw) = false := by rw [beq_eq_false_iff_ne]; exact fun q => hne1 (k1.2 q)
                      clear k1 k2 hzc hz hne1
                      go_upto_region 21 with fail
                      go_cut [11] (fun sv wd => sv = .bool false ∧ wd = wr.drew)
                      case first =>
                        go_region
                        all_goals
                          go_wp2_with fail
                          go_meet
                        all_goals exact ⟨rfl, rfl⟩
                      case rest =>
                        obtain ⟨rfl, rfl⟩ := hcut
                        go_upto_region 22 with fail
                        go_region
                        all_goals go_wp2_with fail
                        all_goals go_roundg (D'.seen.length - (q + 1))
                        all_goals try (case rel => exact ⟨q + 1, rfl, by omega, by simp; exact wrap_succ h5 HSN.out, LX.out.drew.drew⟩)
                        all_goals (have := HGQ.out; omega)
                    · obtain rfl := k2 (by simpa using hsm)
                      have r0 : wr.cell? ⟨W0.heap.size, 0, none⟩ = some (.string z.path) := BX.out.cell 0
                      have r2 : wr.cell? ⟨W0.heap.size, 2, none⟩ = some (.int .i64 z.key) := BX.out.cell 2
                      have r4 : wr.cell? ⟨W0.heap.size, 4, none⟩ = some (.string z.sealed) := BX.out.cell 4
                      have r5 : wr.cell? ⟨W0.heap.size, 5, none⟩ = some (.bool z.gone) := BX.out.cell 5
                      have z0 : wr.cell? ⟨g8, q * 6, none⟩ = some (.string z.path) := hzc 0 (by omega)
                      have z2 : wr.cell? ⟨g8, q * 6 + 2, none⟩ = some (.int .i64 z.key) := hzc 2 (by omega)
                      have z4 : wr.cell? ⟨g8, q * 6 + 4, none⟩ = some (.string z.sealed) := hzc 4 (by omega)
                      have z5 : wr.cell? ⟨g8, q * 6 + 5, none⟩ = some (.bool z.gone) := hzc 5 (by omega)
                      have HGO := hid hgo
                      clear k1 k2 hzc hz hsm hgo
                      go_upto_region 21 with fail
                      go_cut [11] (fun sv wd => sv = .bool true ∧ wd = wr.drew)
                      case first =>
                        go_region
                        all_goals
                          go_wp2_with fail
                          go_meet
                        all_goals exact ⟨by simp, rfl⟩
                      case rest =>
                        obtain ⟨rfl, rfl⟩ := hcut
                        go_upto_region 22 with fail
                        go_region
                        all_goals go_wp2_with fail
                        all_goals go_roundg (D'.seen.length - (q + 1))
                        all_goals try (case rel => exact ⟨q + 1, rfl, by omega, by simp; exact wrap_succ h5 HSN.out, LX.out.drew.drew⟩)
                        all_goals (have := HGQ.out; omega)
                  · have p3 : decide ((q : Int) < (D'.seen.length : Int)) = false := by simp; omega
                    have p3n : decide (q < D'.seen.length) = false := by simp; omega
                    have KX : Hid (Kept (fun k => ¬ G1 k) y2 wr) := KZ.out.trans LX.out.kept (fun _ f => f) (fun _ _ f => f.elim)
                    clear HEL8
                    go_wp2_with (first | ((with_reducible refine ld50 (.tmp 5) W0.heap.size 0 e ?_ BX.out.whole ?_); rfl) | (go_at_call 51; refine (seeQ _ e JX.out HSN.out).mono ?_; rintro x y8 ⟨rfl, D2, j8, hD2, k8⟩; have J8 := hid j8; have K8 : Hid (Kept (fun k => ¬ G1 k) y2 y8) := KX.out.trans k8 (fun _ f => f) (fun _ _ f => f); have HD2 := hid hD2; clear j8 k8 hD2))
                    go_roundg (X.entries.length - (i + 1))
                    case rel =>
                      refine ⟨i + 1, rfl, by omega, by simp, D2, J8.out, ?_, K8.out⟩
                      rcases HD2.out with h | ⟨ho, h⟩
                      · rw [h]; exact SN.out.step
                      · rw [h]; exact SN.out.see HEM.out hgo ho
                    case measure => have := HGK.out; omega
          · rw [hgo] at e5 d2 v2
            go_wp2_with fail
            go_roundg (X.entries.length - (i + 1))
            case rel => exact ⟨i + 1, rfl, by omega, by simp, D', JC.out, SN.out.step, KC.out⟩
            case measure => have := HGK.out; omega
    · have q3 : decide ((i : Int) < (X.entries.length : Int)) = false := by simp; omega
      have q3n : decide (i < X.entries.length) = false := by simp; omega
      obtain rfl : i = X.entries.length := by omega
      go_wp2_with fail
      go_ret
      refine ⟨rfl, D', JR.out.weak (fun _ g => by rw [HG1.out]; exact Or.inl g) g0.out, SN.out, ?_⟩
      exact L2.out.kept.trans KR.out (fun _ f => f.elim) (fun _ _ f g => f (by rw [HG1.out]; exact Or.inl g))
end Go.Proofs.YtphapknfkbgapabDoor
