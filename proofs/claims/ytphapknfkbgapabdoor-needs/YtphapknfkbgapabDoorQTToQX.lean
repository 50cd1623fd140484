import Derived.Test.YtphapknfkbgapabDoorQCToQG
import Derived.Test.YtphapknfkbgapabDoorPOToRelE
import Derived.Test.YtphapknfkbgapabDoorQOToQQ
import Derived.Test.YtphapknfkbgapabDoorQHOne
import Derived.Test.YtphapknfkbgapabDoorQSOne
import Derived.Test.YtphapknfkbgapabDoorLaid
import Derived.Deep.DeepHandedRow
import Derived.Deep.Slices
import Derived.Lib.SmallJoins
import Derived.WideKeyArgs
import Derived.SizedLaws
namespace Go.Proofs.YtphapknfkbgapabDoor
open Go.RowKit

variable {N : ByteArray → Prop} {G : Nat → Prop} {b bx S n : Nat} {R : Int} {key : ByteArray} {X : PS} {D : PD} {Q : Pods}

/-! config. -/
theorem szC (s r : Int) (k : ByteArray) : (Tryd.prog.info? 23).map (·.size) = some (cfgL s r k).length := show _ = some 3 by kernel_rfl
theorem cfgL_one (s r : Int) (k : ByteArray) : ∀ v ∈ cfgL s r k, v.oneCell' = true := by simp [cfgL, Value.oneCell']
theorem ldC {ops : Array Oper} {rest : List Oper} {d : Option Tmp} {t0 : TypeId} {pos : String} {after : Array Edge} {f : Act} {w : World} {Q : Exit → Act → World → Prop} (x : Operand) (b o : Nat) (s r : Int) (k : ByteArray)
    (hx : f.eval x = .pointer (some ⟨b, o, none⟩)) (hc : w.rangeAt b o (cfgL s r k)) (h : wpList Tryd.prog ops Q rest (f.put d (.agg (cfgL s r k).toArray)) w) :
    wpList Tryd.prog ops Q ({ dst := d, op := .load 23 x, type := t0, pos := pos, after := after, guard := none } :: rest) f w :=
  ldAny 23 x b o (cfgL s r k) _ hx hc Tryd.underlying23 rfl (szC s r k) h
theorem stC {ops : Array Oper} {rest : List Oper} {d : Option Tmp} {t0 : TypeId} {pos : String} {after : Array Edge} {f : Act} {w : World} {Q : Exit → Act → World → Prop} (x y : Operand) (b : Nat) (s0 r0 : Int) (k0 : ByteArray) (s r : Int) (k : ByteArray)
    (hx : f.eval x = .pointer (some ⟨b, 0, none⟩)) (hy : f.eval y = .agg (cfgL s r k).toArray) (hB : Blk w b 23 (cfgL s0 r0 k0))
    (h : ∀ w', Blk w' b 23 (cfgL s r k) → Kept (fun k => k = b) w w' → w'.heap.size = w.heap.size → wpList Tryd.prog ops Q rest (f.put d undef) w') :
    wpList Tryd.prog ops Q ({ dst := d, op := .store 23 x y, type := t0, pos := pos, after := after, guard := none } :: rest) f w :=
  stBlk 23 x y b 23 (cfgL s0 r0 k0) (cfgL s r k) hx hy hB rfl (szC s r k) (cfgL_one s r k) h
set_option maxRecDepth 100000 in
set_option maxHeartbeats 2000000 in
theorem config_any (w : World) (sv rm : Int) (ky : ByteArray) (hs : i64 sv) (hr : i64 rm) :
    Calls Tryd.prog 12 #[.agg #[.int .i64 sv, .int .i64 rm, .string ky]] w fun e w' => ∃ (m r : Nat) (k : ByteArray), e = .returned (.agg (cfgL (m : Int) (r : Int) k).toArray) ∧ (1 ≤ m ∧ m ≤ 4) ∧ (8 ≤ r ∧ r ≤ 60) ∧ k.size = 48 ∧ Low w.heap.size w w' := by
  obtain ⟨s0, s1⟩ := hs
  obtain ⟨r0, r1⟩ := hr
  go_enter Tryd.func12, Tryd.ntmps12
  go_upto_region 1 with fail
  go_name_world W hW
  have LW : Hid (Low w.heap.size w W) := by
    show Low _ _ _
    rw [← hW]; exact ((Low.refl _ w).alloc (Nat.le_refl _) _).alloc (by simp) _
  have BA : Hid (Blk W w.heap.size 23 (cfgL sv rm ky)) := by
    show Blk W _ _ _
    rw [← hW]; exact (Blk.new w 23 (cfgL sv rm ky)).alloc _
  have BR : Hid (Blk W (w.heap.size + 1) 23 (cfgL 0 0 ⟨#[]⟩)) := by
    show Blk W _ _ _
    rw [← hW]
    exact blk2 w _ 23 (cfgL 0 0 ⟨#[]⟩)
  have p0 : W.cell? ⟨w.heap.size, 0, none⟩ = some (.int .i64 sv) := BA.out.cell 0
  have p1 : W.cell? ⟨w.heap.size, 1, none⟩ = some (.int .i64 rm) := BA.out.cell 1
  have p2 : W.cell? ⟨w.heap.size, 2, none⟩ = some (.string ky) := BA.out.cell 2
  have q0 : W.cell? ⟨w.heap.size + 1, 0, none⟩ = some (.int .i64 0) := BR.out.cell 0
  have q1 : W.cell? ⟨w.heap.size + 1, 1, none⟩ = some (.int .i64 0) := BR.out.cell 1
  have q2 : W.cell? ⟨w.heap.size + 1, 2, none⟩ = some (.string ⟨#[]⟩) := BR.out.cell 2
  have f0 := BR.out.frozen 0
  have f1 := BR.out.frozen 1
  have f2 := BR.out.frozen 2
  have lA := BA.out.lt
  have lR := BR.out.lt
  have n1 : w.heap.size ≠ w.heap.size + 1 := by omega
  have n2 : w.heap.size + 1 ≠ w.heap.size := by omega
  clear hW
  go_region_held3 (fun W' => W'.cell? ⟨w.heap.size, 0, none⟩ = some (.int .i64 sv) ∧ W'.cell? ⟨w.heap.size, 1, none⟩ = some (.int .i64 rm) ∧ W'.cell? ⟨w.heap.size, 2, none⟩ = some (.string ky)) (first | assumption | go_keep)
    (first | (go_at_call_of 17 (Value.int IntKind.i64 4); refine (pick_some sv 4 _ (by omega) (by omega) s0 s1).mono ?_; rintro e y3 ⟨a, rfl, ha, rfl⟩; have S3 : W.drew.cell? ⟨w.heap.size, 0, none⟩ = some (.int .i64 sv) ∧ W.drew.cell? ⟨w.heap.size, 1, none⟩ = some (.int .i64 rm) ∧ W.drew.cell? ⟨w.heap.size, 2, none⟩ = some (.string ky) := ⟨p0, p1, p2⟩; have xa : wrap64 (1 + (a : Int)) = 1 + (a : Int) := (by unfold wrap64; omega); have xb : IntKind.i64.wrap (1 + (a : Int)) = 1 + (a : Int) := (by rw [IntKind.wrap_i64]; omega); have HA := hid ha; clear ha) | (go_at_call 17; refine (pick_some rm 53 _ (by omega) (by omega) r0 r1).mono ?_; rintro e y3 ⟨c, rfl, hc, rfl⟩; have S4 : W.drew.cell? ⟨w.heap.size, 0, none⟩ = some (.int .i64 sv) ∧ W.drew.cell? ⟨w.heap.size, 1, none⟩ = some (.int .i64 rm) ∧ W.drew.cell? ⟨w.heap.size, 2, none⟩ = some (.string ky) := ⟨p0, p1, p2⟩; have xc : wrap64 (8 + (c : Int)) = 8 + (c : Int) := (by unfold wrap64; omega); have xd : IntKind.i64.wrap (8 + (c : Int)) = 8 + (c : Int) := (by rw [IntKind.wrap_i64]; omega); have HC := hid hc; clear hc) | (go_at_call 30; refine (keyOf_any _ _).mono ?_; rintro e y3 ⟨kt, rfl, hkt, rfl⟩; have S5 : W.drew.cell? ⟨w.heap.size, 0, none⟩ = some (.int .i64 sv) ∧ W.drew.cell? ⟨w.heap.size, 1, none⟩ = some (.int .i64 rm) ∧ W.drew.cell? ⟨w.heap.size, 2, none⟩ = some (.string ky) := ⟨p0, p1, p2⟩; have HKT := hid hkt; clear hkt))
  all_goals
    go_wp2_with fail
    (try simp only [Exit.then])
    have e1 : ((1 + a : Nat) : Int) = 1 + (a : Int) := by simp
    have e2 : ((8 + c : Nat) : Int) = 8 + (c : Int) := by simp
    have BW : Hid (Blk (((W.setCell ⟨w.heap.size + 1, 0, none⟩ (.int .i64 (1 + (a : Int)))).setCell ⟨w.heap.size + 1, 1, none⟩ (.int .i64 (8 + (c : Int)))).setCell ⟨w.heap.size + 1, 2, none⟩ (.string kt)).drew (w.heap.size + 1) 23 (cfgL (1 + (a : Int)) (8 + (c : Int)) kt)) := ((BR.out.set 0 (.int .i64 (1 + (a : Int)))).set 1 (.int .i64 (8 + (c : Int)))).set 2 (.string kt)
    refine bodyPost_ret (results_cell rfl (w.heap.size + 1) (cfgL (1 + (a : Int)) (8 + (c : Int)) kt) _ rfl BW.out.whole Tryd.underlying23 rfl (szC _ _ _)) rfl ?_
    refine ⟨1 + a, 8 + c, kt, by rw [e1, e2], ⟨by omega, by have := HA.out; omega⟩, ⟨by omega, by have := HC.out; omega⟩, HKT.out, ?_⟩
    exact (((LW.out.setCell (by show w.heap.size ≤ w.heap.size + 1; omega) _).setCell (by show w.heap.size ≤ w.heap.size + 1; omega) _).setCell (by show w.heap.size ≤ w.heap.size + 1; omega) _).drew
/-! player. -/
abbrev playL (bx : Nat) (m r : Int) (k : ByteArray) (kb : Nat) : List Value := [.pointer (some ⟨bx, 0, none⟩), .int .i64 m, .int .i64 r, .string k, .slice none 0 0, .int .i64 0, .bool false, .string ⟨#[]⟩, .string ⟨#[]⟩, .bool false, .bool false, .string ⟨#[]⟩, .string ⟨#[]⟩, .bool false, .bool false, .string ⟨#[]⟩, .string ⟨#[]⟩, .bool false, .bool false, .string ⟨#[]⟩, .string ⟨#[]⟩, .bool false, .bool false, .bool false, .bool false, .bool false, .bool false, .bool false, .bool false, .int .i64 0, .int .i64 0, .int .i64 0, .int .i64 0, .int .i64 0, .int .i64 0, .int .i64 0, .int .i64 0, .bool false, .bool false, .bool false, .bool false, .bool false, .bool false, .bool false, .bool false, .bool false, .bool false, .bool false, .bool false, .bool false, .bool false, .bool false, .bool false, .bool false, .bool false, .bool false, .bool false, .bool false, .bool false, .bool false, .bool false, .bool false, .bool false, .bool false, .bool false, .bool false, .bool false, .bool false, .bool false, .bool false, .bool false, .bool false, .bool false, .bool false, .bool false, .bool false, .bool false, .bool false, .bool false, .bool false, .bool false, .bool false, .bool false, .bool false, .bool false, .slice none 0 0, .slice (some ⟨kb, 0, none⟩) 1 1]
def pods0 : Pods := ⟨List.replicate 8 0, List.replicate 8 (List.replicate 6 false)⟩
theorem playL_eq (bx m : Nat) (r : Int) (k : ByteArray) (kb : Nat) : playL bx (m : Int) r k kb = qcells bx m r k (PD.new k) pods0 (.slice none 0 0) (.slice none 0 0) (.slice (some ⟨kb, 0, none⟩) 1 1) := by kernel_rfl
theorem qin_new {w : World} {b bx m kb : Nat} {r : Int} {k : ByteArray} {F : Nat → Prop} (hb : Blk w b 49 (playL bx (m : Int) r k kb)) (hk : Blk w kb 9 [.string k]) (hne : kb ≠ b) (f1 : F b) (f2 : F kb) (hF : ∀ i, F i → i < w.heap.size) : QIn w F b bx m r k (PD.new k) pods0 := by
  refine ⟨⟨rfl, rfl, rfl, rfl, fun l hl => by obtain rfl := (List.mem_replicate.1 hl).2; rfl⟩, .slice none 0 0, .slice none 0 0, .slice (some ⟨kb, 0, none⟩) 1 1, ?_⟩
  rw [playL_eq] at hb
  refine ⟨hb, f1, hF, fun i => if i = b then 0 else 3, by simp, fun j x hj => ?_⟩
  have hj3 : j = 0 ∨ j = 1 ∨ j = 2 ∨ 3 ≤ j := by omega
  rcases hj3 with rfl | rfl | rfl | h5
  · obtain rfl := (Option.some.inj hj).symm
    exact ⟨.slice none 0 0, rfl, World.ownsRow_nil _ _ _ _, fun i hi => by cases hi⟩
  · obtain rfl := (Option.some.inj hj).symm
    exact ⟨.slice none 0 0, rfl, World.ownsRow_nil _ _ _ _, fun i hi => by cases hi⟩
  · obtain rfl := (Option.some.inj hj).symm
    refine ⟨.slice (some ⟨kb, 0, none⟩) 1 1, rfl, ⟨rfl, Or.inr ⟨kb, 1, _, rfl, Nat.zero_le _, hk, Nat.le_refl _, by decide, rfl, rfl⟩⟩, fun i hi => ?_⟩
    obtain rfl : kb = i := Option.some.inj hi
    exact ⟨f2, by simp [hne]⟩
  · rw [List.getElem?_eq_none (by simpa [PD.rows] using h5)] at hj
    cases hj
def nodesTo (i : Nat) : Pods := ⟨List.replicate i (-1) ++ List.replicate (8 - i) 0, List.replicate 8 (List.replicate 6 false)⟩
theorem nodesTo_set {i : Nat} (hi : i < 8) : ({ nodesTo i with node := (nodesTo i).node.set i (-1) } : Pods) = nodesTo (i + 1) := by
  rcases eight hi with rfl | rfl | rfl | rfl | rfl | rfl | rfl | rfl <;> rfl
theorem nodesTo_at {i : Nat} (hi : i < 8) : (nodesTo i).node[i]? = some 0 := by
  rcases eight hi with rfl | rfl | rfl | rfl | rfl | rfl | rfl | rfl <;> rfl
theorem Kn.small (h : Kn N n X D S R) : X.entries.length ≤ D.deeds.length ∧ X.room = R := by
  obtain ⟨Y, _, h, k, _, r0, _⟩ := h
  refine ⟨?_, by rw [h.room]; exact r0⟩
  rw [h.ent, k.deeds]
  exact keptOf_le _
def firstAct : AAct := ⟨0, 0, -1, 0, ⟨#[97]⟩, ⟨#[116, 104, 101, 32, 102, 105, 114, 115, 116]⟩, false⟩
theorem firstAct_ok : AOk firstAct := ⟨⟨by decide, by decide⟩, ⟨by decide, by decide⟩, ⟨by decide, by decide⟩, ⟨by decide, by decide⟩, by decide, by decide⟩
theorem nodes_all (k : ByteArray) : nodesTo 8 = (PD.new k).pods := rfl
theorem fresh_new (m : Nat) (room : Int) (k : ByteArray) (hm : 1 ≤ m) : (PS.new m room k).servers[0]? = some PSrv.zero ∧ FreshAt ((PS.new m room k).refresh 0 PSrv.zero) 0 := by
  have h0 : (PS.new m room k).servers[0]? = some PSrv.zero := by
    show (List.replicate m PSrv.zero)[0]? = _
    rw [List.getElem?_replicate, if_pos (by omega)]
  refine ⟨h0, { PSrv.zero with seen := 1 }, ?_, rfl, rfl⟩
  show ((PS.new m room k).servers.set 0 { PSrv.zero with seen := (PS.new m room k).epoch })[0]? = _
  rw [List.getElem?_set_self (List.getElem?_eq_some_iff.1 h0).1]
  rfl
set_option maxRecDepth 100000 in
set_option maxHeartbeats 4000000 in
theorem playerQ (w : World) (sv rm : Int) (ky : ByteArray) (hs : i64 sv) (hr : i64 rm) (hF : Fours w) (h1 : 1 ≤ w.heap.size) :
    Calls Tryd.prog 6 #[.agg #[.int .i64 sv, .int .i64 rm, .string ky]] w fun e w' => ∃ (b bx S : Nat) (R : Int) (key : ByteArray) (X : PS) (D : PD), e = .returned (.pointer (some ⟨b, 0, none⟩)) ∧ JQ w' (fun k => k < w.heap.size) b bx S R key X D D.pods ∧ Kn IsName 34 X D S R ∧ D.seen.length = 0 ∧ 8 ≤ R ∧ D.deeds.length = 1 ∧ Low w.heap.size w w' := by
  have HS := hid hs
  have HR := hid hr
  have HF := hid hF
  have H1 := hid h1
  have BA : Hid (Blk (w.alloc (.cells (cfgL sv rm ky).toArray 23)) w.heap.size 23 (cfgL sv rm ky)) := Blk.new w 23 (cfgL sv rm ky)
  clear hs hr hF h1
  go_enter Tryd.func6, Tryd.ntmps6
  go_upto_region 2 with (first | ((with_reducible refine ldC (.tmp 1) w.heap.size 0 sv rm ky ?_ BA.out.whole ?_); rfl) | (go_at_call 12; refine (config_any _ sv rm ky HS.out HR.out).mono ?_; rintro e y1 ⟨m, r, k, rfl, hm, hr, hk, l1⟩; have HM := hid hm; have HRR := hid hr; have HKK := hid hk; have L1 : Hid (Low w.heap.size w y1) := ((Low.refl _ w).alloc (Nat.le_refl _) _).trans (l1.mono (by simp)); have B1 : Hid (Blk y1 w.heap.size 23 (cfgL sv rm ky)) := BA.out.low l1 (by simp); clear hm hr hk l1) | ((with_reducible refine stC (.tmp 1) (.tmp 10) w.heap.size sv rm ky (m : Int) (r : Int) k ?_ ?_ B1.out ?_); rfl; rfl; intro W b2 k2 s2; have B2 := hid b2; have LW : Hid (Low w.heap.size w W) := low_set L1.out k2 (Nat.le_refl _) L1.out.size; clear b2 k2 s2))
  have hcf : Hid (cfgOk (m : Int) (r : Int) k = true) := by
    show _ = _
    have a1 := HM.out
    have a2 := HRR.out
    have a3 := HKK.out
    simp [cfgOk, a3]
    omega
  go_upto_region 5 with (first | ((with_reducible refine ldC (.tmp 1) w.heap.size 0 (m : Int) (r : Int) k ?_ B2.out.whole ?_); rfl) | (go_at_call 13; refine (pNew_yes _ m (r : Int) k hcf.out).mono ?_; rintro e y2 ⟨bx, rfl, x2, l2⟩; have X2 := hid x2; have L2 : Hid (Low w.heap.size w y2) := LW.out.trans (l2.mono LW.out.size); have B3 : Hid (Blk y2 w.heap.size 23 (cfgL (m : Int) (r : Int) k)) := B2.out.low l2 B2.out.lt; have HW0 : Hid (w.heap.size ≤ W.heap.size ∧ W.heap.size ≤ y2.heap.size) := ⟨LW.out.size, l2.size⟩; clear x2 l2))
  have c0 : y2.cell? ⟨w.heap.size, 0, none⟩ = some (.int .i64 (m : Int)) := B3.out.cell 0
  have c1 : y2.cell? ⟨w.heap.size, 1, none⟩ = some (.int .i64 (r : Int)) := B3.out.cell 1
  have c2 : y2.cell? ⟨w.heap.size, 2, none⟩ = some (.string k) := B3.out.cell 2
  have l3 := B3.out.lt
  go_upto_region 6 with fail
  go_name_world V hV
  have BQ : Hid (Blk V (y2.heap.size + 1) 49 (playL bx (m : Int) (r : Int) k y2.heap.size)) := by
    show Blk V _ _ _
    rw [← hV]
    exact blk2 y2 (.cells #[.string k] 9) 49 (playL bx (m : Int) (r : Int) k y2.heap.size)
  have BK : Hid (Blk V y2.heap.size 9 [.string k]) := by
    show Blk V _ _ _
    rw [← hV]
    exact (Blk.new y2 9 [.string k]).alloc _
  have LV : Hid (Low w.heap.size w V ∧ Low y2.heap.size y2 V) := by
    show _ ∧ _
    rw [← hV]
    exact ⟨(L2.out.alloc L2.out.size _).alloc (by have := L2.out.size; simp; omega) _, ((Low.refl _ y2).alloc (Nat.le_refl _) _).alloc (by simp) _⟩
  have SV : Hid (y2.heap.size + 1 < V.heap.size) := BQ.out.lt
  have J0 : Hid (JQ V (fun i => i < w.heap.size) (y2.heap.size + 1) bx m (r : Int) k (PS.new m (r : Int) k) (PD.new k) pods0) := by
    have hw0 := HW0.out
    have hl2 := L2.out.size
    have hsv := SV.out
    refine ⟨fun i => W.heap.size ≤ i ∧ i < y2.heap.size, fun i => i = y2.heap.size ∨ i = y2.heap.size + 1, X2.out.low LV.out.2, qin_new BQ.out BK.out (by omega) (Or.inr rfl) (Or.inl rfl) (fun i hi => by rcases hi with rfl | rfl <;> omega), fun i hi => by have hi : i < w.heap.size := hi; omega, fun i hi g => by have g : i < w.heap.size := g; have hi : W.heap.size ≤ i ∧ i < y2.heap.size := hi; omega, fun i hi g => by have g : i < w.heap.size := g; rcases hi with rfl | rfl <;> omega, fun i hi g => by have hi : W.heap.size ≤ i ∧ i < y2.heap.size := hi; rcases g with rfl | rfl <;> omega, H1.out, fours_low HF.out H1.out LV.out.1⟩
  obtain ⟨b, hb⟩ : ∃ b, b = y2.heap.size + 1 := ⟨_, rfl⟩
  rw [← hb] at J0
  rw [← hb]
  have LL : Hid (Low w.heap.size w V) := LV.out.1
  clear c0 c1 c2 l3 BQ BK SV hV LV X2 HW0 B3 B2 hb L2 LW L1 B1 BA
  go_wp2_with fail
  go_loopg [6] 8 (fun left iv wr => ∃ i : Nat, left = 8 - i ∧ i ≤ 8 ∧ iv = .int .i64 (i : Int) ∧ Hid (JQ wr (fun i => i < w.heap.size) b bx m (r : Int) k (PS.new m (r : Int) k) (PD.new k) (nodesTo i) ∧ Kept (fun i => ¬ i < w.heap.size) V wr))
  case atStart => exact ⟨0, rfl, Nat.zero_le _, rfl, J0.out, Kept.refl _ _⟩
  case round =>
    obtain ⟨i, hgk, hi, rfl, HI⟩ := hrel
    have HGK := hid hgk
    clear hgk
    obtain ⟨Fq, hq, _⟩ := HI.out.1.q
    have lb := hq.lt
    by_cases h3 : i < 8
    · have q3 : decide ((i : Int) < 8) = true := by simp; omega
      have il : (i : Int) < 8 := by omega
      have cn := qin_node hq (nodesTo_at h3)
      have fn := hq.frozen (29 + i)
      have H3 := hid h3
      clear hq
      go_wp2_with fail
      go_roundg (8 - (i + 1))
      case rel =>
        obtain ⟨r1, r2⟩ := HI.out.1.setNode H3.out (-1)
        rw [nodesTo_set H3.out] at r1
        exact ⟨i + 1, rfl, by omega, by simp, r1, HI.out.2.trans r2 (fun _ f => f) (fun _ _ f => f)⟩
      case measure => have := HGK.out; omega
    · have q3 : decide ((i : Int) < 8) = false := by simp; omega
      have hi8 : i = 8 := by omega
      have JA : Hid (JQ wr (fun i => i < w.heap.size) b bx m (r : Int) k (PS.new m (r : Int) k) (PD.new k) (PD.new k).pods) := by
        have := HI.out.1
        rw [hi8, nodes_all k] at this
        exact this
      have KA : Hid (Kept (fun i => ¬ i < w.heap.size) V wr) := HI.out.2
      have K0 := hid (kn_new (N := IsName) m (r : Int) k hcf.out)
      obtain ⟨f1, f2⟩ := fresh_new m (r : Int) k HM.out.1
      obtain ⟨hP, hK1⟩ := kn_refreshX K0.out (s := 0) HM.out.1 f1
      have HP : Hid (PUni 14 [.int .i64 0] (PS.new m (r : Int) k) (.int .i64 0) ((PS.new m (r : Int) k).refresh 0 PSrv.zero)) := hP
      have HK1 := hid hK1
      have HF2 := hid f2
      obtain ⟨X1, hX1⟩ : ∃ X1, X1 = (PS.new m (r : Int) k).refresh 0 PSrv.zero := ⟨_, rfl⟩
      rw [← hX1] at HP HK1 HF2
      have m4 := HM.out
      clear hq f1 f2 hP hK1 hX1 K0 HI
      go_upto_region 11 with (go_at_call 14; refine (JA.out.callX HP.out).mono ?_; rintro e y3 ⟨rfl, j3, k3⟩; have J3 := hid j3; have K3 : Hid (Kept (fun i => ¬ i < w.heap.size) V y3) := KA.out.trans k3 (fun _ f => f) (fun _ _ f => f); clear j3 k3)
      go_upto_region 12 with (go_at_call 15; refine (beginQ (s := 0) _ firstAct firstAct_ok J3.out HK1.out (by omega) m4.1 m4.2 (by show 0 ≤ _; omega)).mono ?_; rintro e y4 ⟨rfl, X2, D2, j4, b4, k4⟩; have J4 := hid j4; have B4 := hid b4; have K4 : Hid (Kept (fun i => ¬ i < w.heap.size) V y4) := K3.out.trans k4 (fun _ f => f) (fun _ _ f => f); clear j4 b4 k4)
      obtain ⟨bk, ⟨bd, _, bp⟩, _, bf⟩ := B4.out
      obtain ⟨⟨p', g1, g2, g3, g4, g5⟩, v, g6, g7⟩ := bf HF2.out
      have hsm := bk.small
      have hd0 : D2.deeds.length = 0 := by rw [bd]; rfl
      have CS : Hid (CommitSure X2 D2 0) := ⟨⟨p', g1, g2, g3, g4 (by decide), g5 (by decide), by rw [hsm.2]; have := HRR.out; omega⟩, v, g6, g7⟩
      have BK := hid bk
      have BP := hid bp
      clear bk bd bp bf g1 g2 g3 g4 g5 g6 g7 hsm B4
      have HD0 := hid hd0
      go_upto_region 13 with (go_at_call 16; refine (commitQ (s := 0) _ J4.out BK.out (by omega) m4.1 m4.2 (by have := HD0.out; omega)).mono ?_; rintro e y5 ⟨rfl, X3, D3, j5, c5, k5, _, u5⟩; have J5 := hid j5; have C5 := hid c5; have U5 := hid (u5 CS.out); have K5 : Hid (Kept (fun i => ¬ i < w.heap.size) V y5) := K4.out.trans k5 (fun _ f => f) (fun _ _ f => f); clear j5 c5 k5 u5)
      have hl1 : D3.deeds.length = 1 := by have := U5.out; have := HD0.out; omega
      obtain ⟨Fq5, hq5, _⟩ := J5.out.q
      obtain ⟨a5, cap5, hc5, _⟩ := qin_deeds hq5
      rw [List.length_map, hl1] at hc5
      have lb5 := hq5.lt
      have HL1 := hid hl1
      clear hq5 hd0 hl1 lb
      go_wp2_with fail
      go_ret
      have hst : D3.pods = (PD.new k).pods ∧ D3.seen = (PD.new k).seen := by
        obtain ⟨_, v, _, h | ⟨_, h⟩⟩ := C5.out <;> rw [h] <;> exact BP.out
      refine ⟨b, bx, m, (r : Int), k, X3, D3, rfl, by rw [hst.1]; exact J5.out, C5.out.1.mono (by omega), by rw [hst.2]; rfl, by have := HRR.out; omega, HL1.out, ?_⟩
      have kk := LL.out.kept.trans K5.out (H := fun i => ¬ i < w.heap.size) (fun _ f => f.elim) (fun _ _ f => f)
      exact ⟨kk.os, kk.output, kk.size, fun i hi => kk.block i hi (fun f => f hi)⟩
end Go.Proofs.YtphapknfkbgapabDoor
namespace Go.Proofs.YtphapknfkbgapabDoor
open Go.RowKit

variable {N : ByteArray → Prop} {G : Nat → Prop} {b bx S n : Nat} {R : Int} {key : ByteArray} {X : PS} {D : PD} {Q : Pods}

/-! played. -/
def ScriptA (w : World) (a : Option Addr) (acts : List AAct) : Prop := (0 < acts.length → ∃ b o, a = some ⟨b, o, none⟩ ∧ b < w.heap.size ∧ ∀ i d, acts[i]? = some d → w.rangeAt b (o + i * 7) d.cells) ∧ ∀ d ∈ acts, AOk d
theorem ScriptA.low {w w' : World} {a : Option Addr} {acts : List AAct} (h : ScriptA w a acts) (l : Low w.heap.size w w') : ScriptA w' a acts := by
  refine ⟨fun h0 => ?_, h.2⟩
  obtain ⟨b, o, ha, hb, hc⟩ := h.1 h0
  exact ⟨b, o, ha, Nat.lt_of_lt_of_le hb l.size, fun i d hd j v e => (l.cell (p := ⟨b, o + i * 7 + j, none⟩) hb).trans (hc i d hd j v e)⟩
/-- A player behind so many acts. -/
structure Played (w : World) (G : Nat → Prop) (b bx S : Nat) (R : Int) (key : ByteArray) (X : PS) (D : PD) (i : Nat) : Prop where
  j : JQ w G b bx S R key X D D.pods
  kn : Kn IsName (34 + i) X D S R
  seen : D.seen.length ≤ 34 + i
  room : 8 ≤ R
theorem range_keptG {w w' : World} {b o : Nat} {cs : List Value} (h : w.rangeAt b o cs) (k : Kept (fun i => ¬ G i) w w') (hb : G b) : w'.rangeAt b o cs := fun j v e => k.cell (h j v e) (fun f => f hb)
set_option maxRecDepth 100000 in
set_option maxHeartbeats 2000000 in
theorem playedQ (w : World) (sv rm : Int) (ky : ByteArray) (a : Option Addr) (cap : Nat) (acts : List AAct) (hs : i64 sv) (hr : i64 rm) (hsc : ScriptA w a acts) (hn : acts.length ≤ 1954687338268) (hF : Fours w) (h1 : 1 ≤ w.heap.size) :
    Calls Tryd.prog 4 #[.agg #[.int .i64 sv, .int .i64 rm, .string ky], .slice a acts.length cap] w fun e w' => ∃ (b bx S : Nat) (R : Int) (key : ByteArray) (X : PS) (D : PD), e = .returned (.pointer (some ⟨b, 0, none⟩)) ∧ Played w' (fun k => k < w.heap.size) b bx S R key X D acts.length ∧ Low w.heap.size w w' := by
  have HS := hid hs
  have HR := hid hr
  have HF := hid hF
  have H1 := hid h1
  have HSC := hid hsc
  have HN := hid hn
  have BA : Hid (Blk (w.alloc (.cells (cfgL sv rm ky).toArray 23)) w.heap.size 23 (cfgL sv rm ky)) := Blk.new w 23 (cfgL sv rm ky)
  have F2 : Hid (Fours (w.alloc (.cells (cfgL sv rm ky).toArray 23))) := fours_low hF h1 ((Low.refl _ w).alloc (Nat.le_refl _) _)
  clear hs hr hF h1 hsc hn
  go_enter Tryd.func4, Tryd.ntmps4
  go_upto_region 4 with (first | ((with_reducible refine ldC (.tmp 2) w.heap.size 0 sv rm ky ?_ BA.out.whole ?_); rfl) | (go_at_call 6; refine (playerQ _ sv rm ky HS.out HR.out F2.out (by simp)).mono ?_; rintro e y1 ⟨b, bx, S, R, key, X, D, rfl, j1, k1, s1, r1, _, l1⟩; have L1 : Hid (Low w.heap.size w y1) := ((Low.refl _ w).alloc (Nat.le_refl _) _).trans (l1.mono (by simp)); have J1 : Hid (JQ y1 (fun k => k < w.heap.size) b bx S R key X D D.pods) := j1.weak (fun k hk => by have hk : k < w.heap.size := hk; simp; omega) H1.out; have K1 := hid k1; have S1 := hid s1; have R1 := hid r1; clear j1 k1 s1 r1 l1))
  go_wp2_with fail
  go_loopg [6] acts.length (fun left iv wr => ∃ i : Nat, left = acts.length - i ∧ i ≤ acts.length ∧ iv = .int .i64 (i : Int) ∧ Hid (∃ X D, Played wr (fun k => k < w.heap.size) b bx S R key X D i ∧ Kept (fun k => ¬ k < w.heap.size) w wr))
  case atStart => exact ⟨0, rfl, Nat.zero_le _, rfl, X, D, ⟨J1.out, K1.out.mono (by omega), by rw [S1.out]; omega, R1.out⟩, L1.out.kept.mono (fun _ _ f => f.elim)⟩
  case round =>
    obtain ⟨i, hgk, hi, rfl, HI⟩ := hrel
    have HGK := hid hgk
    clear hgk
    obtain ⟨X', D', pl, kp⟩ := HI.out
    have PL := hid pl
    have KP := hid kp
    clear pl kp HI
    by_cases h3 : i < acts.length
    · have q3 : decide ((i : Int) < (acts.length : Int)) = true := by simp; omega
      have il : (i : Int) < (acts.length : Int) := by omega
      obtain ⟨d, hd⟩ : ∃ d, acts[i]? = some d := ⟨_, List.getElem?_eq_getElem h3⟩
      obtain ⟨sb, o, ha, hsb, hc⟩ := HSC.out.1 (by omega)
      subst ha
      have HOK := hid (HSC.out.2 d (List.mem_of_getElem? hd))
      have RV : Hid (wr.rangeAt sb (o + i * 7) d.cells) := range_keptG (G := fun k => k < w.heap.size) (hc i d hd) KP.out hsb
      clear hc hd
      go_wp2_with (first | ((with_reducible refine ldA (.tmp 21) sb (o + i * 7) d ?_ RV.out ?_); rfl) | (go_at_call 7; refine (actQ _ d HOK.out PL.out.j PL.out.kn (by have := HN.out; omega) (by have := PL.out.seen; have := HN.out; omega)).mono ?_; rintro e y2 ⟨rfl, X2, D2, j2, ⟨k2, s2⟩, q2⟩; have J2 := hid j2; have K2 := hid k2; have S2 := hid s2; have Q2 : Hid (Kept (fun k => ¬ k < w.heap.size) w y2) := KP.out.trans q2 (fun _ f => f) (fun _ _ f => f); clear j2 k2 s2 q2))
      go_roundg (acts.length - (i + 1))
      case rel => exact ⟨i + 1, rfl, by omega, by have := HN.out; simp; unfold wrap64; omega, X2, D2, ⟨J2.out, K2.out.mono (by omega), by have := K2.out.seen; have := K2.out.floor.2.2; omega, PL.out.room⟩, Q2.out⟩
      case measure => have := HGK.out; omega
    · have q3 : decide ((i : Int) < (acts.length : Int)) = false := by simp; omega
      have hil : i = acts.length := by omega
      go_wp2_with fail
      go_ret
      have hp := PL.out
      rw [hil] at hp
      exact ⟨b, bx, S, R, key, X', D', rfl, hp, KP.out.os, KP.out.output, KP.out.size, fun k hk => KP.out.block k hk (fun f => f hk)⟩
end Go.Proofs.YtphapknfkbgapabDoor
namespace Go.Proofs.YtphapknfkbgapabDoor
open Go.ChangeShapes Go.WideShapes Go.ChangeAt Go.RowKit Go.Deep

/-! What the bound gives, and the script out of the argument. -/

theorem bulk_one {H : Type} (d : DataW H) : 1 ≤ Rows.uptoBulk d := by
  cases d with
  | lit l => cases l <;> simp [Rows.uptoBulk]
  | nil => simp [Rows.uptoBulk]
  | ptr d => simp [Rows.uptoBulk]
  | slice elems spare => simp [Rows.uptoBulk]
  | agg parts => simp [Rows.uptoBulk]
  | iface t d => simp [Rows.uptoBulk]
  | map entries => simp [Rows.uptoBulk]
  | held h => simp [Rows.uptoBulk]
theorem bulk_len {H : Type} (l : List (DataW H)) : l.length ≤ Rows.uptoBulkAll l := by
  induction l with
  | nil => simp [Rows.uptoBulkAll]
  | cons x r ih => have := bulk_one x; simp only [Rows.uptoBulkAll, List.length_cons]; omega
theorem list7 {α : Type} {l : List α} (h : l.length = 7) : ∃ a b c d e f g, l = [a, b, c, d, e, f, g] := by
  match l, h with
  | [a, b, c, d, e, f, g], _ => exact ⟨a, b, c, d, e, f, g, rfl⟩
theorem lit_i64 {z : Int} (h : (Lit.int .i64 z).wf = true) : i64 z := by
  unfold Lit.wf at h
  rw [Bool.and_eq_true, decide_eq_true_eq, decide_eq_true_eq] at h
  exact h
theorem bulk_str {H : Type} (a : ByteArray) : a.size ≤ Rows.uptoBulk (H := H) (.lit (.string a.data.toList)) := by
  unfold Rows.uptoBulk
  show a.data.size ≤ a.data.toList.length + 1
  rw [Array.length_toList]
  omega
theorem open_deed {H : Type} {enc : TypeId × Value → H} {W : World} {b0 : Nat} {sp : Nat → Bool} {held : Bool} {n : Nat} {cs : List Value} {x : DataW H × List MemPlace} (h : DataW.trod enc Tryd.prog W b0 sp held n 32 cs = some x) :
    ∃ d : AAct, cs = d.cells ∧ (i64 d.kind ∧ i64 d.s ∧ i64 d.n ∧ i64 d.k) ∧ d.path.size ≤ Rows.uptoBulk x.1 ∧ d.text.size ≤ Rows.uptoBulk x.1 := by
  obtain ⟨xs, k, _, hxx, hl, hx, hf⟩ := DataW.trod_struct Tryd.underlying32 h
  have c32 : Tryd.prog.cellsOf 32 = 7 := by kernel_rfl
  have c3 : Tryd.prog.cellsOf 3 = 1 := by kernel_rfl
  have c4 : Tryd.prog.cellsOf 4 = 1 := by kernel_rfl
  have c9 : Tryd.prog.cellsOf 9 = 1 := by kernel_rfl
  rw [c32] at hl
  obtain ⟨v0, v1, v2, v3, v4, v5, v6, rfl⟩ := list7 hl
  obtain ⟨y0, y1, y2, y3, y4, y5, y6, rfl⟩ := list7 hx
  have g0 : DataW.trod enc Tryd.prog W b0 sp held k 3 [v0] = some y0 := by simpa [c3] using hf 0 _ rfl
  have g1 : DataW.trod enc Tryd.prog W b0 sp held k 3 [v1] = some y1 := by simpa [c3] using hf 1 _ rfl
  have g2 : DataW.trod enc Tryd.prog W b0 sp held k 3 [v2] = some y2 := by simpa [c3] using hf 2 _ rfl
  have g3 : DataW.trod enc Tryd.prog W b0 sp held k 3 [v3] = some y3 := by simpa [c3] using hf 3 _ rfl
  have g4 : DataW.trod enc Tryd.prog W b0 sp held k 9 [v4] = some y4 := by simpa [c9] using hf 4 _ rfl
  have g5 : DataW.trod enc Tryd.prog W b0 sp held k 9 [v5] = some y5 := by simpa [c9] using hf 5 _ rfl
  have g6 : DataW.trod enc Tryd.prog W b0 sp held k 4 [v6] = some y6 := by simpa [c4] using hf 6 _ rfl
  obtain ⟨a0, e0, _, w0⟩ := DataW.trod_int Tryd.underlying3 g0
  obtain ⟨a1, e1, _, w1⟩ := DataW.trod_int Tryd.underlying3 g1
  obtain ⟨a2, e2, _, w2⟩ := DataW.trod_int Tryd.underlying3 g2
  obtain ⟨a3, e3, _, w3⟩ := DataW.trod_int Tryd.underlying3 g3
  obtain ⟨a4, e4, x4, _⟩ := DataW.trod_string Tryd.underlying9 g4
  obtain ⟨a5, e5, x5, _⟩ := DataW.trod_string Tryd.underlying9 g5
  obtain ⟨a6, e6, _⟩ := DataW.trod_bool Tryd.underlying4 g6
  cases e0
  cases e1
  cases e2
  cases e3
  cases e4
  cases e5
  cases e6
  have hb4 : a4.size ≤ Rows.uptoBulk y4.1 := by rw [x4]; exact bulk_str a4
  have hb5 : a5.size ≤ Rows.uptoBulk y5.1 := by rw [x5]; exact bulk_str a5
  refine ⟨⟨a0, a1, a2, a3, a4, a5, a6⟩, rfl, ⟨lit_i64 w0, lit_i64 w1, lit_i64 w2, lit_i64 w3⟩, ?_, ?_⟩
  · rw [hxx]
    show a4.size ≤ _
    simp only [Rows.uptoBulk, Rows.uptoBulkAll, List.map_cons, List.map_nil]
    omega
  · rw [hxx]
    show a5.size ≤ _
    simp only [Rows.uptoBulk, Rows.uptoBulkAll, List.map_cons, List.map_nil]
    omega
theorem bulk_mem {H : Type} {l : List (DataW H)} {x : DataW H} (h : x ∈ l) : Rows.uptoBulk x ≤ Rows.uptoBulkAll l := by
  induction l with
  | nil => cases h
  | cons y r ih =>
    simp only [Rows.uptoBulkAll]
    rcases List.mem_cons.1 h with rfl | h
    · omega
    · have := ih h; omega
set_option maxRecDepth 100000 in
theorem open_script {H : Type} {enc : TypeId × Value → H} {W : World} {base : Nat} {v : Value} {d : DataW H} {p : List MemPlace} (hv : Value.okWide Tryd.prog W .any base 24 v) (h : DataW.Trod enc Tryd.prog W 0 (fun _ => true) true 24 v d p) :
    ∃ a cap acts, v = .slice a (List.length acts) cap ∧ acts.length ≤ Rows.uptoBulk d ∧ (Rows.uptoBulk d ≤ 1048576 → ScriptA W a acts) := by
  obtain ⟨a, len, cap, rfl⟩ := okWide_slice Tryd.underlying24 hv
  obtain ⟨fuel, hf⟩ := h
  have c32 : Tryd.prog.cellsOf 32 = 7 := by kernel_rfl
  rcases open_slice Tryd.underlying24 hf with ⟨hcs, hx⟩ | ⟨a', len', cap', m, n, D, Pl, hcs, _, hl, hm, hmm, hx, hel⟩
  · simp only [Value.cells, List.cons.injEq, Value.slice.injEq, and_true] at hcs
    obtain ⟨rfl, rfl, rfl⟩ := hcs
    exact ⟨none, 0, [], rfl, by simp, fun _ => ⟨fun h => absurd h (by simp), fun d hd => by cases hd⟩⟩
  · simp only [Value.cells, List.cons.injEq, Value.slice.injEq, and_true] at hcs
    obtain ⟨rfl, rfl, rfl⟩ := hcs
    have hmc : m = cap := by simpa using hmm
    rw [c32] at hel
    have each : ∀ i, i < len → ∃ d : AAct, (∀ j v, d.cells[j]? = some v → W.cell? (a'.add (i * 7 + j)) = some v) ∧ (i64 d.kind ∧ i64 d.s ∧ i64 d.n ∧ i64 d.k) ∧ d.path.size ≤ Rows.uptoBulk (D i) ∧ d.text.size ≤ Rows.uptoBulk (D i) := by
      intro i hi
      obtain ⟨cs', h1, h2⟩ := hel i (by omega)
      obtain ⟨d, rfl, hi64, hp, ht⟩ := open_deed h2
      obtain ⟨_, hlen, hcell⟩ := World.cells?_some h1
      refine ⟨d, fun j v e => ?_, hi64, hp, ht⟩
      have hj : j < 7 := (List.getElem?_eq_some_iff.1 e).1
      rw [← add_add, hcell j hj]
      exact e
    haveI : Inhabited AAct := ⟨⟨0, 0, 0, 0, ByteArray.empty, ByteArray.empty, false⟩⟩
    obtain ⟨q, hq⟩ := choose_lt each
    have e : d = (DataW.slice ((List.range len).map D) ((List.range (m - len)).map fun j => D (len + j))) := congrArg Prod.fst hx
    have hbl := bulk_len ((List.range len).map D)
    refine ⟨some a', cap, (List.range len).map q, by simp, by rw [e]; simp only [Rows.uptoBulk, List.length_map, List.length_range] at hbl ⊢; omega, fun hbk => ⟨fun h0 => ?_, fun d hd => ?_⟩⟩
    · have h0' : 0 < len := by simpa using h0
      have first := (hq 0 h0').1 0 _ rfl
      obtain ⟨b, o, sp⟩ := a'
      have hsp : sp = none := by
        have := World.cell?_spot first
        simpa [Addr.add] using this
      subst hsp
      simp only [add_plain] at first hq
      refine ⟨b, o, rfl, World.block_lt_of_cell? W _ first, fun i d hd j v e => ?_⟩
      rw [List.getElem?_map] at hd
      obtain ⟨i', hi', rfl⟩ := Option.map_eq_some_iff.1 hd
      obtain ⟨hi1, hi2⟩ := List.getElem?_eq_some_iff.1 hi'
      have hii : i = i' := by simpa using hi2
      subst hii
      have := (hq i (by simpa using hi1)).1 j v e
      rw [Nat.add_assoc]
      exact this
    · obtain ⟨i, hi, rfl⟩ := List.mem_map.1 hd
      have hil := List.mem_range.1 hi
      obtain ⟨_, hi64, hp, ht⟩ := hq i hil
      have hm : Rows.uptoBulk (D i) ≤ Rows.uptoBulkAll ((List.range len).map D) := bulk_mem (List.mem_map.2 ⟨i, hi, rfl⟩)
      rw [e] at hbk
      simp only [Rows.uptoBulk] at hbk
      exact ⟨hi64.1, hi64.2.1, hi64.2.2.1, hi64.2.2.2, by omega, by omega⟩
end Go.Proofs.YtphapknfkbgapabDoor
namespace Go.Proofs.YtphapknfkbgapabDoor
open Go.ChangeShapes Go.WideShapes Go.ChangeAt Go.RowKit Go.Deep

/-! The script out of the argument, whatever its length. -/

theorem weights_all {H : Type} {P : Program} {e : TypeId} {d : DataW H} : ∀ {l : List (DataW H)}, d ∈ l → ∀ n ∈ d.weights P e, n ∈ DataW.weightsAll P e l
  | [], h, _, _ => by cases h
  | x :: r, h, n, hn => by
    simp only [DataW.weightsAll, List.mem_append]
    rcases List.mem_cons.1 h with rfl | h
    · exact Or.inl hn
    · exact Or.inr (weights_all h n hn)
theorem act_fields : ∃ fs, Tryd.prog.underlying 32 = some (.struct fs) ∧ (fs.toList.map (·.type))[4]? = some 9 ∧ (fs.toList.map (·.type))[5]? = some 9 := ⟨_, Tryd.underlying32, by kernel_rfl, by kernel_rfl⟩
theorem open_deed1 {H : Type} {enc : TypeId × Value → H} {W : World} {b0 : Nat} {sp : Nat → Bool} {held : Bool} {n : Nat} {cs : List Value} {x : DataW H × List MemPlace} (h : DataW.trod enc Tryd.prog W b0 sp held n 32 cs = some x) (hB : ∀ k ∈ x.1.weights Tryd.prog 32, k ≤ reachBytes) :
    ∃ d : AAct, cs = d.cells ∧ AOk d := by
  obtain ⟨xs, k, _, hxx, hl, hx, hf⟩ := DataW.trod_struct Tryd.underlying32 h
  have c32 : Tryd.prog.cellsOf 32 = 7 := by kernel_rfl
  have c3 : Tryd.prog.cellsOf 3 = 1 := by kernel_rfl
  have c4 : Tryd.prog.cellsOf 4 = 1 := by kernel_rfl
  have c9 : Tryd.prog.cellsOf 9 = 1 := by kernel_rfl
  rw [c32] at hl
  obtain ⟨v0, v1, v2, v3, v4, v5, v6, rfl⟩ := list7 hl
  obtain ⟨y0, y1, y2, y3, y4, y5, y6, rfl⟩ := list7 hx
  have g0 : DataW.trod enc Tryd.prog W b0 sp held k 3 [v0] = some y0 := by simpa [c3] using hf 0 _ rfl
  have g1 : DataW.trod enc Tryd.prog W b0 sp held k 3 [v1] = some y1 := by simpa [c3] using hf 1 _ rfl
  have g2 : DataW.trod enc Tryd.prog W b0 sp held k 3 [v2] = some y2 := by simpa [c3] using hf 2 _ rfl
  have g3 : DataW.trod enc Tryd.prog W b0 sp held k 3 [v3] = some y3 := by simpa [c3] using hf 3 _ rfl
  have g4 : DataW.trod enc Tryd.prog W b0 sp held k 9 [v4] = some y4 := by simpa [c9] using hf 4 _ rfl
  have g5 : DataW.trod enc Tryd.prog W b0 sp held k 9 [v5] = some y5 := by simpa [c9] using hf 5 _ rfl
  have g6 : DataW.trod enc Tryd.prog W b0 sp held k 4 [v6] = some y6 := by simpa [c4] using hf 6 _ rfl
  obtain ⟨a0, e0, _, w0⟩ := DataW.trod_int Tryd.underlying3 g0
  obtain ⟨a1, e1, _, w1⟩ := DataW.trod_int Tryd.underlying3 g1
  obtain ⟨a2, e2, _, w2⟩ := DataW.trod_int Tryd.underlying3 g2
  obtain ⟨a3, e3, _, w3⟩ := DataW.trod_int Tryd.underlying3 g3
  obtain ⟨a4, e4, x4, _⟩ := DataW.trod_string Tryd.underlying9 g4
  obtain ⟨a5, e5, x5, _⟩ := DataW.trod_string Tryd.underlying9 g5
  obtain ⟨a6, e6, _⟩ := DataW.trod_bool Tryd.underlying4 g6
  cases e0
  cases e1
  cases e2
  cases e3
  cases e4
  cases e5
  cases e6
  obtain ⟨fs, hu, t4, t5⟩ := act_fields
  have hr : reachBytes < 140737488355328 := by decide
  have b4 : a4.size ≤ reachBytes := hB a4.size (by
    rw [hxx]
    simp only [DataW.weights, hu]
    refine DataW.weights_mem_each t4 (d := .lit (.string a4.data.toList)) (by rw [x4]; rfl) _ ?_
    simp [DataW.weights])
  have b5 : a5.size ≤ reachBytes := hB a5.size (by
    rw [hxx]
    simp only [DataW.weights, hu]
    refine DataW.weights_mem_each t5 (d := .lit (.string a5.data.toList)) (by rw [x5]; rfl) _ ?_
    simp [DataW.weights])
  exact ⟨⟨a0, a1, a2, a3, a4, a5, a6⟩, rfl, lit_i64 w0, lit_i64 w1, lit_i64 w2, lit_i64 w3, by show a4.size ≤ _; omega, by show a5.size ≤ _; omega⟩
set_option maxRecDepth 100000 in
theorem open_script1 {H : Type} {enc : TypeId × Value → H} {W : World} {base : Nat} {v : Value} {d : DataW H} {p : List MemPlace} (hv : Value.okWide Tryd.prog W .any base 24 v) (h : DataW.Trod enc Tryd.prog W 0 (fun _ => true) true 24 v d p) (hB : ∀ k ∈ d.weights Tryd.prog 24, k ≤ reachBytes) :
    ∃ a cap acts, v = .slice a (List.length acts) cap ∧ acts.length ≤ 1954687338268 ∧ ScriptA W a acts := by
  obtain ⟨a, len, cap, rfl⟩ := okWide_slice Tryd.underlying24 hv
  obtain ⟨fuel, hf⟩ := h
  have c32 : Tryd.prog.cellsOf 32 = 7 := by kernel_rfl
  have b72 : Tryd.prog.bytesOf 32 = 72 := by kernel_rfl
  have hr : reachBytes < 140737488355328 := by decide
  rcases open_slice Tryd.underlying24 hf with ⟨hcs, hx⟩ | ⟨a', len', cap', m, n, D, Pl, hcs, _, hl, hm, hmm, hx, hel⟩
  · simp only [Value.cells, List.cons.injEq, Value.slice.injEq, and_true] at hcs
    obtain ⟨rfl, rfl, rfl⟩ := hcs
    exact ⟨none, 0, [], rfl, by simp, ⟨fun h => absurd h (by simp), fun d hd => by cases hd⟩⟩
  · simp only [Value.cells, List.cons.injEq, Value.slice.injEq, and_true] at hcs
    obtain ⟨rfl, rfl, rfl⟩ := hcs
    have hmc : m = cap := by simpa using hmm
    rw [c32] at hel
    have e : d = (DataW.slice ((List.range len).map D) ((List.range (m - len)).map fun j => D (len + j))) := congrArg Prod.fst hx
    rw [e] at hB
    simp only [DataW.weights, Tryd.underlying24] at hB
    have hlen := hB _ List.mem_cons_self
    rw [b72] at hlen
    simp only [List.length_map, List.length_range] at hlen
    have each : ∀ i, i < len → ∃ d : AAct, (∀ j v, d.cells[j]? = some v → W.cell? (a'.add (i * 7 + j)) = some v) ∧ AOk d := by
      intro i hi
      obtain ⟨cs', h1, h2⟩ := hel i (by omega)
      obtain ⟨d, rfl, hok⟩ := open_deed1 h2 (fun k hk => hB k (List.mem_cons_of_mem _ (List.mem_append_left _ (weights_all (List.mem_map.2 ⟨i, List.mem_range.2 hi, rfl⟩) k hk))))
      obtain ⟨_, hlen, hcell⟩ := World.cells?_some h1
      refine ⟨d, fun j v e => ?_, hok⟩
      have hj : j < 7 := (List.getElem?_eq_some_iff.1 e).1
      rw [← add_add, hcell j hj]
      exact e
    haveI : Inhabited AAct := ⟨⟨0, 0, 0, 0, ByteArray.empty, ByteArray.empty, false⟩⟩
    obtain ⟨q, hq⟩ := choose_lt each
    refine ⟨some a', cap, (List.range len).map q, by simp, by simp only [List.length_map, List.length_range]; omega, ⟨fun h0 => ?_, fun d hd => ?_⟩⟩
    · have h0' : 0 < len := by simpa using h0
      have first := (hq 0 h0').1 0 _ rfl
      obtain ⟨b, o, sp⟩ := a'
      have hsp : sp = none := by
        have := World.cell?_spot first
        simpa [Addr.add] using this
      subst hsp
      simp only [add_plain] at first hq
      refine ⟨b, o, rfl, World.block_lt_of_cell? W _ first, fun i d hd j v e => ?_⟩
      rw [List.getElem?_map] at hd
      obtain ⟨i', hi', rfl⟩ := Option.map_eq_some_iff.1 hd
      obtain ⟨hi1, hi2⟩ := List.getElem?_eq_some_iff.1 hi'
      have hii : i = i' := by simpa using hi2
      subst hii
      have := (hq i (by simpa using hi1)).1 j v e
      rw [Nat.add_assoc]
      exact this
    · obtain ⟨i, hi, rfl⟩ := List.mem_map.1 hd
      exact (hq i (List.mem_range.1 hi)).2
end Go.Proofs.YtphapknfkbgapabDoor
namespace Go.Proofs.YtphapknfkbgapabDoor
open Go.RowKit

/-! Needs. -/
set_option maxRecDepth 100000 in
set_option maxHeartbeats 2000000 in
theorem needs_walk (w : World) (sv rm : Int) (ky : ByteArray) (a : Option Addr) (cap : Nat) (acts : List AAct) (hs : i64 sv) (hr : i64 rm) (hsc : ScriptA w a acts) (hn : acts.length ≤ 1954687338268) (hF : Fours w) (h1 : 1 ≤ w.heap.size) :
    Calls Tryd.prog 3 #[.agg #[.int .i64 sv, .int .i64 rm, .string ky], .slice a acts.length cap] w fun e w' => e = .returned (.bool true) ∧ Low w.heap.size w w' := by
  have HS := hid hs
  have HR := hid hr
  have H1 := hid h1
  have HN := hid hn
  have BA : Hid (Blk (w.alloc (.cells (cfgL sv rm ky).toArray 23)) w.heap.size 23 (cfgL sv rm ky)) := Blk.new w 23 (cfgL sv rm ky)
  have LA : Hid (Low w.heap.size w (w.alloc (.cells (cfgL sv rm ky).toArray 23))) := (Low.refl _ w).alloc (Nat.le_refl _) _
  have F2 : Hid (Fours (w.alloc (.cells (cfgL sv rm ky).toArray 23))) := fours_low hF h1 LA.out
  have HSC := hid (hsc.low LA.out)
  clear hs hr hF h1 hsc hn
  go_enter Tryd.func3, Tryd.ntmps3
  go_upto_region 4 with (first | ((with_reducible refine ldC (.tmp 2) w.heap.size 0 sv rm ky ?_ BA.out.whole ?_); rfl) | (go_at_call 4; refine (playedQ _ sv rm ky a cap acts HS.out HR.out HSC.out HN.out F2.out (by simp)).mono ?_; rintro e y1 ⟨b, bx, S, R, key, X, D, rfl, p1, l1⟩; have L1 : Hid (Low w.heap.size w y1) := LA.out.trans (l1.mono (by simp)); have J1 : Hid (JQ y1 (fun k => k < w.heap.size) b bx S R key X D D.pods) := p1.j.weak (fun k hk => by have hk : k < w.heap.size := hk; simp; omega) H1.out; have P1 := hid p1; clear p1 l1))
  have K1 : Hid (Kept (fun k => ¬ k < w.heap.size) w y1) := L1.out.kept.mono (fun _ _ f => f.elim)
  have s1 : 0 < S := P1.out.kn.srv.2.2
  have HS1 := hid s1
  have KN := hid P1.out.kn
  clear s1 L1 P1 HSC F2 LA BA
  go_wp2_with fail
  go_loopg [6] 4 (fun left iv wr => ∃ i : Nat, left = 4 - i ∧ i ≤ 4 ∧ iv = .int .i64 (i : Int) ∧ Hid (JQ wr (fun k => k < w.heap.size) b bx S R key X D D.pods ∧ Kept (fun k => ¬ k < w.heap.size) w wr))
  case atStart => exact ⟨0, rfl, Nat.zero_le _, rfl, J1.out, K1.out⟩
  case round =>
    obtain ⟨i, hgk, hi, rfl, HI⟩ := hrel
    have HGK := hid hgk
    clear hgk
    by_cases h3 : i < 4
    · have q3 : decide ((i : Int) < 4) = true := by simp; omega
      have H3 := hid h3
      obtain ⟨W0, rfl⟩ : ∃ W0, W0 = wr := ⟨wr, rfl⟩
      go_wp2_with fail
      go_loopg [7] 6 (fun left kv wx => ∃ k : Nat, left = 6 - k ∧ k ≤ 6 ∧ kv = .int .i64 (k : Int) ∧ Hid (JQ wx (fun k => k < w.heap.size) b bx S R key X D D.pods ∧ Kept (fun k => ¬ k < w.heap.size) w wx))
      case atStart => exact ⟨0, rfl, Nat.zero_le _, rfl, HI.out⟩
      case round =>
        obtain ⟨k, hgq, hk, rfl, HK⟩ := hrel
        have HGQ := hid hgq
        clear hgq
        by_cases h5 : k < 6
        · have q5 : decide ((k : Int) < 6) = true := by simp; omega
          have H5 := hid h5
          go_wp2_with (go_at_call 5; refine (fetchQ (s := 0) (node := i) (k := k) _ HK.out.1 KN.out HS1.out H3.out H5.out).mono ?_; rintro e y2 ⟨rfl, j2, k2⟩; have J2 := hid j2; have K2 : Hid (Kept (fun k => ¬ k < w.heap.size) w y2) := HK.out.2.trans k2 (fun _ f => f) (fun _ _ f => f); clear j2 k2)
          go_roundg (6 - (k + 1))
          case rel => exact ⟨k + 1, rfl, by omega, by simp, J2.out, K2.out⟩
          case measure => have := HGQ.out; omega
        · have q5 : decide ((k : Int) < 6) = false := by simp; omega
          go_wp2_with fail
          go_roundg (4 - (i + 1))
          case rel => exact ⟨i + 1, rfl, by omega, by simp, HK.out⟩
          case measure => have := HGK.out; omega
    · have q3 : decide ((i : Int) < 4) = false := by simp; omega
      go_wp2_with fail
      go_ret
      have K4 := HI.out.2
      exact ⟨rfl, K4.os, K4.output, K4.size, fun k hk => K4.block k hk (fun f => f hk)⟩
end Go.Proofs.YtphapknfkbgapabDoor
