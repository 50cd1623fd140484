import Derived.Test.YtphapknfkbgapaaDoorQGOne
import Derived.Test.YtphapknfkbgapaaDoorPOToRelE
import Derived.Test.YtphapknfkbgapaaDoorQOToQQ
import Derived.Test.YtphapknfkbgapaaDoorQHOne
import Derived.Test.YtphapknfkbgapaaDoorQSOne
import Derived.Test.YtphapknfkbgapaaDoorLaid
import Derived.Deep.DeepHandedRow
import Derived.Deep.Slices
import Derived.Lib.SmallJoins
import Derived.WideKeyArgs
import Derived.Test.YtphapknfkbgapaaDoorPlIToQF
import Derived.Test.YtphapknfkbgapaaDoorQIToQN
namespace Go.Proofs.YtphapknfkbgapaaDoor
open Go.RowKit

variable {N : ByteArray → Prop} {G : Nat → Prop} {b bx S n : Nat} {R : Int} {key : ByteArray} {X : PS} {D : PD} {Q : Pods}

/-! config. -/
theorem szC (s r : Int) (k : ByteArray) : (Tryd.prog.info? 35).map (·.size) = some (cfgL s r k).length := show _ = some 3 by kernel_rfl
theorem cfgL_one (s r : Int) (k : ByteArray) : ∀ v ∈ cfgL s r k, v.oneCell' = true := by simp [cfgL, Value.oneCell']
theorem ldC {ops : Array Oper} {rest : List Oper} {d : Option Tmp} {t0 : TypeId} {pos : String} {after : Array Edge} {f : Act} {w : World} {Q : Exit → Act → World → Prop} (x : Operand) (b o : Nat) (s r : Int) (k : ByteArray)
    (hx : f.eval x = .pointer (some ⟨b, o, none⟩)) (hc : w.rangeAt b o (cfgL s r k)) (h : wpList Tryd.prog ops Q rest (f.put d (.agg (cfgL s r k).toArray)) w) :
    wpList Tryd.prog ops Q ({ dst := d, op := .load 35 x, type := t0, pos := pos, after := after, guard := none } :: rest) f w :=
  ldAny 35 x b o (cfgL s r k) _ hx hc Tryd.underlying35 rfl (szC s r k) h
theorem stC {ops : Array Oper} {rest : List Oper} {d : Option Tmp} {t0 : TypeId} {pos : String} {after : Array Edge} {f : Act} {w : World} {Q : Exit → Act → World → Prop} (x y : Operand) (b : Nat) (s0 r0 : Int) (k0 : ByteArray) (s r : Int) (k : ByteArray)
    (hx : f.eval x = .pointer (some ⟨b, 0, none⟩)) (hy : f.eval y = .agg (cfgL s r k).toArray) (hB : Blk w b 35 (cfgL s0 r0 k0))
    (h : ∀ w', Blk w' b 35 (cfgL s r k) → Kept (fun k => k = b) w w' → w'.heap.size = w.heap.size → wpList Tryd.prog ops Q rest (f.put d undef) w') :
    wpList Tryd.prog ops Q ({ dst := d, op := .store 35 x y, type := t0, pos := pos, after := after, guard := none } :: rest) f w :=
  stBlk 35 x y b 35 (cfgL s0 r0 k0) (cfgL s r k) hx hy hB rfl (szC s r k) (cfgL_one s r k) h
set_option maxRecDepth 100000 in
set_option maxHeartbeats 2000000 in
theorem config_any (w : World) (sv rm : Int) (ky : ByteArray) (hs : i64 sv) (hr : i64 rm) :
    Calls Tryd.prog 69 #[.agg #[.int .i64 sv, .int .i64 rm, .string ky]] w fun e w' => ∃ (m r : Nat) (k : ByteArray), e = .returned (.agg (cfgL (m : Int) (r : Int) k).toArray) ∧ (1 ≤ m ∧ m ≤ 4) ∧ (8 ≤ r ∧ r ≤ 60) ∧ k.size = 48 ∧ Low w.heap.size w w' := by
  obtain ⟨s0, s1⟩ := hs
  obtain ⟨r0, r1⟩ := hr
  go_enter Tryd.func69, Tryd.ntmps69
  go_upto_region 1 with fail
  go_name_world W hW
  have LW : Hid (Low w.heap.size w W) := by
    show Low _ _ _
    rw [← hW]; exact ((Low.refl _ w).alloc (Nat.le_refl _) _).alloc (by simp) _
  have BA : Hid (Blk W w.heap.size 35 (cfgL sv rm ky)) := by
    show Blk W _ _ _
    rw [← hW]; exact (Blk.new w 35 (cfgL sv rm ky)).alloc _
  have BR : Hid (Blk W (w.heap.size + 1) 35 (cfgL 0 0 ⟨#[]⟩)) := by
    show Blk W _ _ _
    rw [← hW]
    exact blk2 w _ 35 (cfgL 0 0 ⟨#[]⟩)
  have p0 : W.cell? ⟨w.heap.size, 0, none⟩ = some (.int .i64 sv) := BA.out.cell 0
  have p1 : W.cell? ⟨w.heap.size, 1, none⟩ = some (.int .i64 rm) := BA.out.cell 1
  have p2 : W.cell? ⟨w.heap.size, 2, none⟩ = some (.string ky) := BA.out.cell 2
  have q0 : W.cell? ⟨w.heap.size + 1, 0, none⟩ = some (.int .i64 0) := BR.out.cell 0
  have q1 : W.cell? ⟨w.heap.size + 1, 1, none⟩ = some (.int .i64 0) := BR.out.cell 1
  have q2 : W.cell? ⟨w.heap.size + 1, 2, none⟩ = some (.string ⟨#[]⟩) := BR.out.cell 2
  have f0 := BR.out.frozen 0
  have f1 := BR.out.frozen 1
  have f2 := BR.out.frozen 2
  have lA := BA.out.lt
  have lR := BR.out.lt
  have n1 : w.heap.size ≠ w.heap.size + 1 := by omega
  have n2 : w.heap.size + 1 ≠ w.heap.size := by omega
  clear hW
  go_region_held3 (fun W' => W'.cell? ⟨w.heap.size, 0, none⟩ = some (.int .i64 sv) ∧ W'.cell? ⟨w.heap.size, 1, none⟩ = some (.int .i64 rm) ∧ W'.cell? ⟨w.heap.size, 2, none⟩ = some (.string ky)) (first | assumption | go_keep)
    (first | (go_at_call_of 18 (Value.int IntKind.i64 4); refine (pick_some sv 4 _ (by omega) (by omega) s0 s1).mono ?_; rintro e y3 ⟨a, rfl, ha, rfl⟩; have S3 : W.drew.cell? ⟨w.heap.size, 0, none⟩ = some (.int .i64 sv) ∧ W.drew.cell? ⟨w.heap.size, 1, none⟩ = some (.int .i64 rm) ∧ W.drew.cell? ⟨w.heap.size, 2, none⟩ = some (.string ky) := ⟨p0, p1, p2⟩; have xa : wrap64 (1 + (a : Int)) = 1 + (a : Int) := (by unfold wrap64; omega); have xb : IntKind.i64.wrap (1 + (a : Int)) = 1 + (a : Int) := (by rw [IntKind.wrap_i64]; omega); have HA := hid ha; clear ha) | (go_at_call 18; refine (pick_some rm 53 _ (by omega) (by omega) r0 r1).mono ?_; rintro e y3 ⟨c, rfl, hc, rfl⟩; have S4 : W.drew.cell? ⟨w.heap.size, 0, none⟩ = some (.int .i64 sv) ∧ W.drew.cell? ⟨w.heap.size, 1, none⟩ = some (.int .i64 rm) ∧ W.drew.cell? ⟨w.heap.size, 2, none⟩ = some (.string ky) := ⟨p0, p1, p2⟩; have xc : wrap64 (8 + (c : Int)) = 8 + (c : Int) := (by unfold wrap64; omega); have xd : IntKind.i64.wrap (8 + (c : Int)) = 8 + (c : Int) := (by rw [IntKind.wrap_i64]; omega); have HC := hid hc; clear hc) | (go_at_call 17; refine (keyOf_any _ _).mono ?_; rintro e y3 ⟨kt, rfl, hkt, rfl⟩; have S5 : W.drew.cell? ⟨w.heap.size, 0, none⟩ = some (.int .i64 sv) ∧ W.drew.cell? ⟨w.heap.size, 1, none⟩ = some (.int .i64 rm) ∧ W.drew.cell? ⟨w.heap.size, 2, none⟩ = some (.string ky) := ⟨p0, p1, p2⟩; have HKT := hid hkt; clear hkt))
  all_goals
    go_wp2_with fail
    (try simp only [Exit.then])
    have e1 : ((1 + a : Nat) : Int) = 1 + (a : Int) := by simp
    have e2 : ((8 + c : Nat) : Int) = 8 + (c : Int) := by simp
    have BW : Hid (Blk (((W.setCell ⟨w.heap.size + 1, 0, none⟩ (.int .i64 (1 + (a : Int)))).setCell ⟨w.heap.size + 1, 1, none⟩ (.int .i64 (8 + (c : Int)))).setCell ⟨w.heap.size + 1, 2, none⟩ (.string kt)).drew (w.heap.size + 1) 35 (cfgL (1 + (a : Int)) (8 + (c : Int)) kt)) := ((BR.out.set 0 (.int .i64 (1 + (a : Int)))).set 1 (.int .i64 (8 + (c : Int)))).set 2 (.string kt)
    refine bodyPost_ret (results_cell rfl (w.heap.size + 1) (cfgL (1 + (a : Int)) (8 + (c : Int)) kt) _ rfl BW.out.whole Tryd.underlying35 rfl (szC _ _ _)) rfl ?_
    refine ⟨1 + a, 8 + c, kt, by rw [e1, e2], ⟨by omega, by have := HA.out; omega⟩, ⟨by omega, by have := HC.out; omega⟩, HKT.out, ?_⟩
    exact (((LW.out.setCell (by show w.heap.size ≤ w.heap.size + 1; omega) _).setCell (by show w.heap.size ≤ w.heap.size + 1; omega) _).setCell (by show w.heap.size ≤ w.heap.size + 1; omega) _).drew
/-! player. -/
abbrev playL (bx : Nat) (m r : Int) (k : ByteArray) (kb : Nat) : List Value := [.pointer (some ⟨bx, 0, none⟩), .int .i64 m, .int .i64 r, .string k, .slice none 0 0, .int .i64 0, .bool false, .string ⟨#[]⟩, .string ⟨#[]⟩, .bool false, .bool false, .string ⟨#[]⟩, .string ⟨#[]⟩, .bool false, .bool false, .string ⟨#[]⟩, .string ⟨#[]⟩, .bool false, .bool false, .string ⟨#[]⟩, .string ⟨#[]⟩, .bool false, .bool false, .bool false, .bool false, .bool false, .bool false, .bool false, .bool false, .int .i64 0, .int .i64 0, .int .i64 0, .int .i64 0, .int .i64 0, .int .i64 0, .int .i64 0, .int .i64 0, .bool false, .bool false, .bool false, .bool false, .bool false, .bool false, .bool false, .bool false, .bool false, .bool false, .bool false, .bool false, .bool false, .bool false, .bool false, .bool false, .bool false, .bool false, .bool false, .bool false, .bool false, .bool false, .bool false, .bool false, .bool false, .bool false, .bool false, .bool false, .bool false, .bool false, .bool false, .bool false, .bool false, .bool false, .bool false, .bool false, .bool false, .bool false, .bool false, .bool false, .bool false, .bool false, .bool false, .bool false, .bool false, .bool false, .bool false, .bool false, .slice none 0 0, .slice (some ⟨kb, 0, none⟩) 1 1]
def pods0 : Pods := ⟨List.replicate 8 0, List.replicate 8 (List.replicate 6 false)⟩
theorem playL_eq (bx m : Nat) (r : Int) (k : ByteArray) (kb : Nat) : playL bx (m : Int) r k kb = qcells bx m r k (PD.new k) pods0 (.slice none 0 0) (.slice none 0 0) (.slice (some ⟨kb, 0, none⟩) 1 1) := by kernel_rfl
theorem qin_new {w : World} {b bx m kb : Nat} {r : Int} {k : ByteArray} {F : Nat → Prop} (hb : Blk w b 54 (playL bx (m : Int) r k kb)) (hk : Blk w kb 9 [.string k]) (hne : kb ≠ b) (f1 : F b) (f2 : F kb) (hF : ∀ i, F i → i < w.heap.size) : QIn w F b bx m r k (PD.new k) pods0 := by
  refine ⟨⟨rfl, rfl, rfl, rfl, fun l hl => by obtain rfl := (List.mem_replicate.1 hl).2; rfl⟩, .slice none 0 0, .slice none 0 0, .slice (some ⟨kb, 0, none⟩) 1 1, ?_⟩
  rw [playL_eq] at hb
  refine ⟨hb, f1, hF, fun i => if i = b then 0 else 3, by simp, fun j x hj => ?_⟩
  have hj3 : j = 0 ∨ j = 1 ∨ j = 2 ∨ 3 ≤ j := by omega
  rcases hj3 with rfl | rfl | rfl | h5
  · obtain rfl := (Option.some.inj hj).symm
    exact ⟨.slice none 0 0, rfl, World.ownsRow_nil _ _ _ _, fun i hi => by cases hi⟩
  · obtain rfl := (Option.some.inj hj).symm
    exact ⟨.slice none 0 0, rfl, World.ownsRow_nil _ _ _ _, fun i hi => by cases hi⟩
  · obtain rfl := (Option.some.inj hj).symm
    refine ⟨.slice (some ⟨kb, 0, none⟩) 1 1, rfl, ⟨rfl, Or.inr ⟨kb, 1, _, rfl, Nat.zero_le _, hk, Nat.le_refl _, by decide, rfl, rfl⟩⟩, fun i hi => ?_⟩
    obtain rfl : kb = i := Option.some.inj hi
    exact ⟨f2, by simp [hne]⟩
  · rw [List.getElem?_eq_none (by simpa [PD.rows] using h5)] at hj
    cases hj
def nodesTo (i : Nat) : Pods := ⟨List.replicate i (-1) ++ List.replicate (8 - i) 0, List.replicate 8 (List.replicate 6 false)⟩
theorem nodesTo_set {i : Nat} (hi : i < 8) : ({ nodesTo i with node := (nodesTo i).node.set i (-1) } : Pods) = nodesTo (i + 1) := by
  rcases eight hi with rfl | rfl | rfl | rfl | rfl | rfl | rfl | rfl <;> rfl
theorem nodesTo_at {i : Nat} (hi : i < 8) : (nodesTo i).node[i]? = some 0 := by
  rcases eight hi with rfl | rfl | rfl | rfl | rfl | rfl | rfl | rfl <;> rfl
theorem Kn.small (h : Kn N n X D S R) : X.entries.length ≤ D.deeds.length ∧ X.room = R := by
  obtain ⟨Y, h, k, _, r0⟩ := h
  refine ⟨?_, by rw [h.room]; exact r0⟩
  rw [h.ent, k.deeds]
  exact keptOf_le _
def firstAct : AAct := ⟨0, 0, -1, 0, ⟨#[97]⟩, ⟨#[116, 104, 101, 32, 102, 105, 114, 115, 116]⟩, false⟩
theorem firstAct_ok : AOk firstAct := ⟨⟨by decide, by decide⟩, ⟨by decide, by decide⟩, ⟨by decide, by decide⟩, ⟨by decide, by decide⟩, by decide, by decide⟩
theorem nodes_all (k : ByteArray) : nodesTo 8 = (PD.new k).pods := rfl
theorem fresh_new (m : Nat) (room : Int) (k : ByteArray) (hm : 1 ≤ m) : (PS.new m room k).servers[0]? = some PSrv.zero ∧ FreshAt ((PS.new m room k).refresh 0 PSrv.zero) 0 := by
  have h0 : (PS.new m room k).servers[0]? = some PSrv.zero := by
    show (List.replicate m PSrv.zero)[0]? = _
    rw [List.getElem?_replicate, if_pos (by omega)]
  refine ⟨h0, { PSrv.zero with seen := 1 }, ?_, rfl, rfl⟩
  show ((PS.new m room k).servers.set 0 { PSrv.zero with seen := (PS.new m room k).epoch })[0]? = _
  rw [List.getElem?_set_self (List.getElem?_eq_some_iff.1 h0).1]
  rfl
set_option maxRecDepth 100000 in
set_option maxHeartbeats 4000000 in
theorem playerQ (w : World) (sv rm : Int) (ky : ByteArray) (hs : i64 sv) (hr : i64 rm) (hF : Fours w) (h1 : 1 ≤ w.heap.size) :
    Calls Tryd.prog 40 #[.agg #[.int .i64 sv, .int .i64 rm, .string ky]] w fun e w' => ∃ (b bx S : Nat) (R : Int) (key : ByteArray) (X : PS) (D : PD), e = .returned (.pointer (some ⟨b, 0, none⟩)) ∧ JQ w' (fun k => k < w.heap.size) b bx S R key X D D.pods ∧ Kn IsName 4 X D S R ∧ D.seen.length = 0 ∧ 8 ≤ R ∧ D.deeds.length = 1 ∧ Low w.heap.size w w' := by
  have HS := hid hs
  have HR := hid hr
  have HF := hid hF
  have H1 := hid h1
  have BA : Hid (Blk (w.alloc (.cells (cfgL sv rm ky).toArray 35)) w.heap.size 35 (cfgL sv rm ky)) := Blk.new w 35 (cfgL sv rm ky)
  clear hs hr hF h1
  go_enter Tryd.func40, Tryd.ntmps40
  go_upto_region 2 with (first | ((with_reducible refine ldC (.tmp 1) w.heap.size 0 sv rm ky ?_ BA.out.whole ?_); rfl) | (go_at_call 69; refine (config_any _ sv rm ky HS.out HR.out).mono ?_; rintro e y1 ⟨m, r, k, rfl, hm, hr, hk, l1⟩; have HM := hid hm; have HRR := hid hr; have HKK := hid hk; have L1 : Hid (Low w.heap.size w y1) := ((Low.refl _ w).alloc (Nat.le_refl _) _).trans (l1.mono (by simp)); have B1 : Hid (Blk y1 w.heap.size 35 (cfgL sv rm ky)) := BA.out.low l1 (by simp); clear hm hr hk l1) | ((with_reducible refine stC (.tmp 1) (.tmp 10) w.heap.size sv rm ky (m : Int) (r : Int) k ?_ ?_ B1.out ?_); rfl; rfl; intro W b2 k2 s2; have B2 := hid b2; have LW : Hid (Low w.heap.size w W) := low_set L1.out k2 (Nat.le_refl _) L1.out.size; clear b2 k2 s2))
  have hcf : Hid (cfgOk (m : Int) (r : Int) k = true) := by
    show _ = _
    have a1 := HM.out
    have a2 := HRR.out
    have a3 := HKK.out
    simp [cfgOk, a3]
    omega
  go_upto_region 5 with (first | ((with_reducible refine ldC (.tmp 1) w.heap.size 0 (m : Int) (r : Int) k ?_ B2.out.whole ?_); rfl) | (go_at_call 70; refine (pNew_yes _ m (r : Int) k hcf.out).mono ?_; rintro e y2 ⟨bx, rfl, x2, l2⟩; have X2 := hid x2; have L2 : Hid (Low w.heap.size w y2) := LW.out.trans (l2.mono LW.out.size); have B3 : Hid (Blk y2 w.heap.size 35 (cfgL (m : Int) (r : Int) k)) := B2.out.low l2 B2.out.lt; have HW0 : Hid (w.heap.size ≤ W.heap.size ∧ W.heap.size ≤ y2.heap.size) := ⟨LW.out.size, l2.size⟩; clear x2 l2))
  have c0 : y2.cell? ⟨w.heap.size, 0, none⟩ = some (.int .i64 (m : Int)) := B3.out.cell 0
  have c1 : y2.cell? ⟨w.heap.size, 1, none⟩ = some (.int .i64 (r : Int)) := B3.out.cell 1
  have c2 : y2.cell? ⟨w.heap.size, 2, none⟩ = some (.string k) := B3.out.cell 2
  have l3 := B3.out.lt
  go_upto_region 6 with fail
  go_name_world V hV
  have BQ : Hid (Blk V (y2.heap.size + 1) 54 (playL bx (m : Int) (r : Int) k y2.heap.size)) := by
    show Blk V _ _ _
    rw [← hV]
    exact blk2 y2 (.cells #[.string k] 9) 54 (playL bx (m : Int) (r : Int) k y2.heap.size)
  have BK : Hid (Blk V y2.heap.size 9 [.string k]) := by
    show Blk V _ _ _
    rw [← hV]
    exact (Blk.new y2 9 [.string k]).alloc _
  have LV : Hid (Low w.heap.size w V ∧ Low y2.heap.size y2 V) := by
    show _ ∧ _
    rw [← hV]
    exact ⟨(L2.out.alloc L2.out.size _).alloc (by have := L2.out.size; simp; omega) _, ((Low.refl _ y2).alloc (Nat.le_refl _) _).alloc (by simp) _⟩
  have SV : Hid (y2.heap.size + 1 < V.heap.size) := BQ.out.lt
  have J0 : Hid (JQ V (fun i => i < w.heap.size) (y2.heap.size + 1) bx m (r : Int) k (PS.new m (r : Int) k) (PD.new k) pods0) := by
    have hw0 := HW0.out
    have hl2 := L2.out.size
    have hsv := SV.out
    refine ⟨fun i => W.heap.size ≤ i ∧ i < y2.heap.size, fun i => i = y2.heap.size ∨ i = y2.heap.size + 1, X2.out.low LV.out.2, qin_new BQ.out BK.out (by omega) (Or.inr rfl) (Or.inl rfl) (fun i hi => by rcases hi with rfl | rfl <;> omega), fun i hi => by have hi : i < w.heap.size := hi; omega, fun i hi g => by have g : i < w.heap.size := g; have hi : W.heap.size ≤ i ∧ i < y2.heap.size := hi; omega, fun i hi g => by have g : i < w.heap.size := g; rcases hi with rfl | rfl <;> omega, fun i hi g => by have hi : W.heap.size ≤ i ∧ i < y2.heap.size := hi; rcases g with rfl | rfl <;> omega, H1.out, fours_low HF.out H1.out LV.out.1⟩
  obtain ⟨b, hb⟩ : ∃ b, b = y2.heap.size + 1 := ⟨_, rfl⟩
  rw [← hb] at J0
  rw [← hb]
  have LL : Hid (Low w.heap.size w V) := LV.out.1
  clear c0 c1 c2 l3 BQ BK SV hV LV X2 HW0 B3 B2 hb L2 LW L1 B1 BA
  go_wp2_with fail
  go_loopg [6] 8 (fun left iv wr => ∃ i : Nat, left = 8 - i ∧ i ≤ 8 ∧ iv = .int .i64 (i : Int) ∧ Hid (JQ wr (fun i => i < w.heap.size) b bx m (r : Int) k (PS.new m (r : Int) k) (PD.new k) (nodesTo i) ∧ Kept (fun i => ¬ i < w.heap.size) V wr))
  case atStart => exact ⟨0, rfl, Nat.zero_le _, rfl, J0.out, Kept.refl _ _⟩
  case round =>
    obtain ⟨i, hgk, hi, rfl, HI⟩ := hrel
    have HGK := hid hgk
    clear hgk
    obtain ⟨Fq, hq, _⟩ := HI.out.1.q
    have lb := hq.lt
    by_cases h3 : i < 8
    · have q3 : decide ((i : Int) < 8) = true := by simp; omega
      have il : (i : Int) < 8 := by omega
      have cn := qin_node hq (nodesTo_at h3)
      have fn := hq.frozen (29 + i)
      have H3 := hid h3
      clear hq
      go_wp2_with fail
      go_roundg (8 - (i + 1))
      case rel =>
        obtain ⟨r1, r2⟩ := HI.out.1.setNode H3.out (-1)
        rw [nodesTo_set H3.out] at r1
        exact ⟨i + 1, rfl, by omega, by simp, r1, HI.out.2.trans r2 (fun _ f => f) (fun _ _ f => f)⟩
      case measure => have := HGK.out; omega
    · have q3 : decide ((i : Int) < 8) = false := by simp; omega
      have hi8 : i = 8 := by omega
      have JA : Hid (JQ wr (fun i => i < w.heap.size) b bx m (r : Int) k (PS.new m (r : Int) k) (PD.new k) (PD.new k).pods) := by
        have := HI.out.1
        rw [hi8, nodes_all k] at this
        exact this
      have KA : Hid (Kept (fun i => ¬ i < w.heap.size) V wr) := HI.out.2
      have K0 := hid (kn_new (N := IsName) m (r : Int) k hcf.out)
      obtain ⟨f1, f2⟩ := fresh_new m (r : Int) k HM.out.1
      obtain ⟨hP, hK1⟩ := kn_refreshX K0.out (s := 0) HM.out.1 f1
      have HP : Hid (PUni 43 [.int .i64 0] (PS.new m (r : Int) k) (.int .i64 0) ((PS.new m (r : Int) k).refresh 0 PSrv.zero)) := hP
      have HK1 := hid hK1
      have HF2 := hid f2
      obtain ⟨X1, hX1⟩ : ∃ X1, X1 = (PS.new m (r : Int) k).refresh 0 PSrv.zero := ⟨_, rfl⟩
      rw [← hX1] at HP HK1 HF2
      have m4 := HM.out
      clear hq f1 f2 hP hK1 hX1 K0 HI
      go_upto_region 11 with (go_at_call 43; refine (JA.out.callX HP.out).mono ?_; rintro e y3 ⟨rfl, j3, k3⟩; have J3 := hid j3; have K3 : Hid (Kept (fun i => ¬ i < w.heap.size) V y3) := KA.out.trans k3 (fun _ f => f) (fun _ _ f => f); clear j3 k3)
      go_upto_region 12 with (go_at_call 23; refine (beginQ (s := 0) _ firstAct firstAct_ok J3.out HK1.out (by omega) m4.1 m4.2 (by show 0 ≤ _; omega)).mono ?_; rintro e y4 ⟨rfl, X2, D2, j4, b4, k4⟩; have J4 := hid j4; have B4 := hid b4; have K4 : Hid (Kept (fun i => ¬ i < w.heap.size) V y4) := K3.out.trans k4 (fun _ f => f) (fun _ _ f => f); clear j4 b4 k4)
      obtain ⟨bk, ⟨bd, _, bp⟩, _, bf⟩ := B4.out
      obtain ⟨⟨p', g1, g2, g3, g4, g5⟩, v, g6, g7⟩ := bf HF2.out
      have hsm := bk.small
      have hd0 : D2.deeds.length = 0 := by rw [bd]; rfl
      have CS : Hid (CommitSure X2 D2 0) := ⟨⟨p', g1, g2, g3, g4 (by decide), g5 (by decide), by rw [hsm.2]; have := HRR.out; omega⟩, v, g6, g7⟩
      have BK := hid bk
      have BP := hid bp
      clear bk bd bp bf g1 g2 g3 g4 g5 g6 g7 hsm B4
      have HD0 := hid hd0
      go_upto_region 13 with (go_at_call 24; refine (commitQ (s := 0) _ J4.out BK.out (by omega) m4.1 m4.2 (by have := HD0.out; omega)).mono ?_; rintro e y5 ⟨rfl, X3, D3, j5, c5, k5, _, u5⟩; have J5 := hid j5; have C5 := hid c5; have U5 := hid (u5 CS.out); have K5 : Hid (Kept (fun i => ¬ i < w.heap.size) V y5) := K4.out.trans k5 (fun _ f => f) (fun _ _ f => f); clear j5 c5 k5 u5)
      have hl1 : D3.deeds.length = 1 := by have := U5.out; have := HD0.out; omega
      obtain ⟨Fq5, hq5, _⟩ := J5.out.q
      obtain ⟨a5, cap5, hc5, _⟩ := qin_deeds hq5
      rw [List.length_map, hl1] at hc5
      have lb5 := hq5.lt
      have HL1 := hid hl1
      clear hq5 hd0 hl1 lb
      go_wp2_with fail
      go_ret
      have hst : D3.pods = (PD.new k).pods ∧ D3.seen = (PD.new k).seen := by
        obtain ⟨_, v, _, h | ⟨_, h⟩⟩ := C5.out <;> rw [h] <;> exact BP.out
      refine ⟨b, bx, m, (r : Int), k, X3, D3, rfl, by rw [hst.1]; exact J5.out, C5.out.1.mono (by omega), by rw [hst.2]; rfl, by have := HRR.out; omega, HL1.out, ?_⟩
      have kk := LL.out.kept.trans K5.out (H := fun i => ¬ i < w.heap.size) (fun _ f => f.elim) (fun _ _ f => f)
      exact ⟨kk.os, kk.output, kk.size, fun i hi => kk.block i hi (fun f => f hi)⟩
end Go.Proofs.YtphapknfkbgapaaDoor
namespace Go.Proofs.YtphapknfkbgapaaDoor
open Go.RowKit

variable {N : ByteArray → Prop} {G : Nat → Prop} {b bx S n : Nat} {R : Int} {key : ByteArray} {X : PS} {D : PD} {Q : Pods}

/-! played. -/
def ScriptA (w : World) (a : Option Addr) (acts : List AAct) : Prop := (0 < acts.length → ∃ b o, a = some ⟨b, o, none⟩ ∧ b < w.heap.size ∧ ∀ i d, acts[i]? = some d → w.rangeAt b (o + i * 7) d.cells) ∧ ∀ d ∈ acts, AOk d
theorem ScriptA.low {w w' : World} {a : Option Addr} {acts : List AAct} (h : ScriptA w a acts) (l : Low w.heap.size w w') : ScriptA w' a acts := by
  refine ⟨fun h0 => ?_, h.2⟩
  obtain ⟨b, o, ha, hb, hc⟩ := h.1 h0
  exact ⟨b, o, ha, Nat.lt_of_lt_of_le hb l.size, fun i d hd j v e => (l.cell (p := ⟨b, o + i * 7 + j, none⟩) hb).trans (hc i d hd j v e)⟩
/-- A player behind so many acts. -/
structure Played (w : World) (G : Nat → Prop) (b bx S : Nat) (R : Int) (key : ByteArray) (X : PS) (D : PD) (i : Nat) : Prop where
  j : JQ w G b bx S R key X D D.pods
  kn : Kn IsName (4 + 20 * i) X D S R
  seen : D.seen.length ≤ 60 * i
  room : 8 ≤ R
theorem range_keptG {w w' : World} {b o : Nat} {cs : List Value} (h : w.rangeAt b o cs) (k : Kept (fun i => ¬ G i) w w') (hb : G b) : w'.rangeAt b o cs := fun j v e => k.cell (h j v e) (fun f => f hb)
set_option maxRecDepth 100000 in
set_option maxHeartbeats 2000000 in
theorem playedQ (w : World) (sv rm : Int) (ky : ByteArray) (a : Option Addr) (cap : Nat) (acts : List AAct) (hs : i64 sv) (hr : i64 rm) (hsc : ScriptA w a acts) (hn : acts.length ≤ 1048576) (hF : Fours w) (h1 : 1 ≤ w.heap.size) :
    Calls Tryd.prog 19 #[.agg #[.int .i64 sv, .int .i64 rm, .string ky], .slice a acts.length cap] w fun e w' => ∃ (b bx S : Nat) (R : Int) (key : ByteArray) (X : PS) (D : PD), e = .returned (.pointer (some ⟨b, 0, none⟩)) ∧ Played w' (fun k => k < w.heap.size) b bx S R key X D acts.length ∧ Low w.heap.size w w' := by
  have HS := hid hs
  have HR := hid hr
  have HF := hid hF
  have H1 := hid h1
  have HSC := hid hsc
  have HN := hid hn
  have BA : Hid (Blk (w.alloc (.cells (cfgL sv rm ky).toArray 35)) w.heap.size 35 (cfgL sv rm ky)) := Blk.new w 35 (cfgL sv rm ky)
  have F2 : Hid (Fours (w.alloc (.cells (cfgL sv rm ky).toArray 35))) := fours_low hF h1 ((Low.refl _ w).alloc (Nat.le_refl _) _)
  clear hs hr hF h1 hsc hn
  go_enter Tryd.func19, Tryd.ntmps19
  go_upto_region 4 with (first | ((with_reducible refine ldC (.tmp 2) w.heap.size 0 sv rm ky ?_ BA.out.whole ?_); rfl) | (go_at_call 40; refine (playerQ _ sv rm ky HS.out HR.out F2.out (by simp)).mono ?_; rintro e y1 ⟨b, bx, S, R, key, X, D, rfl, j1, k1, s1, r1, _, l1⟩; have L1 : Hid (Low w.heap.size w y1) := ((Low.refl _ w).alloc (Nat.le_refl _) _).trans (l1.mono (by simp)); have J1 : Hid (JQ y1 (fun k => k < w.heap.size) b bx S R key X D D.pods) := j1.weak (fun k hk => by have hk : k < w.heap.size := hk; simp; omega) H1.out; have K1 := hid k1; have S1 := hid s1; have R1 := hid r1; clear j1 k1 s1 r1 l1))
  go_wp2_with fail
  go_loopg [6] acts.length (fun left iv wr => ∃ i : Nat, left = acts.length - i ∧ i ≤ acts.length ∧ iv = .int .i64 (i : Int) ∧ Hid (∃ X D, Played wr (fun k => k < w.heap.size) b bx S R key X D i ∧ Kept (fun k => ¬ k < w.heap.size) w wr))
  case atStart => exact ⟨0, rfl, Nat.zero_le _, rfl, X, D, ⟨J1.out, K1.out.mono (by omega), by rw [S1.out]; omega, R1.out⟩, L1.out.kept.mono (fun _ _ f => f.elim)⟩
  case round =>
    obtain ⟨i, hgk, hi, rfl, HI⟩ := hrel
    have HGK := hid hgk
    clear hgk
    obtain ⟨X', D', pl, kp⟩ := HI.out
    have PL := hid pl
    have KP := hid kp
    clear pl kp HI
    by_cases h3 : i < acts.length
    · have q3 : decide ((i : Int) < (acts.length : Int)) = true := by simp; omega
      have il : (i : Int) < (acts.length : Int) := by omega
      obtain ⟨d, hd⟩ : ∃ d, acts[i]? = some d := ⟨_, List.getElem?_eq_getElem h3⟩
      obtain ⟨sb, o, ha, hsb, hc⟩ := HSC.out.1 (by omega)
      subst ha
      have HOK := hid (HSC.out.2 d (List.mem_of_getElem? hd))
      have RV : Hid (wr.rangeAt sb (o + i * 7) d.cells) := range_keptG (G := fun k => k < w.heap.size) (hc i d hd) KP.out hsb
      clear hc hd
      go_wp2_with (first | ((with_reducible refine ldA (.tmp 21) sb (o + i * 7) d ?_ RV.out ?_); rfl) | (go_at_call 41; refine (actQ _ d HOK.out PL.out.j PL.out.kn (by have := HN.out; omega) (by have := PL.out.seen; have := HN.out; omega)).mono ?_; rintro e y2 ⟨rfl, X2, D2, j2, ⟨k2, s2⟩, q2⟩; have J2 := hid j2; have K2 := hid k2; have S2 := hid s2; have Q2 : Hid (Kept (fun k => ¬ k < w.heap.size) w y2) := KP.out.trans q2 (fun _ f => f) (fun _ _ f => f); clear j2 k2 s2 q2))
      go_roundg (acts.length - (i + 1))
      case rel => exact ⟨i + 1, rfl, by omega, by have := HN.out; simp; unfold wrap64; omega, X2, D2, ⟨J2.out, K2.out.mono (by omega), by have := S2.out; have := PL.out.seen; omega, PL.out.room⟩, Q2.out⟩
      case measure => have := HGK.out; omega
    · have q3 : decide ((i : Int) < (acts.length : Int)) = false := by simp; omega
      have hil : i = acts.length := by omega
      go_wp2_with fail
      go_ret
      have hp := PL.out
      rw [hil] at hp
      exact ⟨b, bx, S, R, key, X', D', rfl, hp, KP.out.os, KP.out.output, KP.out.size, fun k hk => KP.out.block k hk (fun f => f hk)⟩
end Go.Proofs.YtphapknfkbgapaaDoor
namespace Go.Proofs.YtphapknfkbgapaaDoor
open Go.ChangeShapes Go.WideShapes Go.ChangeAt Go.RowKit Go.Deep

/-! What the bound gives, and the script out of the argument. -/

theorem bulk_one {H : Type} (d : DataW H) : 1 ≤ Rows.uptoBulk d := by
  cases d with
  | lit l => cases l <;> simp [Rows.uptoBulk]
  | nil => simp [Rows.uptoBulk]
  | ptr d => simp [Rows.uptoBulk]
  | slice elems spare => simp [Rows.uptoBulk]
  | agg parts => simp [Rows.uptoBulk]
  | iface t d => simp [Rows.uptoBulk]
  | map entries => simp [Rows.uptoBulk]
  | held h => simp [Rows.uptoBulk]
theorem bulk_len {H : Type} (l : List (DataW H)) : l.length ≤ Rows.uptoBulkAll l := by
  induction l with
  | nil => simp [Rows.uptoBulkAll]
  | cons x r ih => have := bulk_one x; simp only [Rows.uptoBulkAll, List.length_cons]; omega
theorem list7 {α : Type} {l : List α} (h : l.length = 7) : ∃ a b c d e f g, l = [a, b, c, d, e, f, g] := by
  match l, h with
  | [a, b, c, d, e, f, g], _ => exact ⟨a, b, c, d, e, f, g, rfl⟩
theorem lit_i64 {z : Int} (h : (Lit.int .i64 z).wf = true) : i64 z := by
  unfold Lit.wf at h
  rw [Bool.and_eq_true, decide_eq_true_eq, decide_eq_true_eq] at h
  exact h
theorem bulk_str {H : Type} (a : ByteArray) : a.size ≤ Rows.uptoBulk (H := H) (.lit (.string a.data.toList)) := by
  unfold Rows.uptoBulk
  show a.data.size ≤ a.data.toList.length + 1
  rw [Array.length_toList]
  omega
theorem open_deed {H : Type} {enc : TypeId × Value → H} {W : World} {b0 : Nat} {sp : Nat → Bool} {held : Bool} {n : Nat} {cs : List Value} {x : DataW H × List MemPlace} (h : DataW.trod enc Tryd.prog W b0 sp held n 57 cs = some x) :
    ∃ d : AAct, cs = d.cells ∧ (i64 d.kind ∧ i64 d.s ∧ i64 d.n ∧ i64 d.k) ∧ d.path.size ≤ Rows.uptoBulk x.1 ∧ d.text.size ≤ Rows.uptoBulk x.1 := by
  obtain ⟨xs, k, _, hxx, hl, hx, hf⟩ := DataW.trod_struct Tryd.underlying57 h
  have c32 : Tryd.prog.cellsOf 57 = 7 := by kernel_rfl
  have c3 : Tryd.prog.cellsOf 3 = 1 := by kernel_rfl
  have c4 : Tryd.prog.cellsOf 4 = 1 := by kernel_rfl
  have c9 : Tryd.prog.cellsOf 9 = 1 := by kernel_rfl
  rw [c32] at hl
  obtain ⟨v0, v1, v2, v3, v4, v5, v6, rfl⟩ := list7 hl
  obtain ⟨y0, y1, y2, y3, y4, y5, y6, rfl⟩ := list7 hx
  have g0 : DataW.trod enc Tryd.prog W b0 sp held k 3 [v0] = some y0 := by simpa [c3] using hf 0 _ rfl
  have g1 : DataW.trod enc Tryd.prog W b0 sp held k 3 [v1] = some y1 := by simpa [c3] using hf 1 _ rfl
  have g2 : DataW.trod enc Tryd.prog W b0 sp held k 3 [v2] = some y2 := by simpa [c3] using hf 2 _ rfl
  have g3 : DataW.trod enc Tryd.prog W b0 sp held k 3 [v3] = some y3 := by simpa [c3] using hf 3 _ rfl
  have g4 : DataW.trod enc Tryd.prog W b0 sp held k 9 [v4] = some y4 := by simpa [c9] using hf 4 _ rfl
  have g5 : DataW.trod enc Tryd.prog W b0 sp held k 9 [v5] = some y5 := by simpa [c9] using hf 5 _ rfl
  have g6 : DataW.trod enc Tryd.prog W b0 sp held k 4 [v6] = some y6 := by simpa [c4] using hf 6 _ rfl
  obtain ⟨a0, e0, _, w0⟩ := DataW.trod_int Tryd.underlying3 g0
  obtain ⟨a1, e1, _, w1⟩ := DataW.trod_int Tryd.underlying3 g1
  obtain ⟨a2, e2, _, w2⟩ := DataW.trod_int Tryd.underlying3 g2
  obtain ⟨a3, e3, _, w3⟩ := DataW.trod_int Tryd.underlying3 g3
  obtain ⟨a4, e4, x4, _⟩ := DataW.trod_string Tryd.underlying9 g4
  obtain ⟨a5, e5, x5, _⟩ := DataW.trod_string Tryd.underlying9 g5
  obtain ⟨a6, e6, _⟩ := DataW.trod_bool Tryd.underlying4 g6
  cases e0
  cases e1
  cases e2
  cases e3
  cases e4
  cases e5
  cases e6
  have hb4 : a4.size ≤ Rows.uptoBulk y4.1 := by rw [x4]; exact bulk_str a4
  have hb5 : a5.size ≤ Rows.uptoBulk y5.1 := by rw [x5]; exact bulk_str a5
  refine ⟨⟨a0, a1, a2, a3, a4, a5, a6⟩, rfl, ⟨lit_i64 w0, lit_i64 w1, lit_i64 w2, lit_i64 w3⟩, ?_, ?_⟩
  · rw [hxx]
    show a4.size ≤ _
    simp only [Rows.uptoBulk, Rows.uptoBulkAll, List.map_cons, List.map_nil]
    omega
  · rw [hxx]
    show a5.size ≤ _
    simp only [Rows.uptoBulk, Rows.uptoBulkAll, List.map_cons, List.map_nil]
    omega
theorem bulk_mem {H : Type} {l : List (DataW H)} {x : DataW H} (h : x ∈ l) : Rows.uptoBulk x ≤ Rows.uptoBulkAll l := by
  induction l with
  | nil => cases h
  | cons y r ih =>
    simp only [Rows.uptoBulkAll]
    rcases List.mem_cons.1 h with rfl | h
    · omega
    · have := ih h; omega
set_option maxRecDepth 100000 in
theorem open_script {H : Type} {enc : TypeId × Value → H} {W : World} {base : Nat} {v : Value} {d : DataW H} {p : List MemPlace} (hv : Value.okWide Tryd.prog W .any base 36 v) (h : DataW.Trod enc Tryd.prog W 0 (fun _ => true) true 36 v d p) :
    ∃ a cap acts, v = .slice a (List.length acts) cap ∧ acts.length ≤ Rows.uptoBulk d ∧ (Rows.uptoBulk d ≤ 1048576 → ScriptA W a acts) := by
  obtain ⟨a, len, cap, rfl⟩ := okWide_slice Tryd.underlying36 hv
  obtain ⟨fuel, hf⟩ := h
  have c32 : Tryd.prog.cellsOf 57 = 7 := by kernel_rfl
  rcases open_slice Tryd.underlying36 hf with ⟨hcs, hx⟩ | ⟨a', len', cap', m, n, D, Pl, hcs, _, hl, hm, hmm, hx, hel⟩
  · simp only [Value.cells, List.cons.injEq, Value.slice.injEq, and_true] at hcs
    obtain ⟨rfl, rfl, rfl⟩ := hcs
    exact ⟨none, 0, [], rfl, by simp, fun _ => ⟨fun h => absurd h (by simp), fun d hd => by cases hd⟩⟩
  · simp only [Value.cells, List.cons.injEq, Value.slice.injEq, and_true] at hcs
    obtain ⟨rfl, rfl, rfl⟩ := hcs
    have hmc : m = cap := by simpa using hmm
    rw [c32] at hel
    have each : ∀ i, i < len → ∃ d : AAct, (∀ j v, d.cells[j]? = some v → W.cell? (a'.add (i * 7 + j)) = some v) ∧ (i64 d.kind ∧ i64 d.s ∧ i64 d.n ∧ i64 d.k) ∧ d.path.size ≤ Rows.uptoBulk (D i) ∧ d.text.size ≤ Rows.uptoBulk (D i) := by
      intro i hi
      obtain ⟨cs', h1, h2⟩ := hel i (by omega)
      obtain ⟨d, rfl, hi64, hp, ht⟩ := open_deed h2
      obtain ⟨_, hlen, hcell⟩ := World.cells?_some h1
      refine ⟨d, fun j v e => ?_, hi64, hp, ht⟩
      have hj : j < 7 := (List.getElem?_eq_some_iff.1 e).1
      rw [← add_add, hcell j hj]
      exact e
    haveI : Inhabited AAct := ⟨⟨0, 0, 0, 0, ByteArray.empty, ByteArray.empty, false⟩⟩
    obtain ⟨q, hq⟩ := choose_lt each
    have e : d = (DataW.slice ((List.range len).map D) ((List.range (m - len)).map fun j => D (len + j))) := congrArg Prod.fst hx
    have hbl := bulk_len ((List.range len).map D)
    refine ⟨some a', cap, (List.range len).map q, by simp, by rw [e]; simp only [Rows.uptoBulk, List.length_map, List.length_range] at hbl ⊢; omega, fun hbk => ⟨fun h0 => ?_, fun d hd => ?_⟩⟩
    · have h0' : 0 < len := by simpa using h0
      have first := (hq 0 h0').1 0 _ rfl
      obtain ⟨b, o, sp⟩ := a'
      have hsp : sp = none := by
        have := World.cell?_spot first
        simpa [Addr.add] using this
      subst hsp
      simp only [add_plain] at first hq
      refine ⟨b, o, rfl, World.block_lt_of_cell? W _ first, fun i d hd j v e => ?_⟩
      rw [List.getElem?_map] at hd
      obtain ⟨i', hi', rfl⟩ := Option.map_eq_some_iff.1 hd
      obtain ⟨hi1, hi2⟩ := List.getElem?_eq_some_iff.1 hi'
      have hii : i = i' := by simpa using hi2
      subst hii
      have := (hq i (by simpa using hi1)).1 j v e
      rw [Nat.add_assoc]
      exact this
    · obtain ⟨i, hi, rfl⟩ := List.mem_map.1 hd
      have hil := List.mem_range.1 hi
      obtain ⟨_, hi64, hp, ht⟩ := hq i hil
      have hm : Rows.uptoBulk (D i) ≤ Rows.uptoBulkAll ((List.range len).map D) := bulk_mem (List.mem_map.2 ⟨i, hi, rfl⟩)
      rw [e] at hbk
      simp only [Rows.uptoBulk] at hbk
      exact ⟨hi64.1, hi64.2.1, hi64.2.2.1, hi64.2.2.2, by omega, by omega⟩
end Go.Proofs.YtphapknfkbgapaaDoor
namespace Go.Proofs.YtphapknfkbgapaaDoor
open Go.RowKit

variable {N : ByteArray → Prop} {X : PS} {Y : RS} {D : PD} {n S : Nat} {R : Int}
/-- Where all is compacted, at most six entries are kept: the newest of each path. -/
theorem kept_once {all : List RKept} {f : Int} (h : OutOk2 all f) (hf : f = (all.length : Int)) : ((keptOf all).map Ent.path).Nodup := by
  have p1 : all.Pairwise (fun k q => k.out = false → k.e.path ≠ q.e.path) := by
    rw [List.pairwise_iff_getElem]
    intro i j hi hj hij ho he
    have hlow := (h.low i all[i] (List.getElem?_eq_getElem hi) (by omega)).2 (Or.inr ⟨j, all[j], hij, by omega, List.getElem?_eq_getElem hj, he.symm⟩)
    rw [ho] at hlow
    cases hlow
  have p2 := p1.filter (fun k : RKept => !k.out)
  show (((all.filter fun k => !k.out).map RKept.e).map Ent.path).Pairwise (· ≠ ·)
  rw [List.pairwise_map, List.pairwise_map]
  exact p2.imp_of_mem (fun {a b} ha _ hab => hab (by have := (List.mem_filter.1 ha).2; simpa using this))
theorem kept_names {ks : List RKey} {all : List RKept} {ds : List Dd} (h : AllOk ks all ds) (hn : ∀ d ∈ ds, N d.path) : ∀ x ∈ (keptOf all).map Ent.path, N x := by
  intro x hx
  obtain ⟨e, he, rfl⟩ := List.mem_map.1 hx
  obtain ⟨k, hk, rfl⟩ := List.mem_map.1 (show e ∈ (all.filter fun k => !k.out).map RKept.e from he)
  have hk := (List.mem_filter.1 hk).1
  obtain ⟨i, hi, hik⟩ := List.getElem_of_mem hk
  have hd : i < ds.length := by rw [← h.len]; exact hi
  have ha := h.same i k ds[i] (by rw [← hik]; exact List.getElem?_eq_getElem hi) (List.getElem?_eq_getElem hd)
  rw [ha.path]
  exact hn _ (List.getElem_mem hd)
theorem Kn.six (h : Kn IsName n X D S R) (hf : D.floor = (D.deeds.length : Int)) : X.entries.length ≤ 6 := by
  obtain ⟨Y, h, k, _, _⟩ := h
  have hl := k.all.len
  have a := kept_once k.out (by rw [← k.floor, hf, hl])
  have c := names_six a (kept_names k.all k.names)
  rw [List.length_map] at c
  rw [h.ent]
  exact c
/-! How many paths are still under an old key. -/
def lastE (l : List Ent) (p : ByteArray) : Option Ent := l.reverse.find? (fun e => e.path.toList == p.toList)
theorem lastE_snoc (l : List Ent) (e : Ent) (p : ByteArray) : lastE (l ++ [e]) p = if e.path.toList == p.toList then some e else lastE l p := by
  unfold lastE
  rw [List.reverse_append]
  simp only [List.reverse_cons, List.reverse_nil, List.nil_append, List.singleton_append, List.find?_cons]
  cases (e.path.toList == p.toList) <;> rfl
theorem lastE_idx {l : List Ent} {p : ByteArray} {e : Ent} : lastE l p = some e → ∃ i : Nat, l[i]? = some e ∧ e.path = p ∧ ∀ (j : Nat) (q : Ent), i < j → l[j]? = some q → q.path ≠ p := by
  refine snoc_ind (P := fun l => lastE l p = some e → ∃ i : Nat, l[i]? = some e ∧ e.path = p ∧ ∀ (j : Nat) (q : Ent), i < j → l[j]? = some q → q.path ≠ p) ?_ ?_ l
  · intro h
    cases h
  · intro l x ih h
    rw [lastE_snoc] at h
    cases hx : (x.path.toList == p.toList)
    · rw [hx] at h
      obtain ⟨i, a, b, c⟩ := ih (by simpa using h)
      have hi := (List.getElem?_eq_some_iff.1 a).1
      refine ⟨i, by rw [List.getElem?_append_left hi]; exact a, b, fun j q hj hq => ?_⟩
      by_cases e : j < l.length
      · rw [List.getElem?_append_left e] at hq
        exact c j q hj hq
      · have hj2 := (List.getElem?_eq_some_iff.1 hq).1
        have : j = l.length := by simp at hj2; omega
        subst this
        rw [List.getElem?_append_right (Nat.le_refl _)] at hq
        simp at hq
        subst hq
        intro e2
        rw [path_beq.2 e2] at hx
        cases hx
    · rw [hx] at h
      simp at h
      subst h
      refine ⟨l.length, by simp, path_beq.1 hx, fun j q hj hq => ?_⟩
      have hj2 := (List.getElem?_eq_some_iff.1 hq).1
      simp at hj2
      omega
def oldIn (w : Int) : Option Ent → Bool
  | some e => !e.gone && (e.key != w)
  | none => false
def oldAt (Y : RS) (p : ByteArray) : Bool := oldIn (writesOf Y.keys Y.epoch) (lastE (Y.all.map RKept.e) p)
/-- How many of the six paths are under an old key. -/
def mu (Y : RS) : Nat := (List.range 6).countP (fun k => oldAt Y (nameOf k))
theorem mu_six (Y : RS) : mu Y ≤ 6 := by
  unfold mu
  have := List.countP_le_length (p := fun k => oldAt Y (nameOf k)) (l := List.range 6)
  simpa using this
theorem count_one {f g : Nat → Bool} {k : Nat} (hk : k < 6) (h1 : f k = true) (h2 : g k = false) (h3 : ∀ i, i < 6 → i ≠ k → g i = f i) : (List.range 6).countP g + 1 = (List.range 6).countP f := by
  have e : List.range 6 = [0, 1, 2, 3, 4, 5] := rfl
  rw [e]
  simp only [List.countP_cons, List.countP_nil]
  have : k = 0 ∨ k = 1 ∨ k = 2 ∨ k = 3 ∨ k = 4 ∨ k = 5 := by omega
  rcases this with rfl | rfl | rfl | rfl | rfl | rfl
  · rw [h1, h2, h3 1 (by omega) (by omega), h3 2 (by omega) (by omega), h3 3 (by omega) (by omega), h3 4 (by omega) (by omega), h3 5 (by omega) (by omega)]; simp
  · rw [h1, h2, h3 0 (by omega) (by omega), h3 2 (by omega) (by omega), h3 3 (by omega) (by omega), h3 4 (by omega) (by omega), h3 5 (by omega) (by omega)]; simp; omega
  · rw [h1, h2, h3 0 (by omega) (by omega), h3 1 (by omega) (by omega), h3 3 (by omega) (by omega), h3 4 (by omega) (by omega), h3 5 (by omega) (by omega)]; simp; omega
  · rw [h1, h2, h3 0 (by omega) (by omega), h3 1 (by omega) (by omega), h3 2 (by omega) (by omega), h3 4 (by omega) (by omega), h3 5 (by omega) (by omega)]; simp; omega
  · rw [h1, h2, h3 0 (by omega) (by omega), h3 1 (by omega) (by omega), h3 2 (by omega) (by omega), h3 3 (by omega) (by omega), h3 5 (by omega) (by omega)]; simp; omega
  · rw [h1, h2, h3 0 (by omega) (by omega), h3 1 (by omega) (by omega), h3 2 (by omega) (by omega), h3 3 (by omega) (by omega), h3 4 (by omega) (by omega)]; simp; omega
theorem allTo_ents (l : List RKept) (f : Nat → Bool) (m : Nat) : (allTo l f m).map RKept.e = l.map RKept.e := by
  apply List.ext_getElem?
  intro i
  unfold allTo
  rw [List.getElem?_map, List.getElem?_map, List.getElem?_mapIdx]
  cases l[i]? with
  | none => rfl
  | some k =>
    simp only [Option.map_some]
    split <;> rfl
theorem mu_compact (Y : RS) (r : Nat) : mu (Y.compact r) = mu Y := by
  unfold mu oldAt
  show (List.range 6).countP (fun k => oldIn (writesOf Y.keys Y.epoch) (lastE ((allTo Y.all (outAt Y.all r) r).map RKept.e) (nameOf k))) = _
  rw [allTo_ents]
theorem lastE_of {l : List Ent} {p : ByteArray} {e : Ent} {i : Nat} (h1 : l[i]? = some e) (h2 : e.path = p) (h3 : ∀ (j : Nat) (q : Ent), i < j → l[j]? = some q → q.path ≠ p) : lastE l p = some e := by
  cases h : lastE l p with
  | none =>
    have := List.find?_eq_none.1 h e (List.mem_reverse.2 (List.mem_of_getElem? h1))
    rw [path_beq.2 h2] at this
    exact absurd rfl this
  | some e' =>
    obtain ⟨i', a, b, c⟩ := lastE_idx h
    have : i = i' := by
      rcases Nat.lt_trichotomy i i' with q | q | q
      · exact absurd b (h3 i' e' q a)
      · exact q
      · exact absurd h2 (c i e q h1)
    subst this
    exact a.symm.trans h1
theorem lastE_kept {all : List RKept} {f : Int} {p : ByteArray} {e : Ent} (h : OutOk2 all f) (hl : lastE (all.map RKept.e) p = some e) (hg : e.gone = false) : ∃ (i : Nat) (k : RKept), all[i]? = some k ∧ k.e = e ∧ k.out = false ∧ e.path = p ∧ lastOf all p = some e := by
  obtain ⟨i, a, b, c⟩ := lastE_idx hl
  rw [List.getElem?_map] at a
  obtain ⟨k, hk, rfl⟩ := Option.map_eq_some_iff.1 a
  have ho : k.out = false := by
    by_cases hi : (i : Int) + 1 ≤ f
    · cases ho : k.out
      · rfl
      · rcases (h.low i k hk hi).1 ho with q | ⟨j, q, h1, _, h3, h4⟩
        · rw [hg] at q
          cases q
        · exact absurd (h4.trans b) (c j q.e h1 (by rw [List.getElem?_map, h3]; rfl))
    · exact h.high i k hk (by omega)
  refine ⟨i, k, hk, rfl, ho, b, ?_⟩
  have hm : k.e ∈ keptOf all := List.mem_map.2 ⟨k, List.mem_filter.2 ⟨List.mem_of_getElem? hk, by rw [ho]; rfl⟩, rfl⟩
  obtain ⟨k', _, hlast⟩ := last_some hm
  rw [b] at hlast
  obtain ⟨i', k2, a1, a2, a3, a4, a5⟩ := lastOf_idx hlast
  have : i = i' := by
    rcases Nat.lt_trichotomy i i' with q | q | q
    · exact absurd a4 (c i' k2.e q (by rw [List.getElem?_map, a1]; rfl))
    · exact q
    · rcases a5 i k q hk with z | z
      · rw [ho] at z
        cases z
      · exact absurd b z
  subst this
  obtain rfl := Option.some.inj (hk.symm.trans a1)
  rw [hlast, a2]
theorem lastE_last {all : List RKept} {f : Int} {p : ByteArray} {e : Ent} (h : OutOk2 all f) (hl : lastOf all p = some e) : lastE (all.map RKept.e) p = some e := by
  obtain ⟨i, k, a1, rfl, a3, a4, a5⟩ := lastOf_idx hl
  refine lastE_of (i := i) (by rw [List.getElem?_map, a1]; rfl) a4 (fun j q hj hq e2 => ?_)
  rw [List.getElem?_map] at hq
  obtain ⟨kq, hkq, rfl⟩ := Option.map_eq_some_iff.1 hq
  rcases a5 j kq hj hkq with z | z
  · by_cases hf : (j : Int) + 1 ≤ f
    · have := (h.low i k a1 (by omega)).2 (Or.inr ⟨j, kq, hj, hf, hkq, e2.trans a4.symm⟩)
      rw [a3] at this
      cases this
    · have := h.high j kq hkq (by omega)
      rw [z] at this
      cases this
  · exact z e2
/-- What is old is due. -/
theorem old_due (h : Rel2 n X Y) (hk : Know N Y D) {p : ByteArray} (ho : oldAt Y p = true) : (dueOf Y).found = true := by
  unfold oldAt at ho
  cases hl : lastE (Y.all.map RKept.e) p with
  | none => rw [hl] at ho; cases ho
  | some e =>
    rw [hl] at ho
    have ho : (!e.gone && (e.key != writesOf Y.keys Y.epoch)) = true := ho
    rw [Bool.and_eq_true] at ho
    have hg : e.gone = false := by simpa using ho.1
    have hne : e.key ≠ writesOf Y.keys Y.epoch := by simpa using ho.2
    obtain ⟨i, k, a1, rfl, a3, a4, a5⟩ := lastE_kept hk.out hl hg
    obtain ⟨d, hd, hag⟩ := hk.all.of a1
    obtain ⟨ok1, j, K, ok2, ok3, ok4⟩ := h.eok k (List.mem_of_getElem? a1) hg
    have hKg := ok4 a3
    obtain ⟨_, j2, K2, s1, s2, s3, s4⟩ := hag.shut hg
    have hjj : j2 = j := by rw [ok2] at s1; omega
    subst hjj
    obtain rfl := Option.some.inj (s2.symm.trans ok3)
    have hop := opened_deed s4 (h.keys.came j2 K2 ok3).2 hKg
    cases hf : (dueOf Y).found
    · have hm : k.e ∈ keptOf Y.all := List.mem_map.2 ⟨k, List.mem_filter.2 ⟨List.mem_of_getElem? a1, by rw [a3]; rfl⟩, rfl⟩
      exact ((dueOf_spec Y).no hf k.e hm k.e d.text ⟨by rw [a4, a5]; rfl, hg, hne, by rw [keyAt_eq ok3 ok2]; exact hop⟩).elim
    · rfl
/-- What is due is old. -/
theorem due_old (hk : Know N Y D) (hf : (dueOf Y).found = true) : oldAt Y (dueOf Y).name = true := by
  obtain ⟨x, hx, E, q, hE⟩ := (dueOf_spec Y).yes hf
  obtain ⟨k0, _, hlast⟩ := last_some hx
  have hEk : E = k0.e := by rw [q.newest, hlast]; rfl
  obtain ⟨i, k, a1, a2, a3, a4, a5⟩ := lastOf_idx hlast
  have hp : x.path = (dueOf Y).name := by rw [← a4, a2, ← hEk, hE]
  rw [hp] at hlast
  unfold oldAt
  rw [lastE_last hk.out hlast, ← hEk]
  show (!E.gone && (E.key != _)) = true
  rw [q.there]
  simpa using q.old
/-- A move: one path less is old. -/
theorem mu_move (h : Rel2 n X Y) (hk : Know IsName Y D) (hf : (dueOf Y).found = true) {j : Nat} {K : RKey} (hj : writesOf Y.keys Y.epoch = (j : Int) + 1) : mu (Y.move K ((j : Int) + 1)) + 1 = mu Y := by
  obtain ⟨r, d, _, _, _, _, d5, d6, _⟩ := due_deed h hk hf
  rw [d5] at d6
  obtain ⟨k, hk6, hkn⟩ := d6
  have hold := due_old hk hf
  have hmap : (Y.move K ((j : Int) + 1)).all.map RKept.e = Y.all.map RKept.e ++ [moveEnt Y K ((j : Int) + 1)] := by
    show (Y.all ++ [_]).map RKept.e = _
    rw [List.map_append]
    rfl
  have hw : writesOf (Y.move K ((j : Int) + 1)).keys (Y.move K ((j : Int) + 1)).epoch = (j : Int) + 1 := hj
  unfold mu
  refine count_one hk6 ?_ ?_ ?_
  · rw [← hkn]; exact hold
  · unfold oldAt
    rw [hmap, lastE_snoc, hw, if_pos (path_beq.2 (show (moveEnt Y K ((j : Int) + 1)).path = nameOf k from hkn))]
    show (!false && ((j : Int) + 1 != (j : Int) + 1)) = false
    simp
  · intro i hi hne
    unfold oldAt
    rw [hmap, lastE_snoc, hw, hj, if_neg]
    rw [path_beq]
    intro e
    exact hne (nameOf_inj hi hk6 ((show (dueOf Y).name = nameOf i from e).symm.trans hkn))
/-- Nothing is due where all is compacted: nothing is used but the key that writes. -/
theorem kept_last {all : List RKept} {f : Int} (h : OutOk2 all f) (hf : f = (all.length : Int)) {e : Ent} (he : e ∈ keptOf all) : e.gone = false ∧ lastE (all.map RKept.e) e.path = some e := by
  obtain ⟨k, hk, rfl⟩ := List.mem_map.1 (show e ∈ (all.filter fun k => !k.out).map RKept.e from he)
  obtain ⟨hk1, hk2⟩ := List.mem_filter.1 hk
  have ho : k.out = false := by simpa using hk2
  obtain ⟨i, hi, hik⟩ := List.getElem_of_mem hk1
  have hki : all[i]? = some k := by rw [← hik]; exact List.getElem?_eq_getElem hi
  have no : ¬ (k.e.gone = true ∨ ∃ (j : Nat) (q : RKept), i < j ∧ (j : Int) + 1 ≤ f ∧ all[j]? = some q ∧ q.e.path = k.e.path) := fun z => by
    have := (h.low i k hki (by omega)).2 z
    rw [ho] at this
    cases this
  refine ⟨by cases q : k.e.gone; rfl; exact absurd (Or.inl q) no, lastE_of (i := i) (by rw [List.getElem?_map, hki]; rfl) rfl (fun j q hj hq e2 => ?_)⟩
  rw [List.getElem?_map] at hq
  obtain ⟨kq, hkq, rfl⟩ := Option.map_eq_some_iff.1 hq
  have hjl := (List.getElem?_eq_some_iff.1 hkq).1
  exact no (Or.inr ⟨j, kq, hj, by omega, hkq, e2⟩)
theorem mu_zero (hm : mu Y = 0) {p : ByteArray} (hp : IsName p) : oldAt Y p = false := by
  obtain ⟨k, hk6, rfl⟩ := hp
  unfold mu at hm
  rw [List.countP_eq_zero] at hm
  have := hm k (List.mem_range.2 hk6)
  simpa using this
theorem unused (h : Rel2 n X Y) (hk : Know IsName Y D) (hm : mu Y = 0) (hf : D.floor = (D.deeds.length : Int)) : pUsed X = false := by
  unfold pUsed
  rw [List.any_eq_false]
  intro e he
  rw [h.ent] at he
  obtain ⟨hg, hl⟩ := kept_last hk.out (by rw [← hk.floor, hf, hk.all.len]) he
  have hn : IsName e.path := kept_names hk.all hk.names e.path (List.mem_map.2 ⟨e, he, rfl⟩)
  have ho := mu_zero hm hn
  unfold oldAt at ho
  rw [hl] at ho
  have ho : (!e.gone && (e.key != writesOf Y.keys Y.epoch)) = false := ho
  rw [h.write, ho]
  decide
/-- What a Migrate leaves: as many less are old as were moved; none is left, or all were moved that might be, or it is full. -/
theorem mu_moves (t : Nat) : ∀ (n : Nat) (X : PS) (Y : RS) (D : PD), Rel2 n X Y → Know IsName Y D → n + t ≤ 50000000 → ∀ (j : Nat) (K : RKey), writesOf Y.keys Y.epoch = (j : Int) + 1 → Y.keys[j]? = some K →
    ∃ (Y' : RS) (D' : PD) (c : Nat), Rel2 (n + t) (pMoves K.text ((j : Int) + 1) t X).1 Y' ∧ Know IsName Y' D' ∧ Y'.room = Y.room ∧ (pMoves K.text ((j : Int) + 1) t X).1.entries.length = X.entries.length + c ∧ mu Y' + c = mu Y ∧ (mu Y' = 0 ∨ c = t ∨ Y.room ≤ ((X.entries.length + c : Nat) : Int)) := by
  induction t with
  | zero =>
    intro n X Y D h k _ j K _ _
    exact ⟨Y, D, 0, h, k, rfl, rfl, rfl, Or.inr (Or.inl rfl)⟩
  | succ t ih =>
    intro n X Y D h k hn j K hj hK
    obtain ⟨e, _⟩ := first_due h
    cases hf : (dueOf Y).found
    · rw [pmoves_stop (by omega) (e.trans hf)]
      refine ⟨Y, D, 0, h.mono (by omega), k, rfl, rfl, rfl, Or.inl ?_⟩
      unfold mu
      rw [List.countP_eq_zero]
      intro i _ hi
      rw [old_due h k hi] at hf
      cases hf
    · cases hu : fullOf Y
      · have hr := rel_move h (by omega) hj hK hf hu
        have hpm := pmove_same h K ((j : Int) + 1) hf
        obtain ⟨r, d, d1, d2, d3, d4, d5, d6, d7⟩ := due_deed h k hf
        have hk2 := know_move h k hj hK d5 d4 d3 d6 d7
        have hm := mu_move (K := K) h k hf hj
        obtain ⟨Y', D', c, a1, a2, a3, a4, a5, a6⟩ := ih (n + 1) _ _ _ hr hk2 (by omega) j K hj hK
        rw [pmoves_step (e.trans hf) ((pFull_same h).trans hu), hpm]
        have hl : (X.moved (moveEnt Y K ((j : Int) + 1))).entries.length = X.entries.length + 1 := by
          show (X.entries ++ [_]).length = _
          simp
        rw [hl] at a4 a6
        refine ⟨Y', D', c + 1, a1.mono (by omega), a2, a3, by rw [a4]; omega, by omega, ?_⟩
        rcases a6 with q | q | q
        · exact Or.inl q
        · exact Or.inr (Or.inl (by omega))
        · refine Or.inr (Or.inr ?_)
          have q : Y.room ≤ ((X.entries.length + 1 + c : Nat) : Int) := q
          omega
      · rw [pmoves_full (by omega) (e.trans hf) ((pFull_same h).trans hu)]
        refine ⟨Y, D, 0, h.mono (by omega), k, rfl, rfl, rfl, Or.inr (Or.inr ?_)⟩
        have q : fullOf Y = true := hu
        unfold fullOf at q
        rw [h.ent]
        simp at q
        simpa using q
/-- Whatever the player knows: at most m paths are old. -/
def Sh (n : Nat) (X : PS) (R : Int) (m : Nat) : Prop := ∃ (Y : RS) (D : PD), Rel2 n X Y ∧ Know IsName Y D ∧ Y.room = R ∧ mu Y ≤ m
theorem Kn.sh (h : Kn IsName n X D S R) : Sh n X R 6 := by
  obtain ⟨Y, h, k, _, r⟩ := h
  exact ⟨Y, D, h, k, r, mu_six Y⟩
theorem Sh.mono {m k : Nat} (h : Sh n X R m) (hk : n ≤ k) : Sh k X R m := by
  obtain ⟨Y, D, h, kn, r, hm⟩ := h
  exact ⟨Y, D, h.mono hk, kn, r, hm⟩
theorem Sh.moves {X' : PS} {m : Nat} (h : Sh n X R m) (hn : n ≤ 40000000) (hg : Migd X X' 20) : Sh (n + 20) X' R m ∧ (8 ≤ R → X.entries.length ≤ 6 → Sh (n + 20) X' R (m - 2)) := by
  obtain ⟨Y, D, h, kn, r, hm⟩ := h
  obtain ⟨j, P, g1, g2, rfl⟩ := hg
  obtain ⟨j2, p, K, b1, b2, b3, b4, b5, _, b7, _⟩ := h.writer
  have hjj : j2 = j := by rw [g1] at b1; omega
  subst hjj
  obtain rfl := Option.some.inj (b3.symm.trans g2)
  rw [b5.text b7]
  obtain ⟨Y', D', c, a1, a2, a3, a4, a5, a6⟩ := mu_moves 20 n X Y D h kn (by omega) j2 K b2 b4
  have h6 := mu_six Y
  refine ⟨⟨Y', D', a1, a2, a3.trans r, by omega⟩, fun hR he => ⟨Y', D', a1, a2, a3.trans r, ?_⟩⟩
  rw [r] at a6
  rcases a6 with q | q | q <;> omega
theorem Sh.compact {m : Nat} {n2 : Nat} (h : Sh n X R m) (k : Kn IsName n2 X D S R) (hlt : D.floor < (D.deeds.length : Int)) : Sh (n + 1) (X.compact (D.deeds.length : Int)) R m := by
  obtain ⟨Y, D2, h, kn, r, hm⟩ := h
  obtain ⟨Y1, h1, k1, _, _⟩ := k
  have e1 : Y1.all.length = Y.all.length := by have := h.rev; have := h1.rev; omega
  have e2 : Y1.floor = Y.floor := by rw [← h.floor, ← h1.floor]
  have hd := k1.deeds
  have hf := k1.floor
  exact ⟨Y.compact D.deeds.length, _, rel_compact h D.deeds.length, know_compact kn h D.deeds.length (by omega) (by omega), r, by rw [mu_compact]; exact hm⟩
theorem Sh.unused {n2 : Nat} (h : Sh n X R 0) (k : Kn IsName n2 X D S R) (hf : D.floor = (D.deeds.length : Int)) : pUsed X = false := by
  obtain ⟨Y, D2, h, kn, r, hm⟩ := h
  obtain ⟨Y1, h1, k1, _, _⟩ := k
  have e1 : Y1.all.length = Y.all.length := by have := h.rev; have := h1.rev; omega
  have e2 : Y1.floor = Y.floor := by rw [← h.floor, ← h1.floor]
  exact Go.Proofs.YtphapknfkbgapaaDoor.unused h kn (by omega) (by rw [kn.floor, kn.deeds, ← e1, ← e2, ← k1.deeds, ← k1.floor]; exact hf)
end Go.Proofs.YtphapknfkbgapaaDoor
namespace Go.Proofs.YtphapknfkbgapaaDoor
open Go.RowKit

variable {N : ByteArray → Prop} {G : Nat → Prop} {b bx S n : Nat} {R : Int} {key : ByteArray} {X : PS} {D : PD} {Q : Pods}

/-! Done, plain data. -/
theorem pmoves_turn (T : ByteArray) (m : Int) : ∀ (t : Nat) (X : PS), (pMoves T m t X).1.turn = X.turn
  | 0, X => rfl
  | t + 1, X => by
    unfold pMoves
    split
    · split
      · rfl
      · exact (pmoves_turn T m t (X.pmove T m)).trans rfl
    · rfl
theorem Migd.turn {X' : PS} {t : Nat} (h : Migd X X' t) : X'.turn = X.turn := by
  obtain ⟨j, P, _, _, rfl⟩ := h
  exact pmoves_turn _ _ _ _
theorem Compd.turn {X' : PS} {D' : PD} (h : Compd N n X X' D D' S R) : X'.turn = X.turn := by
  rcases h.x with e | ⟨_, e⟩ <;> rw [e] <;> rfl
theorem going_of {X X' : PS} (h : X'.turn = X.turn) : pGoing X' = pGoing X := by unfold pGoing; rw [h]
/-- Behind so many rounds of migrate and compacted. -/
structure Rnd (n : Nat) (X : PS) (D D0 : PD) (S : Nat) (R : Int) (i : Nat) : Prop where
  kn : Kn IsName (n + 21 * i) X D S R
  sh : Sh (n + 21 * i) X R (6 - 2 * (i - 1))
  going : pGoing X = true
  flat : 0 < i → D.floor = (D.deeds.length : Int)
  seen : D.seen = D0.seen
theorem Rnd.step {X1 X2 : PS} {D1 D2 D0 : PD} {i : Nat} (h : Rnd n X D D0 S R i) (hn : n + 21 * i ≤ 30000000) (hR : 8 ≤ R) (k1 : Kn IsName (n + 21 * i + 20) X1 D1 S R) (s1 : Still D D1) (m1 : Migd X X1 20) (c2 : Compd IsName (n + 21 * i + 20) X1 X2 D1 D2 S R) : Rnd n X2 D2 D0 S R (i + 1) := by
  have e : n + 21 * (i + 1) = n + 21 * i + 20 + 1 := by omega
  have sm : Sh (n + 21 * i + 20) X1 R (6 - 2 * (i + 1 - 1)) := by
    obtain ⟨a, c⟩ := h.sh.moves (by omega) m1
    by_cases hi : 0 < i
    · have := c hR (h.kn.six (h.flat hi))
      rw [show 6 - 2 * (i - 1) - 2 = 6 - 2 * (i + 1 - 1) by omega] at this
      exact this
    · obtain rfl : i = 0 := by omega
      exact a
  refine ⟨by rw [e]; exact c2.kn, ?_, ?_, fun _ => ?_, ?_⟩
  · rw [e]
    rcases c2.x with q | ⟨hlt, q⟩
    · rw [q]; exact sm.mono (by omega)
    · rw [q]; exact sm.compact k1 hlt
  · rw [going_of c2.turn, going_of m1.turn]; exact h.going
  · rw [c2.d]
  · rw [c2.d]; exact s1.2.trans h.seen
theorem Kn.turn3 (h : Kn N n X D S R) (ht : X.turn ≠ 0) : T3 X.turn := by
  obtain ⟨Y, h, k, _⟩ := h
  rw [h.turn] at ht ⊢
  exact (k.left ht).2
/-- No key waits: the last one writes. -/
theorem Kn.last (h : Kn N n X D S R) (ht : X.turn ≠ 1) : X.write = (X.keys.length : Int) := by
  obtain ⟨Y, h, k, _⟩ := h
  obtain ⟨f1, f2⟩ := h.keys.few
  obtain ⟨K, hK⟩ : ∃ K, Y.keys[Y.keys.length - 1]? = some K := ⟨_, List.getElem?_eq_getElem (by omega)⟩
  have hw : K.writes ≠ 0 := fun e => ht (by rw [h.turn]; exact (h.keys.zero _ K hK e).2)
  have hb := h.keys.wr _ K hK
  rw [h.write, h.keys.len, writes_unique hK (by unfold writesAt; simp; omega) (fun i k hi hk => by have := (List.getElem?_eq_some_iff.1 hk).1; omega)]
  omega
theorem Kn.alive (h : Kn N n X D S R) : ∃ (j : Nat) (P : PKey), X.write = (j : Int) + 1 ∧ X.keys[j]? = some P ∧ keyGone P = false := by
  obtain ⟨Y, h, k, _⟩ := h
  obtain ⟨j, p, K, b1, b2, b3, b4, b5, _, b7, _⟩ := h.writer
  exact ⟨j, p, b1, b3, b5.alive.trans b7⟩
/-- All but the one that writes are destroyed: the turn is over. -/
theorem Kn.over (h : Kn N n X D S R) (ho : pOldLeft X.keys X.write = false) : X.turn = 0 := by
  obtain ⟨j, P, a1, a2, a3⟩ := h.alive
  have l1 := left_one a2 a3
  rw [← a1, ho] at l1
  have l1 : pLeft X.keys = 1 := by simpa using l1
  obtain ⟨Y, h, k, _⟩ := h
  by_cases e : X.turn = 0
  · exact e
  · rw [h.turn] at e
    have := (k.left e).1
    rw [left_same X.keys Y.keys h.keys.len (fun i p k hp hk => (h.keys.same i p k hp hk).alive)] at l1
    omega
/-- The keys below k are destroyed; where the turn is over, all but the one that writes. -/
structure Dest (n : Nat) (X : PS) (D D0 : PD) (S : Nat) (R : Int) (W k : Nat) : Prop where
  kn : Kn IsName (n + k) X D S R
  len : X.keys.length = W
  write : X.write = (W : Int)
  used : pUsed X = false
  gone : ∀ (j : Nat) (P : PKey), j + 1 < k → X.keys[j]? = some P → keyGone P = true
  turn : X.turn = 3 ∨ pOldLeft X.keys X.write = false
  seen : D.seen = D0.seen
theorem Dest.begin {D0 : PD} (h : Kn IsName n X D S R) (ht : X.turn = 3) (hu : pUsed X = false) (hs : D.seen = D0.seen) : Dest n X D D0 S R X.keys.length 1 :=
  ⟨h.mono (by omega), rfl, h.last (by rw [ht]; decide), hu, fun j P hj _ => by omega, Or.inl ht, hs⟩
theorem Dest.step {D0 : PD} {W k : Nat} (h : Dest n X D D0 S R W k) (h1 : 1 ≤ k) (hk : k < W) :
    ∃ (er : Int) (X' : PS) (v : Bool), PUni 28 [.int .i64 (k : Int)] X (.int .i64 er) X' ∧ D.dest[k]? = some v ∧ ((er = 0 ∧ v = false) ∨ (er = 14 ∧ v = true)) ∧ Dest n X' { D with dest := D.dest.set k true } D0 S R W (k + 1) := by
  obtain ⟨j, rfl⟩ : ∃ j, k = j + 1 := ⟨k - 1, by omega⟩
  have hjl : j < X.keys.length := by rw [h.len]; omega
  obtain ⟨P, hP⟩ : ∃ P, X.keys[j]? = some P := ⟨_, List.getElem?_eq_getElem hjl⟩
  obtain ⟨d0, d1, _, d3⟩ := (kn_destroy h.kn (j + 1)).2 j P rfl hP
  have hw : (((j + 1 : Nat)) : Int) ≠ X.write := by rw [h.write]; omega
  cases hg : keyGone P
  · have ht : X.turn = 3 := by
      rcases h.turn with q | q
      · exact q
      · rw [pOldLeft_yes hP (by unfold pOther; rw [hg, Bool.and_eq_true]; exact ⟨by rw [bne_iff_ne]; omega, rfl⟩)] at q
        cases q
    obtain ⟨t, e, hp, hk2⟩ := d3 hg hw ht
    have hgone : keyGone { P with text := ⟨#[]⟩ } = true := beq_self_eq_true (⟨#[]⟩ : ByteArray).toList
    refine ⟨0, _, false, hp, by rw [d0, hg], Or.inl ⟨rfl, rfl⟩, ⟨hk2, ?_, h.write, h.used, fun i q hi hq => ?_, ?_, h.seen⟩⟩
    · show (X.keys.set j _).length = W
      rw [List.length_set]; exact h.len
    · rcases set_at hq with ⟨hne, hq⟩ | ⟨_, rfl⟩
      · exact h.gone i q (by omega) hq
      · exact hgone
    · obtain ⟨i, p, a1, a2, a3⟩ := hk2.alive
      have l1 := left_one a2 a3
      rw [← a1] at l1
      cases hl : pOldLeft (X.destroy j P t).keys (X.destroy j P t).write
      · exact Or.inr rfl
      · rw [hl] at l1
        left
        show t = 3
        rw [e, if_neg (by rw [show (pLeft (X.keys.set j { P with text := ⟨#[]⟩ }) == 1) = false from l1]; decide), ht]
  · refine ⟨14, X, true, d1 hg, by rw [d0, hg], Or.inr ⟨rfl, rfl⟩, ?_⟩
    have e : ({ D with dest := D.dest.set (j + 1) true } : PD) = D := by rw [set_same (by rw [d0, hg])]
    rw [e]
    refine ⟨h.kn.mono (by omega), h.len, h.write, h.used, fun i q hi hq => ?_, h.turn, h.seen⟩
    by_cases q1 : i = j
    · subst q1
      obtain rfl := Option.some.inj (hq.symm.trans hP)
      exact hg
    · exact h.gone i q (by omega) hq
theorem Dest.over {D0 : PD} {W : Nat} (h : Dest n X D D0 S R W W) : X.turn = 0 := by
  refine h.kn.over (pOldLeft_no (fun i k hk => ?_))
  unfold pOther
  rw [h.write]
  have hi := (List.getElem?_eq_some_iff.1 hk).1
  rw [h.len] at hi
  by_cases e : i + 1 = W
  · rw [Bool.and_eq_false_iff]
    left
    rw [bne_eq_false_iff_eq]
    show (i : Int) + 1 = _
    omega
  · rw [Bool.and_eq_false_iff]
    right
    show (!keyGone k) = false
    rw [h.gone i k (by omega) hk]
    rfl
theorem used_all (h : pUsed X = false) {e : Ent} (he : e ∈ X.entries) (hg : e.gone = false) : e.key = X.write := by
  unfold pUsed at h
  have := List.any_eq_false.1 h e he
  rw [hg] at this
  simpa using this
/-- The player may tell the coffer's state. -/
theorem JQ.state {w : World} (h : JQ w G b bx S R key X D Q) : Calls Tryd.prog 27 #[.pointer (some ⟨bx, 0, none⟩)] w fun e w' => e = .returned (.agg #[.int .i64 X.rev, .int .i64 X.floor, .int .i64 X.epoch, .int .i64 X.write, .int .i64 X.turn]) ∧ JQ w' G b bx S R key X D Q ∧ Low w.heap.size w w' := by
  obtain ⟨Fx, Fq, hs⟩ := id h
  refine (pState_any w hs.x).mono ?_
  rintro e w' ⟨rfl, l⟩
  exact ⟨rfl, h.low l, l⟩
theorem JQ.stateV {w : World} {v u : Int} (h : JQ w G b bx S R key X D Q) (hv : X.write = v) (hu : X.turn = u) : Calls Tryd.prog 27 #[.pointer (some ⟨bx, 0, none⟩)] w fun e w' => e = .returned (.agg #[.int .i64 X.rev, .int .i64 X.floor, .int .i64 X.epoch, .int .i64 v, .int .i64 u]) ∧ JQ w' G b bx S R key X D Q ∧ Low w.heap.size w w' := by
  have := h.state
  rw [hv, hu] at this
  exact this
end Go.Proofs.YtphapknfkbgapaaDoor
