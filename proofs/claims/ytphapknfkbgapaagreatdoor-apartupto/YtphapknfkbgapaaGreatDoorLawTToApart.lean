import Derived.Test.YtphapknfkbgapaaGreatDoorLawRToPY
import Derived.Test.YtphapknfkbgapaaGreatDoorStoresOne
namespace Go.Proofs.YtphapknfkbgapaaGreatDoor
open Go.RowKit

/-! Apart: two coffers by turns. -/

variable {R : Nat → PS → RS → Prop} {w w' : World} {G : Nat → Prop} {bw bx br cw cx cr n n1 n2 m1 m2 : Nat}
/-- What goes on elsewhere does not touch a coffer; new blocks are not its own. -/
theorem GoodR.other {F : Nat → Prop} (h : GoodR R w G bw bx br n) (k : Kept F w w') (hd : ∀ q, q < w.heap.size → ¬ G q → ¬ F q) (h0 : ¬ F 0) : GoodR R w' (fun q => G q ∨ (w.heap.size ≤ q ∧ q < w'.heap.size)) bw bx br n := by
  obtain ⟨X, Y, outs, ⟨Fx, Fr, Fw, H, j⟩, r, o⟩ := h
  have bX := j.x.below
  have bR := j.r.below
  have bW := j.o.below
  have bH := j.hb
  refine ⟨X, Y, outs, ⟨Fx, Fr, Fw, H, j.x.kept k (fun i hi => hd i (bX i hi) (j.gx i hi)), j.r.kept k (fun i hi => hd i (bR i hi) (j.gr i hi)), j.o.kept k (fun i hi => hd i (bW i hi) (j.gw i hi)), fun o ho => out_kept (j.ok o ho) k (fun i hi => hd i (bH i hi) (j.gh i hi)), fun g hg => Nat.lt_of_lt_of_le (j.hb g hg) k.size, fun q hq => ?_, fun q f g => ?_, fun q f g => ?_, fun q f g => ?_, j.xr, j.xw, j.xh, j.rw, j.rh, j.wh, Or.inl j.g0, fours_at j.f (k.block 0 (j.gb 0 j.g0) h0) k.os k.output k.size, fun q f g => ?_⟩, r, o⟩
  · rcases hq with e | e
    · exact Nat.lt_of_lt_of_le (j.gb q e) k.size
    · exact e.2
  · rcases g with e | e
    · exact j.gx q f e
    · have := bX q f; omega
  · rcases g with e | e
    · exact j.gr q f e
    · have := bR q f; omega
  · rcases g with e | e
    · exact j.gw q f e
    · have := bW q f; omega
  · rcases g with e | e
    · exact j.gh q f e
    · have := bH q f; omega
def Two (R : Nat → PS → RS → Prop) (w : World) (G : Nat → Prop) (bw bx br n1 cw cx cr n2 : Nat) : Prop := ∃ G1 G2, GoodR R w G1 bw bx br n1 ∧ GoodR R w G2 cw cx cr n2 ∧ (∀ q, G q → G1 q ∧ G2 q) ∧ (∀ q, q < w.heap.size → G1 q ∨ G2 q)
theorem Two.left {f : Nat} {A : Array Value} {v : Ending} (h : Two R w G bw bx br n1 cw cx cr n2) (hc : ∀ G, GoodR R w G bw bx br n1 → Calls Tryz.prog f A w fun e w' => e = v ∧ GoodR R w' G bw bx br m1 ∧ Kept (fun k => ¬ G k) w w') :
    Calls Tryz.prog f A w fun e w' => e = v ∧ Two R w' G bw bx br m1 cw cx cr n2 ∧ Kept (fun k => ¬ G k) w w' := by
  obtain ⟨G1, G2, g1, g2, hG, hcov⟩ := h
  refine (hc G1 g1).mono ?_
  rintro e w' ⟨he, g1', k⟩
  refine ⟨he, ⟨G1, _, g1', g2.other k (fun q hq hn f => f ((hcov q hq).resolve_right hn)) (fun f => f g1.g0), fun q hq => ⟨(hG q hq).1, Or.inl (hG q hq).2⟩, fun q hq => ?_⟩, k.mono (fun q _ f g => f (hG q g).1)⟩
  by_cases hl : q < w.heap.size
  · exact (hcov q hl).imp id Or.inl
  · exact Or.inr (Or.inr ⟨by omega, hq⟩)
theorem Two.right {f : Nat} {A : Array Value} {v : Ending} (h : Two R w G bw bx br n1 cw cx cr n2) (hc : ∀ G, GoodR R w G cw cx cr n2 → Calls Tryz.prog f A w fun e w' => e = v ∧ GoodR R w' G cw cx cr m2 ∧ Kept (fun k => ¬ G k) w w') :
    Calls Tryz.prog f A w fun e w' => e = v ∧ Two R w' G bw bx br n1 cw cx cr m2 ∧ Kept (fun k => ¬ G k) w w' := by
  obtain ⟨G1, G2, g1, g2, hG, hcov⟩ := h
  refine (hc G2 g2).mono ?_
  rintro e w' ⟨he, g2', k⟩
  refine ⟨he, ⟨_, G2, g1.other k (fun q hq hn f => f ((hcov q hq).resolve_left hn)) (fun f => f g2.g0), g2', fun q hq => ⟨Or.inl (hG q hq).1, (hG q hq).2⟩, fun q hq => ?_⟩, k.mono (fun q _ f g => f (hG q g).2)⟩
  by_cases hl : q < w.heap.size
  · exact (hcov q hl).imp Or.inl id
  · exact Or.inl (Or.inr ⟨by omega, hq⟩)
theorem Two.up1 (hS : Sides R) (h : Two R w G bw bx br n1 cw cx cr n2) : Two R w G bw bx br (n1 + 1) cw cx cr n2 := by
  obtain ⟨G1, G2, g1, g2, r⟩ := h
  exact ⟨G1, G2, GoodR.up hS g1, g2, r⟩
theorem Two.up2 (hS : Sides R) (h : Two R w G bw bx br n1 cw cx cr n2) : Two R w G bw bx br n1 cw cx cr (n2 + 1) := by
  obtain ⟨G1, G2, g1, g2, r⟩ := h
  exact ⟨G1, G2, g1, GoodR.up hS g2, r⟩
/-- Two new coffers. -/
theorem two_new {y1 y2 : World} {Fx Fr Fw Ex Er Ew : Nat → Prop} {m p : Nat} {room roomd : Int} {key keyd : ByteArray} (hR : R 0 (PS.new m room key) (RS.new m room key)) (hE : R 0 (PS.new p roomd keyd) (RS.new p roomd keyd))
    (l1 : Low w.heap.size w y1) (hx : XIn y1 Fx bx (PS.new m room key)) (hr : RIn y1 Fr br (RS.new m room key)) (hw : WIn y1 Fw bw bx br []) (h1 : ∀ k, Fx k → w.heap.size ≤ k ∧ ¬ Fr k ∧ ¬ Fw k) (h2 : ∀ k, Fr k → w.heap.size ≤ k ∧ ¬ Fw k) (h3 : ∀ k, Fw k → w.heap.size ≤ k)
    (l2 : Low y1.heap.size y1 y2) (ex : XIn y2 Ex cx (PS.new p roomd keyd)) (er : RIn y2 Er cr (RS.new p roomd keyd)) (ew : WIn y2 Ew cw cx cr []) (e1 : ∀ k, Ex k → y1.heap.size ≤ k ∧ ¬ Er k ∧ ¬ Ew k) (e2 : ∀ k, Er k → y1.heap.size ≤ k ∧ ¬ Ew k) (e3 : ∀ k, Ew k → y1.heap.size ≤ k)
    (hG : ∀ k, G k → k < w.heap.size) (g0 : G 0) (hf : Fours w) : Two R y2 G bw bx br 0 cw cx cr 0 := by
  have hs := l1.size
  have f1 : Fours y1 := fours_at hf (l1.block 0 (hG 0 g0)) l1.os l1.output l1.size
  have a1 : GoodR R y1 (fun k => k < w.heap.size) bw bx br 0 := goodR_new hR l1 hx hr hw h1 h2 h3 (fun _ h => h) (hG 0 g0) hf
  have a2 : GoodR R y2 (fun k => k < y1.heap.size) cw cx cr 0 := goodR_new hE l2 ex er ew e1 e2 e3 (fun _ h => h) (by have := hG 0 g0; omega) f1
  refine ⟨_, _, a1.other l2.kept (fun _ _ _ f => f) (fun f => f), a2, fun q hq => ⟨Or.inl (hG q hq), by have := hG q hq; omega⟩, fun q hq => ?_⟩
  by_cases hl : q < y1.heap.size
  · exact Or.inr hl
  · exact Or.inl (Or.inr ⟨by omega, hq⟩)
set_option maxRecDepth 100000 in
set_option maxHeartbeats 1000000 in
theorem apart_nn (w : World) (servers : Int) (room : Int) (key : ByteArray) (serversd : Int) (roomd : Int) (keyd : ByteArray) (v u : Value) (h1 : cfgOk servers room key = false) (h2 : cfgOk serversd roomd keyd = false) :
    Calls Tryz.prog 6 #[.agg #[.int .i64 servers, .int .i64 room, .string key], .agg #[.int .i64 serversd, .int .i64 roomd, .string keyd], v, u] w fun e w' => e = .returned (.bool true) ∧ Low w.heap.size w w' := by
  have H1 := hid h1
  have H2 := hid h2
  clear h1 h2
  go_enter Tryz.func6, Tryz.ntmps6
  go_upto_region 1 with fail
  go_name_world V hV
  have LV : Hid (Low w.heap.size w V) := by
    show Low _ _ _
    rw [← hV]; exact ((Low.refl _ w).alloc (Nat.le_refl _) _).alloc (by simp) _
  have BC : Blk V w.heap.size 23 (cfgL servers room key) := by rw [← hV]; exact (Blk.new w 23 (cfgL servers room key)).alloc _
  have BD : Blk V (w.heap.size + 1) 23 (cfgL serversd roomd keyd) := by
    rw [← hV]
    have q := Blk.new (w.alloc (.cells (cfgL servers room key).toArray 23)) 23 (cfgL serversd roomd keyd)
    rw [World.size_alloc] at q
    exact q
  have c0 : V.cell? ⟨w.heap.size, 0, none⟩ = some (.int .i64 servers) := BC.cell 0
  have c1 : V.cell? ⟨w.heap.size, 1, none⟩ = some (.int .i64 room) := BC.cell 1
  have c2 : V.cell? ⟨w.heap.size, 2, none⟩ = some (.string key) := BC.cell 2
  have HBD := hid BD
  clear hV BC BD
  go_upto_region 2 with (go_at_call 8; refine (made_no _ servers room key H1.out).mono ?_; rintro e y1 ⟨rfl, l⟩; have b5 := HBD.out.low l HBD.out.lt; have n0 : y1.cell? ⟨w.heap.size + 1, 0, none⟩ = some (.int .i64 serversd) := b5.cell 0; have n1 : y1.cell? ⟨w.heap.size + 1, 1, none⟩ = some (.int .i64 roomd) := b5.cell 1; have n2 : y1.cell? ⟨w.heap.size + 1, 2, none⟩ = some (.string keyd) := b5.cell 2; have L1 : Hid (Low w.heap.size w y1) := LV.out.trans (l.mono LV.out.size); clear l b5)
  go_wp2_with (go_at_call 8; refine (made_no _ serversd roomd keyd H2.out).mono ?_; rintro e y2 ⟨rfl, l⟩; have L2 : Hid (Low w.heap.size w y2) := L1.out.trans (l.mono L1.out.size); clear l)
  go_ret
  exact ⟨rfl, L2.out⟩
set_option maxRecDepth 100000 in
set_option maxHeartbeats 1000000 in
theorem apart_ny (w : World) (servers : Int) (room : Int) (key : ByteArray) (p : Nat) (roomd : Int) (keyd : ByteArray) (v u : Value) (h1 : cfgOk servers room key = false) (h2 : cfgOk (p : Int) roomd keyd = true) :
    Calls Tryz.prog 6 #[.agg #[.int .i64 servers, .int .i64 room, .string key], .agg #[.int .i64 (p : Int), .int .i64 roomd, .string keyd], v, u] w fun e w' => e = .returned (.bool true) ∧ Low w.heap.size w w' := by
  have H1 := hid h1
  have H2 := hid h2
  clear h1 h2
  go_enter Tryz.func6, Tryz.ntmps6
  go_upto_region 1 with fail
  go_name_world V hV
  have LV : Hid (Low w.heap.size w V) := by
    show Low _ _ _
    rw [← hV]; exact ((Low.refl _ w).alloc (Nat.le_refl _) _).alloc (by simp) _
  have BC : Blk V w.heap.size 23 (cfgL servers room key) := by rw [← hV]; exact (Blk.new w 23 (cfgL servers room key)).alloc _
  have BD : Blk V (w.heap.size + 1) 23 (cfgL (p : Int) roomd keyd) := by
    rw [← hV]
    have q := Blk.new (w.alloc (.cells (cfgL servers room key).toArray 23)) 23 (cfgL (p : Int) roomd keyd)
    rw [World.size_alloc] at q
    exact q
  have c0 : V.cell? ⟨w.heap.size, 0, none⟩ = some (.int .i64 servers) := BC.cell 0
  have c1 : V.cell? ⟨w.heap.size, 1, none⟩ = some (.int .i64 room) := BC.cell 1
  have c2 : V.cell? ⟨w.heap.size, 2, none⟩ = some (.string key) := BC.cell 2
  have HBD := hid BD
  clear hV BC BD
  go_upto_region 2 with (go_at_call 8; refine (made_no _ servers room key H1.out).mono ?_; rintro e y1 ⟨rfl, l⟩; have b5 := HBD.out.low l HBD.out.lt; have n0 : y1.cell? ⟨w.heap.size + 1, 0, none⟩ = some (.int .i64 (p : Int)) := b5.cell 0; have n1 : y1.cell? ⟨w.heap.size + 1, 1, none⟩ = some (.int .i64 roomd) := b5.cell 1; have n2 : y1.cell? ⟨w.heap.size + 1, 2, none⟩ = some (.string keyd) := b5.cell 2; have L1 : Hid (Low w.heap.size w y1) := LV.out.trans (l.mono LV.out.size); clear l b5)
  go_wp2_with (go_at_call 8; refine (made_yes _ p roomd keyd H2.out).mono ?_; rintro e y2 ⟨bw2, bx2, br2, Fx2, Fr2, Fw2, rfl, l, _, _, _, _, _, _⟩; have L2 : Hid (Low w.heap.size w y2) := L1.out.trans (l.mono L1.out.size); clear l)
  go_ret
  exact ⟨rfl, L2.out⟩
set_option maxRecDepth 100000 in
set_option maxHeartbeats 1000000 in
theorem apart_yn (w : World) (m : Nat) (room : Int) (key : ByteArray) (serversd : Int) (roomd : Int) (keyd : ByteArray) (v u : Value) (h1 : cfgOk (m : Int) room key = true) (h2 : cfgOk serversd roomd keyd = false) :
    Calls Tryz.prog 6 #[.agg #[.int .i64 (m : Int), .int .i64 room, .string key], .agg #[.int .i64 serversd, .int .i64 roomd, .string keyd], v, u] w fun e w' => e = .returned (.bool true) ∧ Low w.heap.size w w' := by
  have H1 := hid h1
  have H2 := hid h2
  clear h1 h2
  go_enter Tryz.func6, Tryz.ntmps6
  go_upto_region 1 with fail
  go_name_world V hV
  have LV : Hid (Low w.heap.size w V) := by
    show Low _ _ _
    rw [← hV]; exact ((Low.refl _ w).alloc (Nat.le_refl _) _).alloc (by simp) _
  have BC : Blk V w.heap.size 23 (cfgL (m : Int) room key) := by rw [← hV]; exact (Blk.new w 23 (cfgL (m : Int) room key)).alloc _
  have BD : Blk V (w.heap.size + 1) 23 (cfgL serversd roomd keyd) := by
    rw [← hV]
    have q := Blk.new (w.alloc (.cells (cfgL (m : Int) room key).toArray 23)) 23 (cfgL serversd roomd keyd)
    rw [World.size_alloc] at q
    exact q
  have c0 : V.cell? ⟨w.heap.size, 0, none⟩ = some (.int .i64 (m : Int)) := BC.cell 0
  have c1 : V.cell? ⟨w.heap.size, 1, none⟩ = some (.int .i64 room) := BC.cell 1
  have c2 : V.cell? ⟨w.heap.size, 2, none⟩ = some (.string key) := BC.cell 2
  have HBD := hid BD
  clear hV BC BD
  go_upto_region 2 with (go_at_call 8; refine (made_yes _ m room key H1.out).mono ?_; rintro e y1 ⟨bw1, bx1, br1, Fx1, Fr1, Fw1, rfl, l, _, _, _, _, _, _⟩; have b5 := HBD.out.low l HBD.out.lt; have n0 : y1.cell? ⟨w.heap.size + 1, 0, none⟩ = some (.int .i64 serversd) := b5.cell 0; have n1 : y1.cell? ⟨w.heap.size + 1, 1, none⟩ = some (.int .i64 roomd) := b5.cell 1; have n2 : y1.cell? ⟨w.heap.size + 1, 2, none⟩ = some (.string keyd) := b5.cell 2; have L1 : Hid (Low w.heap.size w y1) := LV.out.trans (l.mono LV.out.size); clear l b5)
  go_wp2_with (go_at_call 8; refine (made_no _ serversd roomd keyd H2.out).mono ?_; rintro e y2 ⟨rfl, l⟩; have L2 : Hid (Low w.heap.size w y2) := L1.out.trans (l.mono L1.out.size); clear l)
  go_ret
  exact ⟨rfl, L2.out⟩
set_option maxRecDepth 100000 in
set_option maxHeartbeats 4000000 in
theorem apart_yy (hS : Sides4 R) (hR : ∀ (m : Nat) (room : Int) (key : ByteArray), cfgOk (m : Int) room key = true → R 0 (PS.new m room key) (RS.new m room key)) (w : World) (m : Nat) (room : Int) (key : ByteArray) (p : Nat) (roomd : Int) (keyd : ByteArray) (a1 a2 : Option Addr) (cap1 cap2 : Nat) (acts1 acts2 : List Deed) (h1 : cfgOk (m : Int) room key = true) (h2 : cfgOk (p : Int) roomd keyd = true) (hs1 : Script w a1 acts1) (hs2 : Script w a2 acts2) (hn1 : acts1.length ≤ 1048576) (hn2 : acts2.length ≤ 1048576) (hf : Fours w) (h0 : 0 < w.heap.size) :
    Calls Tryz.prog 6 #[.agg #[.int .i64 (m : Int), .int .i64 room, .string key], .agg #[.int .i64 (p : Int), .int .i64 roomd, .string keyd], .slice a1 acts1.length cap1, .slice a2 acts2.length cap2] w fun e w' => e = .returned (.bool true) ∧ Low w.heap.size w w' := by
  have R1 := hid (hR m room key h1)
  have R2 := hid (hR p roomd keyd h2)
  have HSI := hid hS
  have HS1 := hid hs1
  have HS2 := hid hs2
  have HN1 := hid hn1
  have HN2 := hid hn2
  have HF := hid hf
  have H0 := hid h0
  clear hR hS hs1 hs2 hf h0 hn1 hn2
  have H1 := hid h1
  have H2 := hid h2
  clear h1 h2
  go_enter Tryz.func6, Tryz.ntmps6
  go_upto_region 1 with fail
  go_name_world V hV
  have LV : Hid (Low w.heap.size w V) := by
    show Low _ _ _
    rw [← hV]; exact ((Low.refl _ w).alloc (Nat.le_refl _) _).alloc (by simp) _
  have BC : Blk V w.heap.size 23 (cfgL (m : Int) room key) := by rw [← hV]; exact (Blk.new w 23 (cfgL (m : Int) room key)).alloc _
  have BD : Blk V (w.heap.size + 1) 23 (cfgL (p : Int) roomd keyd) := by
    rw [← hV]
    have q := Blk.new (w.alloc (.cells (cfgL (m : Int) room key).toArray 23)) 23 (cfgL (p : Int) roomd keyd)
    rw [World.size_alloc] at q
    exact q
  have c0 : V.cell? ⟨w.heap.size, 0, none⟩ = some (.int .i64 (m : Int)) := BC.cell 0
  have c1 : V.cell? ⟨w.heap.size, 1, none⟩ = some (.int .i64 room) := BC.cell 1
  have c2 : V.cell? ⟨w.heap.size, 2, none⟩ = some (.string key) := BC.cell 2
  have HBD := hid BD
  clear hV BC BD
  go_upto_region 2 with (go_at_call 8; refine (made_yes _ m room key H1.out).mono ?_; rintro e y1 ⟨bw1, bx1, br1, Fx1, Fr1, Fw1, rfl, l, x1, r1, o1, d1a, d1b, d1c⟩; have b5 := HBD.out.low l HBD.out.lt; have n0 : y1.cell? ⟨w.heap.size + 1, 0, none⟩ = some (.int .i64 (p : Int)) := b5.cell 0; have n1 : y1.cell? ⟨w.heap.size + 1, 1, none⟩ = some (.int .i64 roomd) := b5.cell 1; have n2 : y1.cell? ⟨w.heap.size + 1, 2, none⟩ = some (.string keyd) := b5.cell 2; have L1 : Hid (Low w.heap.size w y1) := LV.out.trans (l.mono LV.out.size); have LL1 := hid l; have XX1 := hid x1; have RR1 := hid r1; have OO1 := hid o1; have DA1 := hid d1a; have DB1 := hid d1b; have DC1 := hid d1c; clear l b5 x1 r1 o1 d1a d1b d1c)
  go_upto_region 5 with (go_at_call 8; refine (made_yes _ p roomd keyd H2.out).mono ?_; rintro e y2 ⟨bw2, bx2, br2, Fx2, Fr2, Fw2, rfl, l, x2, r2, o2, d2a, d2b, d2c⟩; have L2 : Hid (Low w.heap.size w y2) := L1.out.trans (l.mono L1.out.size); have LL2 := hid l; have XX2 := hid x2; have RR2 := hid r2; have OO2 := hid o2; have DA2 := hid d2a; have DB2 := hid d2b; have DC2 := hid d2c; clear l x2 r2 o2 d2a d2b d2c)
  have TA : Hid (Two R y2 (fun k => k < w.heap.size) bw1 bx1 br1 0 bw2 bx2 br2 0) := two_new R1.out R2.out LL1.out XX1.out RR1.out OO1.out DA1.out DB1.out DC1.out LL2.out XX2.out RR2.out OO2.out DA2.out DB2.out DC2.out (fun k hk => Nat.lt_of_lt_of_le hk LV.out.size) H0.out (fours_at HF.out (LV.out.block 0 H0.out) LV.out.os LV.out.output LV.out.size)
  clear LL1 LL2 XX1 XX2 RR1 RR2 OO1 OO2 DA1 DA2 DB1 DB2 DC1 DC2 n0 n1 n2 c0 c1 c2
  go_wp2_with fail
  go_loopg [10, 13] (acts1.length + acts2.length) (fun left ov iv wr => ∃ i : Nat, left = acts1.length + acts2.length - i ∧ i ≤ acts1.length + acts2.length ∧ i ≤ 1048576 ∧ ov = .bool true ∧ iv = .int .i64 (i : Int) ∧ Hid (Two R wr (fun k => k < w.heap.size) bw1 bx1 br1 i bw2 bx2 br2 i) ∧ Hid (Kept (fun k => ¬ k < w.heap.size) w wr))
  case atStart => exact ⟨0, rfl, Nat.zero_le _, Nat.zero_le _, rfl, rfl, TA.out, L2.out.keptF _⟩
  case round =>
    obtain ⟨i, hgk, hi, hi2, rfl, rfl, TW, HK⟩ := hrel
    have HGK := hid hgk
    clear hgk
    by_cases h1 : i < acts1.length
    · have q1 : decide ((i : Int) < (acts1.length : Int)) = true := by simp; omega
      obtain ⟨d1, hd1⟩ : ∃ d, acts1[i]? = some d := ⟨_, List.getElem?_eq_getElem h1⟩
      obtain ⟨b1, o1, ha1, hb1, hc1⟩ := HS1.out.1 (by omega)
      subst ha1
      have Sd1 := hid (HS1.out.2 d1 (List.mem_of_getElem? hd1))
      have HB1 := hid hb1
      have Z1 : Hid (w.rangeAt b1 (o1 + i * 7) (actL d1.k d1.s d1.m d1.q d1.p d1.t d1.on)) := hc1 i d1 hd1
      have RV1 : Hid (wr.rangeAt b1 (o1 + i * 7) (actL d1.k d1.s d1.m d1.q d1.p d1.t d1.on)) := range_kept HK.out HB1.out Z1.out
      have il1 : (i : Int) < (acts1.length : Int) := by omega
      clear hc1 hd1 hb1
      by_cases h2 : i < acts2.length
      · have q2 : decide ((i : Int) < (acts2.length : Int)) = true := by simp; omega
        obtain ⟨d2, hd2⟩ : ∃ d, acts2[i]? = some d := ⟨_, List.getElem?_eq_getElem h2⟩
        obtain ⟨b2, o2, ha2, hb2, hc2⟩ := HS2.out.1 (by omega)
        subst ha2
        have Sd2 := hid (HS2.out.2 d2 (List.mem_of_getElem? hd2))
        have HB2 := hid hb2
        have Z2 : Hid (w.rangeAt b2 (o2 + i * 7) (actL d2.k d2.s d2.m d2.q d2.p d2.t d2.on)) := hc2 i d2 hd2
        have RV2 : Hid (wr.rangeAt b2 (o2 + i * 7) (actL d2.k d2.s d2.m d2.q d2.p d2.t d2.on)) := range_kept HK.out HB2.out Z2.out
        have il2 : (i : Int) < (acts2.length : Int) := by omega
        clear hc2 hd2 hb2
        have hle : i + 1 ≤ 1048576 := by have := HN1.out; omega
        go_upto_region 10 with (first | ((with_reducible refine ld32 _ b1 (o1 + i * 7) d1.k d1.s d1.m d1.q d1.p d1.t d1.on ?_ RV1.out ?_); rfl) | (go_at_call 9; refine (Two.left TW.out (fun G g => ract_all HSI.out _ d1.k d1.s d1.m d1.q d1.p d1.t d1.on g (by omega) Sd1.out.1 Sd1.out.2)).mono ?_; rintro e z1 ⟨rfl, t, k⟩; have T1 : Hid (Two R z1 (fun k => k < w.heap.size) bw1 bx1 br1 (i + 1) bw2 bx2 br2 i) := t; have KT1 : Hid (Kept (fun k => ¬ k < w.heap.size) w z1) := kept_and HK.out k; clear t k))
        have RZ2 : Hid (z1.rangeAt b2 (o2 + i * 7) (actL d2.k d2.s d2.m d2.q d2.p d2.t d2.on)) := range_kept KT1.out HB2.out Z2.out
        go_upto_region 12 with (first | ((with_reducible refine ld32 _ b2 (o2 + i * 7) d2.k d2.s d2.m d2.q d2.p d2.t d2.on ?_ RZ2.out ?_); rfl) | (go_at_call 9; refine (Two.right T1.out (fun G g => ract_all HSI.out _ d2.k d2.s d2.m d2.q d2.p d2.t d2.on g (by omega) Sd2.out.1 Sd2.out.2)).mono ?_; rintro e z2 ⟨rfl, t, k⟩; have T2 : Hid (Two R z2 (fun k => k < w.heap.size) bw1 bx1 br1 (i + 1) bw2 bx2 br2 (i + 1)) := t; have KT2 : Hid (Kept (fun k => ¬ k < w.heap.size) w z2) := kept_and KT1.out k; clear t k))
        go_upto_region 13 with (go_at_call 10; refine (Two.left T2.out (fun G g => rlooks _ g (by omega))).mono ?_; rintro e z3 ⟨rfl, t, k⟩; have T3 := hid t; have KT3 : Hid (Kept (fun k => ¬ k < w.heap.size) w z3) := kept_and KT2.out k; clear t k)
        go_wp2_with (go_at_call 10; refine (Two.right T3.out (fun G g => rlooks _ g (by omega))).mono ?_; rintro e z4 ⟨rfl, t, k⟩; have T4 := hid t; have KT4 : Hid (Kept (fun k => ¬ k < w.heap.size) w z4) := kept_and KT3.out k; clear t k)
        go_roundg (acts1.length + acts2.length - (i + 1))
        case rel => exact ⟨i + 1, rfl, by omega, by omega, rfl, by simp, T4.out, KT4.out⟩
        case measure => have := HGK.out; omega
      · have q2 : decide ((i : Int) < (acts2.length : Int)) = false := by simp; omega
        have hle : i + 1 ≤ 1048576 := by have := HN1.out; omega
        go_upto_region 12 with (first | ((with_reducible refine ld32 _ b1 (o1 + i * 7) d1.k d1.s d1.m d1.q d1.p d1.t d1.on ?_ RV1.out ?_); rfl) | (go_at_call 9; refine (Two.left TW.out (fun G g => ract_all HSI.out _ d1.k d1.s d1.m d1.q d1.p d1.t d1.on g (by omega) Sd1.out.1 Sd1.out.2)).mono ?_; rintro e z1 ⟨rfl, t, k⟩; have T1 : Hid (Two R z1 (fun k => k < w.heap.size) bw1 bx1 br1 (i + 1) bw2 bx2 br2 i) := t; have KT1 : Hid (Kept (fun k => ¬ k < w.heap.size) w z1) := kept_and HK.out k; clear t k))
        have T2 : Hid (Two R z1 (fun k => k < w.heap.size) bw1 bx1 br1 (i + 1) bw2 bx2 br2 (i + 1)) := T1.out.up2 HSI.out.sides
        go_upto_region 13 with (go_at_call 10; refine (Two.left T2.out (fun G g => rlooks _ g (by omega))).mono ?_; rintro e z3 ⟨rfl, t, k⟩; have T3 := hid t; have KT3 : Hid (Kept (fun k => ¬ k < w.heap.size) w z3) := kept_and KT1.out k; clear t k)
        go_wp2_with (go_at_call 10; refine (Two.right T3.out (fun G g => rlooks _ g (by omega))).mono ?_; rintro e z4 ⟨rfl, t, k⟩; have T4 := hid t; have KT4 : Hid (Kept (fun k => ¬ k < w.heap.size) w z4) := kept_and KT3.out k; clear t k)
        go_roundg (acts1.length + acts2.length - (i + 1))
        case rel => exact ⟨i + 1, rfl, by omega, by omega, rfl, by simp, T4.out, KT4.out⟩
        case measure => have := HGK.out; omega
    · have q1 : decide ((i : Int) < (acts1.length : Int)) = false := by simp; omega
      by_cases h2 : i < acts2.length
      · have q2 : decide ((i : Int) < (acts2.length : Int)) = true := by simp; omega
        obtain ⟨d2, hd2⟩ : ∃ d, acts2[i]? = some d := ⟨_, List.getElem?_eq_getElem h2⟩
        obtain ⟨b2, o2, ha2, hb2, hc2⟩ := HS2.out.1 (by omega)
        subst ha2
        have Sd2 := hid (HS2.out.2 d2 (List.mem_of_getElem? hd2))
        have HB2 := hid hb2
        have Z2 : Hid (w.rangeAt b2 (o2 + i * 7) (actL d2.k d2.s d2.m d2.q d2.p d2.t d2.on)) := hc2 i d2 hd2
        have RV2 : Hid (wr.rangeAt b2 (o2 + i * 7) (actL d2.k d2.s d2.m d2.q d2.p d2.t d2.on)) := range_kept HK.out HB2.out Z2.out
        have il2 : (i : Int) < (acts2.length : Int) := by omega
        clear hc2 hd2 hb2
        have hle : i + 1 ≤ 1048576 := by have := HN2.out; omega
        have T1 : Hid (Two R wr (fun k => k < w.heap.size) bw1 bx1 br1 (i + 1) bw2 bx2 br2 i) := TW.out.up1 HSI.out.sides
        go_upto_region 12 with (first | ((with_reducible refine ld32 _ b2 (o2 + i * 7) d2.k d2.s d2.m d2.q d2.p d2.t d2.on ?_ RV2.out ?_); rfl) | (go_at_call 9; refine (Two.right T1.out (fun G g => ract_all HSI.out _ d2.k d2.s d2.m d2.q d2.p d2.t d2.on g (by omega) Sd2.out.1 Sd2.out.2)).mono ?_; rintro e z2 ⟨rfl, t, k⟩; have T2 : Hid (Two R z2 (fun k => k < w.heap.size) bw1 bx1 br1 (i + 1) bw2 bx2 br2 (i + 1)) := t; have KT2 : Hid (Kept (fun k => ¬ k < w.heap.size) w z2) := kept_and HK.out k; clear t k))
        go_upto_region 13 with (go_at_call 10; refine (Two.left T2.out (fun G g => rlooks _ g (by omega))).mono ?_; rintro e z3 ⟨rfl, t, k⟩; have T3 := hid t; have KT3 : Hid (Kept (fun k => ¬ k < w.heap.size) w z3) := kept_and KT2.out k; clear t k)
        go_wp2_with (go_at_call 10; refine (Two.right T3.out (fun G g => rlooks _ g (by omega))).mono ?_; rintro e z4 ⟨rfl, t, k⟩; have T4 := hid t; have KT4 : Hid (Kept (fun k => ¬ k < w.heap.size) w z4) := kept_and KT3.out k; clear t k)
        go_roundg (acts1.length + acts2.length - (i + 1))
        case rel => exact ⟨i + 1, rfl, by omega, by omega, rfl, by simp, T4.out, KT4.out⟩
        case measure => have := HGK.out; omega
      · have q2 : decide ((i : Int) < (acts2.length : Int)) = false := by simp; omega
        go_upto_region 17 with (go_at_call 11; refine (Two.left TW.out (fun G g => rlast_any HSI.out.sides _ g (by omega))).mono ?_; rintro e z1 ⟨rfl, t, k⟩; have T1 := hid t; have KT1 : Hid (Kept (fun k => ¬ k < w.heap.size) w z1) := kept_and HK.out k; clear t k)
        go_wp2_with (go_at_call 11; refine (Two.right T1.out (fun G g => rlast_any HSI.out.sides _ g (by omega))).mono ?_; rintro e z2 ⟨rfl, t, k⟩; have KT2 : Hid (Kept (fun k => ¬ k < w.heap.size) w z2) := kept_and KT1.out k; clear t k)
        go_ret
        exact ⟨rfl, KT2.out.os, KT2.out.output, KT2.out.size, fun k hk => KT2.out.block k hk (fun f => f hk)⟩
theorem apart_walk (hS : Sides4 R) (hR : ∀ (m : Nat) (room : Int) (key : ByteArray), cfgOk (m : Int) room key = true → R 0 (PS.new m room key) (RS.new m room key)) (w : World) (servers : Int) (room : Int) (key : ByteArray) (serversd : Int) (roomd : Int) (keyd : ByteArray) (a1 a2 : Option Addr) (cap1 cap2 : Nat) (acts1 acts2 : List Deed) (hs1 : Script w a1 acts1) (hs2 : Script w a2 acts2) (hn1 : acts1.length ≤ 1048576) (hn2 : acts2.length ≤ 1048576) (hf : Fours w) (h1 : 1 ≤ w.heap.size) :
    Calls Tryz.prog 6 #[.agg #[.int .i64 servers, .int .i64 room, .string key], .agg #[.int .i64 serversd, .int .i64 roomd, .string keyd], .slice a1 acts1.length cap1, .slice a2 acts2.length cap2] w fun e w' => e = .returned (.bool true) ∧ Low w.heap.size w w' := by
  have nat : ∀ (s r : Int) (k : ByteArray), cfgOk s r k = true → ∃ m : Nat, s = (m : Int) := fun s r k h => ⟨s.toNat, by
    simp only [cfgOk, Bool.and_eq_true, decide_eq_true_eq] at h
    omega⟩
  cases hc : cfgOk servers room key
  · cases hd : cfgOk serversd roomd keyd
    · exact apart_nn w servers room key serversd roomd keyd _ _ hc hd
    · obtain ⟨p, rfl⟩ := nat _ _ _ hd
      exact apart_ny w servers room key p roomd keyd _ _ hc hd
  · obtain ⟨m, rfl⟩ := nat _ _ _ hc
    cases hd : cfgOk serversd roomd keyd
    · exact apart_yn w m room key serversd roomd keyd _ _ hc hd
    · obtain ⟨p, rfl⟩ := nat _ _ _ hd
      exact apart_yy hS hR w m room key p roomd keyd a1 a2 cap1 cap2 acts1 acts2 hc hd hs1 hs2 hn1 hn2 hf (by omega)
end Go.Proofs.YtphapknfkbgapaaGreatDoor
namespace Go.Proofs.YtphapknfkbgapaaGreatDoor
open Go.ChangeShapes Go.WideShapes Go.ChangeAt Go.RowKit Go.Deep

/-! Apart, as far as the two sides are alike. -/

set_option maxRecDepth 100000 in
theorem apart_contract {R : Nat → PS → RS → Prop} (hS : Sides4 R) (hR : ∀ (m : Nat) (room : Int) (key : ByteArray), cfgOk (m : Int) room key = true → R 0 (PS.new m room key) (RS.new m room key)) (H : Type) (enc : TypeId × Value → H) (W : World) (base : Nat) (args : Array Value) (ds gs : List (DataW H)) (before : List MemPlace)
    (hval : ∀ (j : Nat) t v, Tryz.f6.params[j]? = some t → args[j]? = some v → Value.okWide Tryz.prog W .any base t v)
    (hW : DataW.Whole enc Tryz.prog Tryz.f6.params.toList Rows.apartSpec.vars false W args.toList ds gs before) (hk : Rows.uptoSmall H (ds ++ gs) = true) (hL : laidMetH Tryz.prog [("coffer/seal.fours", Rows.laid_coffer_seal_fours)] W) :
    Calls Tryz.prog 6 args W fun e W' => ∃ v, e = .returned v ∧ Rows.apartSpec.post enc Tryz.prog Tryz.f6 false true false false W args v W' := by
  have hW' := hW
  obtain ⟨p, q, hA0, hV, rfl, hfz, hnd⟩ := hW
  have hA : DataW.TrodAll enc Tryz.prog W 0 (fun _ => true) true Tryz.f6.params.toList args.toList ds p := hA0
  have hlt := hA.lt
  rw [Tryz.params6] at hA hval
  obtain ⟨v0, vs0, d0, ds0, p0, q0, hargs, rfl, rfl, h0, r0⟩ := trodAll_cons hA
  obtain ⟨v1, vs1, d1, ds1, p1, q1, rfl, rfl, rfl, h1, r1⟩ := trodAll_cons r0
  obtain ⟨v2, vs2, d2, ds2, p2, q2, rfl, rfl, rfl, h2, r2⟩ := trodAll_cons r1
  obtain ⟨v3, vs3, d3, ds3, p3, q3, rfl, rfl, rfl, h3, r3⟩ := trodAll_cons r2
  obtain ⟨rfl, rfl, rfl⟩ := trodAll_nil r3
  obtain rfl : args = #[v0, v1, v2, v3] := by cases args; simp_all
  obtain ⟨rfl, rfl⟩ := trodVars_none hV
  obtain ⟨c0, c1, c2, y0, y1, y2, n, rfl, _, _, t0, t1, t2⟩ := Joins.open_agg3 Tryz.underlying23 (by kernel_rfl) (by kernel_rfl) (hval 0 23 v0 rfl rfl) h0
  obtain ⟨servers, e0, _⟩ := DataW.trod_int Tryz.underlying3 t0
  obtain ⟨room, e1, _⟩ := DataW.trod_int Tryz.underlying3 t1
  obtain ⟨key, e2, _⟩ := DataW.trod_string Tryz.underlying9 t2
  cases e0
  cases e1
  cases e2
  obtain ⟨f0, f1, f2, z0, z1, z2, nn, rfl, _, _, u0, u1, u2⟩ := Joins.open_agg3 Tryz.underlying23 (by kernel_rfl) (by kernel_rfl) (hval 1 23 v1 rfl rfl) h1
  obtain ⟨serversd, g0, _⟩ := DataW.trod_int Tryz.underlying3 u0
  obtain ⟨roomd, g1, _⟩ := DataW.trod_int Tryz.underlying3 u1
  obtain ⟨keyd, g2, _⟩ := DataW.trod_string Tryz.underlying9 u2
  cases g0
  cases g1
  cases g2
  obtain ⟨a1, cap1, acts1, rfl, hs1, hn1⟩ := open_script (hval 2 24 v2 rfl rfl) h2
  obtain ⟨a2, cap2, acts2, rfl, hs2, hn2⟩ := open_script (hval 3 24 v3 rfl rfl) h3
  clear hA0
  simp only [List.append_nil] at hW' hlt
  have hb := of_decide_eq_true hk
  simp only [List.cons_append, List.nil_append, Rows.uptoBulkAll] at hb
  obtain ⟨hF, hone⟩ := of_laid hL
  refine (apart_walk hS hR W servers room key serversd roomd keyd a1 a2 cap1 cap2 acts1 acts2 hs1 hs2 (by omega) (by omega) hF hone).mono fun e W' ⟨he, hg⟩ => ?_
  subst he
  have same : ∀ x : MemPlace, x.block < W.heap.size → W.sameAt W' x := fun x hx => by
    cases x with
    | cell b o => exact World.cell?_of_block (w := W) (hg.block b hx)
    | map b => exact hg.block b hx
  have hl : laidOutB Tryz.prog = true := by kernel_rfl
  have in0 : ∀ x ∈ p0, x.block < W.heap.size := fun x hx => hlt x (List.mem_append_left _ hx)
  have in1 : ∀ x ∈ p1, x.block < W.heap.size := fun x hx => hlt x (List.mem_append_right _ (List.mem_append_left _ hx))
  have in2 : ∀ x ∈ p2, x.block < W.heap.size := fun x hx => hlt x (List.mem_append_right _ (List.mem_append_right _ (List.mem_append_left _ hx)))
  have in3 : ∀ x ∈ p3, x.block < W.heap.size := fun x hx => hlt x (List.mem_append_right _ (List.mem_append_right _ (List.mem_append_right _ hx)))
  have s0 : DataW.Trod enc Tryz.prog W' 0 (fun b => decide (b < W.heap.size)) true 23 _ d0 p0 := WideElems.Trod_stays hl (by kernel_rfl) (of_decide_eq_true (by kernel_rfl)) h0 (fun x hx => same x (in0 x hx)) (fun x hx => by simpa using in0 x hx)
  have s1 : DataW.Trod enc Tryz.prog W' 0 (fun b => decide (b < W.heap.size)) true 23 _ d1 p1 := WideElems.Trod_stays hl (by kernel_rfl) (of_decide_eq_true (by kernel_rfl)) h1 (fun x hx => same x (in1 x hx)) (fun x hx => by simpa using in1 x hx)
  have s2 : DataW.Trod enc Tryz.prog W' 0 (fun b => decide (b < W.heap.size)) true 24 _ d2 p2 := WideElems.Trod_stays hl (by kernel_rfl) (of_decide_eq_true (by kernel_rfl)) h2 (fun x hx => same x (in2 x hx)) (fun x hx => by simpa using in2 x hx)
  have s3 : DataW.Trod enc Tryz.prog W' 0 (fun b => decide (b < W.heap.size)) true 24 _ d3 p3 := WideElems.Trod_stays hl (by kernel_rfl) (of_decide_eq_true (by kernel_rfl)) h3 (fun x hx => same x (in3 x hx)) (fun x hx => by simpa using in3 x hx)
  exact ⟨_, rfl, _, _, _, [], _, [], hW', (trodAll_cons_mk (shut_bool Tryz.underlying4 _) trodAll_mk0), (trodAll_cons_mk s0 (trodAll_cons_mk s1 (trodAll_cons_mk s2 (trodAll_cons_mk s3 trodAll_mk0)))), rfl, hg.frame _, fun h => by cases h⟩

theorem apart_reads (os : Os) {H : Type} (enc : TypeId × Value → H) : ∃ places, DataW.whole enc Tryz.prog ((World.doorLaid Tryz.prog 400 os).forCall (fun _ _ => 0) ⟨#[], #[.agg #[.int .i64 0, .int .i64 0, .string ByteArray.empty], .agg #[.int .i64 0, .int .i64 0, .string ByteArray.empty], .slice none 0 0, .slice none 0 0], []⟩).memory Tryz.f6.params.toList Rows.apartSpec.vars false #[Value.agg #[.int .i64 0, .int .i64 0, .string ByteArray.empty], .agg #[.int .i64 0, .int .i64 0, .string ByteArray.empty], .slice none 0 0, .slice none 0 0].toList 8 = some ([.agg [.lit (.int .i64 0), .lit (.int .i64 0), .lit (.string [])], .agg [.lit (.int .i64 0), .lit (.int .i64 0), .lit (.string [])], .nil, .nil], [], places) :=
  ⟨[], by kernel_rfl⟩
set_option maxRecDepth 100000 in
theorem apart_lifted {R : Nat → PS → RS → Prop} (hS : Sides4 R) (hR : ∀ (m : Nat) (room : Int) (key : ByteArray), cfgOk (m : Int) room key = true → R 0 (PS.new m room key) (RS.new m room key)) (os : Os) (started : os.Started) (H : Type) (enc : TypeId × Value → H) (F : Stop.Interp) :
    ReturnsInHanded {} Tryz.checked os 6 .any ((Rows.OpenSpec.upto Rows.apartSpec).preRow enc Tryz.prog Tryz.f6 Rows.apartUptoRow.domain false Rows.apartUptoRow.laid) (((Rows.OpenSpec.upto Rows.apartSpec).at F).post enc Tryz.prog Tryz.f6 false true false false) := by
  obtain ⟨places, hx⟩ := apart_reads os enc
  refine returnsInHanded_of_row (C := Tryz.checked) (s := Rows.OpenSpec.upto Rows.apartSpec) own started (by kernel_rfl) Tryz.func6
    (witness_row_at (enc := enc) (C := Tryz.checked) false (World.doorLaid Tryz.prog 400 os) #[.agg #[.int .i64 0, .int .i64 0, .string ByteArray.empty], .agg #[.int .i64 0, .int .i64 0, .string ByteArray.empty], .slice none 0 0, .slice none 0 0] rfl (by kernel_rfl) (by kernel_rfl) (by kernel_rfl)
      (OpenSpec.preRow_of_cond 8 hx (by kernel_rfl) (fun k hk => by cases hk; kernel_rfl) (by kernel_rfl) (door_met os _))) ?_
  intro W base args ds gs before hval hW _ hcond _ hL _ _
  exact apart_contract hS hR H enc W base args ds gs before hval hW (hcond _ rfl) hL
theorem apart_row {R : Nat → PS → RS → Prop} (hS : Sides4 R) (hR : ∀ (m : Nat) (room : Int) (key : ByteArray), cfgOk (m : Int) room key = true → R 0 (PS.new m room key) (RS.new m room key)) : Rows.ApartUptoSaid :=
  OpenClaim.holds_of_cond 6 Tryz.f6 rfl rfl rfl rfl rfl rfl rfl ⟨rfl, rfl, rfl, rfl, rfl⟩ rfl rfl rfl rfl rfl (by kernel_rfl) Tryz.func6 (by kernel_rfl)
    (of_decide_eq_true (by kernel_rfl)) (by unfold Func.isWrapper; first | (rw [if_pos (by decide +kernel)]; kernel_rfl) | (rw [if_neg (by decide +kernel)]; exact ⟨rfl, rfl⟩))
    (fun os started H enc _ F => by rw [OpenClaim.pre_eq_preRow]; exact apart_lifted hS hR os started H enc F)
theorem apart_plain (f : FuncId) (fn : Func) (hf : Tryz.pinned.checked.prog.funcNamed "coffer/cofferlaw.Apart" = some f) (hfn : Tryz.pinned.checked.prog.funcs[f]? = some fn) :
    false = Tryz.pinned.checked.prog.looks [] ∧ ∀ (j : Nat) t, fn.params[j]? = some t → Tryz.pinned.checked.prog.wantsStandIn t = false := by
  obtain rfl : f = 6 := Option.some.inj ((show Tryz.prog.funcNamed "coffer/cofferlaw.Apart" = some 6 by kernel_rfl).symm.trans hf) |>.symm
  obtain rfl : fn = Tryz.f6 := (Option.some.inj (Tryz.func6.symm.trans hfn)).symm
  refine ⟨by kernel_rfl, fun j t ht => ?_⟩
  rw [Tryz.params6] at ht
  have hm : t ∈ [23, 23, 24, 24] := by simpa using Array.mem_of_getElem? ht
  have hall : ([23, 23, 24, 24].all fun u => !Tryz.prog.wantsStandIn u) = true := by kernel_rfl
  exact (show Tryz.prog.wantsStandIn t = false by simpa using List.all_eq_true.1 hall t hm)
theorem apart_card {R : Nat → PS → RS → Prop} (hS : Sides4 R) (hR : ∀ (m : Nat) (room : Int) (key : ByteArray), cfgOk (m : Int) room key = true → R 0 (PS.new m room key) (RS.new m room key)) : Rows.ApartUptoCardSaid :=
  Claim7.holds_tied_plain_at .later [] _ _ _ _ (apart_row hS hR) (fun _ h => by cases h) (by kernel_rfl) (fun _ h => by cases h) apartUpto_row_tie rfl ⟨rfl, rfl⟩ (by kernel_rfl) rfl apart_plain (by kernel_rfl)
end Go.Proofs.YtphapknfkbgapaaGreatDoor
