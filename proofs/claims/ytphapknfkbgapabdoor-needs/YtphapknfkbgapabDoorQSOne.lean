import Derived.Test.YtphapknfkbgapabDoorQHOne
import Derived.Test.YtphapknfkbgapabDoorQIToQN
import Derived.Test.YtphapknfkbgapabDoorQOToQQ
import Derived.Test.YtphapknfkbgapabDoorQROne
namespace Go.Proofs.YtphapknfkbgapabDoor
open Go.RowKit

variable {N : ByteArray → Prop} {G : Nat → Prop} {b bx S n : Nat} {R : Int} {key : ByteArray} {X : PS} {D : PD} {Q : Pods}

/-! turn, whole; act. -/
set_option maxRecDepth 100000 in
set_option maxHeartbeats 2000000 in
theorem turnMigrate (w : World) (a : AAct) (ha : AOk a) (h : JQ w G b bx S R key X D Q) (k : Kn IsName n X D S R) (hn : n ≤ 1970000000000) (hk : a.kind = 10) :
    Calls Tryd.prog 20 #[.pointer (some ⟨b, 0, none⟩), .agg #[.int .i64 a.kind, .int .i64 a.s, .int .i64 a.n, .int .i64 a.k, .string a.path, .string a.text, .bool a.on]] w fun e w' => e = .returned (.bool true) ∧ TurnPost IsName n w w' G b bx S R key D Q := by
  have HJ := hid h
  have HK := hid k
  have HA := hid ha
  rw [hk]
  clear h k hk ha
  go_enter Tryd.func20, Tryd.ntmps20
  go_upto_region 17 with fail
  go_name_world W hW
  have LW : Hid (Low w.heap.size w W) := by
    show Low _ _ _
    rw [← hW]; exact (Low.refl _ w).alloc (Nat.le_refl _) _
  have BA : Hid (Blk W w.heap.size 32 (AAct.mk 10 a.s a.n a.k a.path a.text a.on).cells) := by
    show Blk W _ _ _
    rw [← hW]; exact Blk.new w 32 (AAct.mk 10 a.s a.n a.k a.path a.text a.on).cells
  have JW : Hid (JQ W G b bx S R key X D Q) := HJ.out.low LW.out
  have p2 : W.cell? ⟨w.heap.size, 2, none⟩ = some (.int .i64 a.n) := BA.out.cell 2
  have lA := BA.out.lt
  clear hW
  go_wp2_with (first | (go_at_call 17; refine (pick_some a.n 21 _ (by omega) (by omega) HA.out.n.1 HA.out.n.2).mono ?_; rintro e y1 ⟨r, rfl, hr, hy⟩; obtain rfl := hy.symm; have HRR := hid hr; clear hr) | (go_at_call 43; refine (migrateQ _ r (by have := HRR.out; omega) JW.out HK.out hn).mono ?_; rintro e y2 ⟨rfl, X', D', j2, p2', k2, _⟩; have J2 := hid j2; have P2 := hid p2'; have K2 := hid k2; clear j2 p2' k2))
  go_ret
  exact ⟨rfl, X', D', J2.out, P2.out, LW.out.kept.trans K2.out (fun _ f => f.elim) (fun _ _ f => f)⟩
theorem turnQ (w : World) (a : AAct) (ha : AOk a) (h : JQ w G b bx S R key X D Q) (k : Kn IsName n X D S R) (hn : n ≤ 1970000000000) (hk : 7 ≤ a.kind ∧ a.kind ≤ 12) :
    Calls Tryd.prog 20 #[.pointer (some ⟨b, 0, none⟩), .agg #[.int .i64 a.kind, .int .i64 a.s, .int .i64 a.n, .int .i64 a.k, .string a.path, .string a.text, .bool a.on]] w fun e w' => e = .returned (.bool true) ∧ TurnPost IsName n w w' G b bx S R key D Q := by
  have hd : D.deeds.length ≤ 2000000000000 := by have := k.floor.2.2; omega
  have : a.kind = 7 ∨ a.kind = 8 ∨ a.kind = 9 ∨ a.kind = 10 ∨ a.kind = 11 ∨ a.kind = 12 := by omega
  rcases this with e | e | e | e | e | e
  · exact turnCompact w a ha h k hd e
  · exact turnStage w a h k e
  · exact turnPromote w a h k e
  · exact turnMigrate w a ha h k hn e
  · exact turnGate w a h k e
  · exact turnDestroy w a ha h k e
theorem szA (a : AAct) : (Tryd.prog.info? 32).map (·.size) = some a.cells.length := show _ = some 7 by kernel_rfl
theorem ldA {ops : Array Oper} {rest : List Oper} {d : Option Tmp} {t0 : TypeId} {pos : String} {after : Array Edge} {f : Act} {w : World} {Q : Exit → Act → World → Prop} (x : Operand) (b o : Nat) (a : AAct)
    (hx : f.eval x = .pointer (some ⟨b, o, none⟩)) (hc : w.rangeAt b o a.cells) (h : wpList Tryd.prog ops Q rest (f.put d (.agg a.cells.toArray)) w) :
    wpList Tryd.prog ops Q ({ dst := d, op := .load 32 x, type := t0, pos := pos, after := after, guard := none } :: rest) f w :=
  ldAny 32 x b o a.cells _ hx hc Tryd.underlying32 rfl (szA a) h
/-- What an act leaves. -/
def ActPost (n : Nat) (w w' : World) (G : Nat → Prop) (b bx S : Nat) (R : Int) (key : ByteArray) (D : PD) : Prop := ∃ X' D', JQ w' G b bx S R key X' D' D'.pods ∧ (Kn IsName (n + 1) X' D' S R ∧ D'.seen.length ≤ D.seen.length + 60) ∧ Kept (fun k => ¬ G k) w w'
theorem Still.act {w w' : World} {D' : PD} {X' : PS} (h : Still D D') (j : JQ w' G b bx S R key X' D' D.pods) (k : Kn IsName (n + 1) X' D' S R) (q : Kept (fun k => ¬ G k) w w') : ActPost n w w' G b bx S R key D :=
  ⟨X', D', by rw [h.1]; exact j, ⟨k, by rw [h.2]; omega⟩, q⟩
set_option maxRecDepth 100000 in
set_option maxHeartbeats 2000000 in
theorem act1 (w : World) (s m q : Int) (p t : ByteArray) (on : Bool) (ha : AOk ⟨1, s, m, q, p, t, on⟩) (h : JQ w G b bx S R key X D D.pods) (k : Kn IsName n X D S R) (hn : n ≤ 1970000000000) (_hs : D.seen.length ≤ 2050000000000) :
    Calls Tryd.prog 7 #[.pointer (some ⟨b, 0, none⟩), .agg #[.int .i64 1, .int .i64 s, .int .i64 m, .int .i64 q, .string p, .string t, .bool on]] w fun e w' => e = .returned (.bool true) ∧ ActPost n w w' G b bx S R key D := by
  have HJ := hid h
  have HK := hid k
  have HA := hid ha
  obtain ⟨_, s4, s1⟩ := k.srv
  have hd : D.deeds.length ≤ 2000000000000 := by have := k.floor.2.2; omega
  clear h k ha
  go_enter Tryd.func7, Tryd.ntmps7
  go_upto_region 1 with fail
  go_name_world W hW
  have LW : Hid (Low w.heap.size w W) := by
    show Low _ _ _
    rw [← hW]; exact (Low.refl _ w).alloc (Nat.le_refl _) _
  have BA : Hid (Blk W w.heap.size 32 (AAct.mk 1 s m q p t on).cells) := by
    show Blk W _ _ _
    rw [← hW]; exact Blk.new w 32 (AAct.mk 1 s m q p t on).cells
  have JW : Hid (JQ W G b bx S R key X D D.pods) := HJ.out.low LW.out
  have p1 : W.cell? ⟨w.heap.size, 1, none⟩ = some (.int .i64 s) := BA.out.cell 1
  have p0 : W.cell? ⟨w.heap.size, 0, none⟩ = some (.int .i64 1) := BA.out.cell 0
  have lA := BA.out.lt
  obtain ⟨c0, lb, c1⟩ := JW.out.ptr0
  have j0 := HA.out.s.1
  have j1 := HA.out.s.2
  clear hW
  go_cut [5] (fun sv wc => ∃ r : Nat, sv = .int .i64 (r : Int) ∧ Hid (r < S) ∧ wc = W.drew)
  case first =>
    go_region_held3 (fun W' => W'.cell? ⟨w.heap.size, 1, none⟩ = some (.int .i64 s) ∧ W'.cell? ⟨b, 1, none⟩ = some (.int .i64 (S : Int))) (first | assumption | go_keep)
      (first | (go_at_call 17; refine (pick_some s (S : Int) _ (by omega) (by omega) j0 j1).mono ?_; rintro e y3 ⟨sv, rfl, hsv, rfl⟩; have S3 : W.drew.cell? ⟨w.heap.size, 1, none⟩ = some (.int .i64 s) ∧ W.drew.cell? ⟨b, 1, none⟩ = some (.int .i64 (S : Int)) := ⟨p1, c1⟩))
    all_goals
      go_wp2_with fail
      go_meet
    all_goals exact ⟨sv, rfl, by show _ < _; omega, rfl⟩
  case rest =>
    obtain ⟨r, rfl, HRS, rfl⟩ := hcut
    have JV : Hid (JQ W.drew G b bx S R key X D D.pods) := JW.out.low (Low.refl _ W).drew
    have RV : Hid (W.drew.rangeAt w.heap.size 0 (AAct.mk 1 s m q p t on).cells) := BA.out.whole
    have KV : Hid (Kept (fun k => ¬ G k) w W.drew) := (LW.out.kept.mono (G := fun k => ¬ G k) (fun _ _ f => f.elim)).drew
    have lA2 := lA
    clear p1 c1 j0 j1
    obtain ⟨X', hP, hk2⟩ := kn_refresh HK.out HRS.out
    have HP := hid hP
    have HK2 := hid hk2
    clear hP hk2
    go_wp2_with (go_at_call 14; refine (JV.out.callX HP.out).mono ?_; rintro e y1 ⟨rfl, j1, k1⟩; have J1 := hid j1; have K1 : Hid (Kept (fun k => ¬ G k) w y1) := KV.out.trans k1 (fun _ f => f) (fun _ _ f => f); clear j1 k1)
    go_ret
    exact ⟨rfl, X', D, J1.out, ⟨HK2.out.mono (by omega), by omega⟩, K1.out⟩
set_option maxRecDepth 100000 in
set_option maxHeartbeats 2000000 in
theorem act3 (w : World) (s m q : Int) (p t : ByteArray) (on : Bool) (ha : AOk ⟨3, s, m, q, p, t, on⟩) (h : JQ w G b bx S R key X D D.pods) (k : Kn IsName n X D S R) (hn : n ≤ 1970000000000) (_hs : D.seen.length ≤ 2050000000000) :
    Calls Tryd.prog 7 #[.pointer (some ⟨b, 0, none⟩), .agg #[.int .i64 3, .int .i64 s, .int .i64 m, .int .i64 q, .string p, .string t, .bool on]] w fun e w' => e = .returned (.bool true) ∧ ActPost n w w' G b bx S R key D := by
  have HJ := hid h
  have HK := hid k
  have HA := hid ha
  obtain ⟨_, s4, s1⟩ := k.srv
  have hd : D.deeds.length ≤ 2000000000000 := by have := k.floor.2.2; omega
  clear h k ha
  go_enter Tryd.func7, Tryd.ntmps7
  go_upto_region 1 with fail
  go_name_world W hW
  have LW : Hid (Low w.heap.size w W) := by
    show Low _ _ _
    rw [← hW]; exact (Low.refl _ w).alloc (Nat.le_refl _) _
  have BA : Hid (Blk W w.heap.size 32 (AAct.mk 3 s m q p t on).cells) := by
    show Blk W _ _ _
    rw [← hW]; exact Blk.new w 32 (AAct.mk 3 s m q p t on).cells
  have JW : Hid (JQ W G b bx S R key X D D.pods) := HJ.out.low LW.out
  have p1 : W.cell? ⟨w.heap.size, 1, none⟩ = some (.int .i64 s) := BA.out.cell 1
  have p0 : W.cell? ⟨w.heap.size, 0, none⟩ = some (.int .i64 3) := BA.out.cell 0
  have lA := BA.out.lt
  obtain ⟨c0, lb, c1⟩ := JW.out.ptr0
  have j0 := HA.out.s.1
  have j1 := HA.out.s.2
  clear hW
  go_cut [5] (fun sv wc => ∃ r : Nat, sv = .int .i64 (r : Int) ∧ Hid (r < S) ∧ wc = W.drew)
  case first =>
    go_region_held3 (fun W' => W'.cell? ⟨w.heap.size, 1, none⟩ = some (.int .i64 s) ∧ W'.cell? ⟨b, 1, none⟩ = some (.int .i64 (S : Int))) (first | assumption | go_keep)
      (first | (go_at_call 17; refine (pick_some s (S : Int) _ (by omega) (by omega) j0 j1).mono ?_; rintro e y3 ⟨sv, rfl, hsv, rfl⟩; have S3 : W.drew.cell? ⟨w.heap.size, 1, none⟩ = some (.int .i64 s) ∧ W.drew.cell? ⟨b, 1, none⟩ = some (.int .i64 (S : Int)) := ⟨p1, c1⟩))
    all_goals
      go_wp2_with fail
      go_meet
    all_goals exact ⟨sv, rfl, by show _ < _; omega, rfl⟩
  case rest =>
    obtain ⟨r, rfl, HRS, rfl⟩ := hcut
    have JV : Hid (JQ W.drew G b bx S R key X D D.pods) := JW.out.low (Low.refl _ W).drew
    have RV : Hid (W.drew.rangeAt w.heap.size 0 (AAct.mk 3 s m q p t on).cells) := BA.out.whole
    have KV : Hid (Kept (fun k => ¬ G k) w W.drew) := (LW.out.kept.mono (G := fun k => ¬ G k) (fun _ _ f => f.elim)).drew
    have lA2 := lA
    clear p1 c1 j0 j1
    go_wp2_with (first | ((with_reducible refine ldA (.tmp 3) w.heap.size 0 ⟨3, s, m, q, p, t, on⟩ ?_ RV.out ?_); rfl) | (go_at_call 15; refine (beginQ _ ⟨3, s, m, q, p, t, on⟩ HA.out JV.out HK.out (by omega) HRS.out s4 hd).mono ?_; rintro e y1 ⟨rfl, X', D', j1, b1, k1⟩; have J1 := hid j1; have B1 := hid b1; have K1 : Hid (Kept (fun k => ¬ G k) w y1) := KV.out.trans k1 (fun _ f => f) (fun _ _ f => f); clear j1 b1 k1))
    go_ret
    exact ⟨rfl, B1.out.2.1.2.2.act J1.out (B1.out.1.mono (by omega)) K1.out⟩
set_option maxRecDepth 100000 in
set_option maxHeartbeats 2000000 in
theorem act4 (w : World) (s m q : Int) (p t : ByteArray) (on : Bool) (ha : AOk ⟨4, s, m, q, p, t, on⟩) (h : JQ w G b bx S R key X D D.pods) (k : Kn IsName n X D S R) (hn : n ≤ 1970000000000) (_hs : D.seen.length ≤ 2050000000000) :
    Calls Tryd.prog 7 #[.pointer (some ⟨b, 0, none⟩), .agg #[.int .i64 4, .int .i64 s, .int .i64 m, .int .i64 q, .string p, .string t, .bool on]] w fun e w' => e = .returned (.bool true) ∧ ActPost n w w' G b bx S R key D := by
  have HJ := hid h
  have HK := hid k
  have HA := hid ha
  obtain ⟨_, s4, s1⟩ := k.srv
  have hd : D.deeds.length ≤ 2000000000000 := by have := k.floor.2.2; omega
  clear h k ha
  go_enter Tryd.func7, Tryd.ntmps7
  go_upto_region 1 with fail
  go_name_world W hW
  have LW : Hid (Low w.heap.size w W) := by
    show Low _ _ _
    rw [← hW]; exact (Low.refl _ w).alloc (Nat.le_refl _) _
  have BA : Hid (Blk W w.heap.size 32 (AAct.mk 4 s m q p t on).cells) := by
    show Blk W _ _ _
    rw [← hW]; exact Blk.new w 32 (AAct.mk 4 s m q p t on).cells
  have JW : Hid (JQ W G b bx S R key X D D.pods) := HJ.out.low LW.out
  have p1 : W.cell? ⟨w.heap.size, 1, none⟩ = some (.int .i64 s) := BA.out.cell 1
  have p0 : W.cell? ⟨w.heap.size, 0, none⟩ = some (.int .i64 4) := BA.out.cell 0
  have lA := BA.out.lt
  obtain ⟨c0, lb, c1⟩ := JW.out.ptr0
  have j0 := HA.out.s.1
  have j1 := HA.out.s.2
  clear hW
  go_cut [5] (fun sv wc => ∃ r : Nat, sv = .int .i64 (r : Int) ∧ Hid (r < S) ∧ wc = W.drew)
  case first =>
    go_region_held3 (fun W' => W'.cell? ⟨w.heap.size, 1, none⟩ = some (.int .i64 s) ∧ W'.cell? ⟨b, 1, none⟩ = some (.int .i64 (S : Int))) (first | assumption | go_keep)
      (first | (go_at_call 17; refine (pick_some s (S : Int) _ (by omega) (by omega) j0 j1).mono ?_; rintro e y3 ⟨sv, rfl, hsv, rfl⟩; have S3 : W.drew.cell? ⟨w.heap.size, 1, none⟩ = some (.int .i64 s) ∧ W.drew.cell? ⟨b, 1, none⟩ = some (.int .i64 (S : Int)) := ⟨p1, c1⟩))
    all_goals
      go_wp2_with fail
      go_meet
    all_goals exact ⟨sv, rfl, by show _ < _; omega, rfl⟩
  case rest =>
    obtain ⟨r, rfl, HRS, rfl⟩ := hcut
    have JV : Hid (JQ W.drew G b bx S R key X D D.pods) := JW.out.low (Low.refl _ W).drew
    have RV : Hid (W.drew.rangeAt w.heap.size 0 (AAct.mk 4 s m q p t on).cells) := BA.out.whole
    have KV : Hid (Kept (fun k => ¬ G k) w W.drew) := (LW.out.kept.mono (G := fun k => ¬ G k) (fun _ _ f => f.elim)).drew
    have lA2 := lA
    clear p1 c1 j0 j1
    go_wp2_with (go_at_call 16; refine (commitQ _ JV.out HK.out (by omega) HRS.out s4 hd).mono ?_; rintro e y1 ⟨rfl, X', D', j1, b1, k1, _, _⟩; have J1 := hid j1; have B1 := hid b1; have K1 : Hid (Kept (fun k => ¬ G k) w y1) := KV.out.trans k1 (fun _ f => f) (fun _ _ f => f); clear j1 b1 k1)
    go_ret
    have hst : Still D D' := by
      obtain ⟨_, v, _, h | ⟨_, h⟩⟩ := B1.out <;> rw [h] <;> exact ⟨rfl, rfl⟩
    exact ⟨rfl, hst.act J1.out (B1.out.1.mono (by omega)) K1.out⟩
set_option maxRecDepth 100000 in
set_option maxHeartbeats 2000000 in
theorem act5 (w : World) (s m q : Int) (p t : ByteArray) (on : Bool) (ha : AOk ⟨5, s, m, q, p, t, on⟩) (h : JQ w G b bx S R key X D D.pods) (k : Kn IsName n X D S R) (hn : n ≤ 1970000000000) (_hs : D.seen.length ≤ 2050000000000) :
    Calls Tryd.prog 7 #[.pointer (some ⟨b, 0, none⟩), .agg #[.int .i64 5, .int .i64 s, .int .i64 m, .int .i64 q, .string p, .string t, .bool on]] w fun e w' => e = .returned (.bool true) ∧ ActPost n w w' G b bx S R key D := by
  have HJ := hid h
  have HK := hid k
  have HA := hid ha
  obtain ⟨_, s4, s1⟩ := k.srv
  have hd : D.deeds.length ≤ 2000000000000 := by have := k.floor.2.2; omega
  clear h k ha
  go_enter Tryd.func7, Tryd.ntmps7
  go_upto_region 1 with fail
  go_name_world W hW
  have LW : Hid (Low w.heap.size w W) := by
    show Low _ _ _
    rw [← hW]; exact (Low.refl _ w).alloc (Nat.le_refl _) _
  have BA : Hid (Blk W w.heap.size 32 (AAct.mk 5 s m q p t on).cells) := by
    show Blk W _ _ _
    rw [← hW]; exact Blk.new w 32 (AAct.mk 5 s m q p t on).cells
  have JW : Hid (JQ W G b bx S R key X D D.pods) := HJ.out.low LW.out
  have p1 : W.cell? ⟨w.heap.size, 1, none⟩ = some (.int .i64 s) := BA.out.cell 1
  have p0 : W.cell? ⟨w.heap.size, 0, none⟩ = some (.int .i64 5) := BA.out.cell 0
  have lA := BA.out.lt
  obtain ⟨c0, lb, c1⟩ := JW.out.ptr0
  have j0 := HA.out.s.1
  have j1 := HA.out.s.2
  clear hW
  go_cut [5] (fun sv wc => ∃ r : Nat, sv = .int .i64 (r : Int) ∧ Hid (r < S) ∧ wc = W.drew)
  case first =>
    go_region_held3 (fun W' => W'.cell? ⟨w.heap.size, 1, none⟩ = some (.int .i64 s) ∧ W'.cell? ⟨b, 1, none⟩ = some (.int .i64 (S : Int))) (first | assumption | go_keep)
      (first | (go_at_call 17; refine (pick_some s (S : Int) _ (by omega) (by omega) j0 j1).mono ?_; rintro e y3 ⟨sv, rfl, hsv, rfl⟩; have S3 : W.drew.cell? ⟨w.heap.size, 1, none⟩ = some (.int .i64 s) ∧ W.drew.cell? ⟨b, 1, none⟩ = some (.int .i64 (S : Int)) := ⟨p1, c1⟩))
    all_goals
      go_wp2_with fail
      go_meet
    all_goals exact ⟨sv, rfl, by show _ < _; omega, rfl⟩
  case rest =>
    obtain ⟨r, rfl, HRS, rfl⟩ := hcut
    have JV : Hid (JQ W.drew G b bx S R key X D D.pods) := JW.out.low (Low.refl _ W).drew
    have RV : Hid (W.drew.rangeAt w.heap.size 0 (AAct.mk 5 s m q p t on).cells) := BA.out.whole
    have KV : Hid (Kept (fun k => ¬ G k) w W.drew) := (LW.out.kept.mono (G := fun k => ¬ G k) (fun _ _ f => f.elim)).drew
    have lA2 := lA
    clear p1 c1 j0 j1
    go_wp2_with (first | ((with_reducible refine ldA (.tmp 3) w.heap.size 0 ⟨5, s, m, q, p, t, on⟩ ?_ RV.out ?_); rfl) | (go_at_call 19; refine (readsGet _ ⟨5, s, m, q, p, t, on⟩ HA.out JV.out HK.out HRS.out hd rfl).mono ?_; rintro e y1 ⟨rfl, j1, k1⟩; have J1 := hid j1; have K1 : Hid (Kept (fun k => ¬ G k) w y1) := KV.out.trans k1 (fun _ f => f) (fun _ _ f => f); clear j1 k1))
    go_ret
    exact ⟨rfl, X, D, J1.out, ⟨HK.out.mono (by omega), by omega⟩, K1.out⟩
set_option maxRecDepth 100000 in
set_option maxHeartbeats 2000000 in
theorem act6 (w : World) (s m q : Int) (p t : ByteArray) (on : Bool) (ha : AOk ⟨6, s, m, q, p, t, on⟩) (h : JQ w G b bx S R key X D D.pods) (k : Kn IsName n X D S R) (hn : n ≤ 1970000000000) (_hs : D.seen.length ≤ 2050000000000) :
    Calls Tryd.prog 7 #[.pointer (some ⟨b, 0, none⟩), .agg #[.int .i64 6, .int .i64 s, .int .i64 m, .int .i64 q, .string p, .string t, .bool on]] w fun e w' => e = .returned (.bool true) ∧ ActPost n w w' G b bx S R key D := by
  have HJ := hid h
  have HK := hid k
  have HA := hid ha
  obtain ⟨_, s4, s1⟩ := k.srv
  have hd : D.deeds.length ≤ 2000000000000 := by have := k.floor.2.2; omega
  clear h k ha
  go_enter Tryd.func7, Tryd.ntmps7
  go_upto_region 1 with fail
  go_name_world W hW
  have LW : Hid (Low w.heap.size w W) := by
    show Low _ _ _
    rw [← hW]; exact (Low.refl _ w).alloc (Nat.le_refl _) _
  have BA : Hid (Blk W w.heap.size 32 (AAct.mk 6 s m q p t on).cells) := by
    show Blk W _ _ _
    rw [← hW]; exact Blk.new w 32 (AAct.mk 6 s m q p t on).cells
  have JW : Hid (JQ W G b bx S R key X D D.pods) := HJ.out.low LW.out
  have p1 : W.cell? ⟨w.heap.size, 1, none⟩ = some (.int .i64 s) := BA.out.cell 1
  have p0 : W.cell? ⟨w.heap.size, 0, none⟩ = some (.int .i64 6) := BA.out.cell 0
  have lA := BA.out.lt
  obtain ⟨c0, lb, c1⟩ := JW.out.ptr0
  have j0 := HA.out.s.1
  have j1 := HA.out.s.2
  clear hW
  go_cut [5] (fun sv wc => ∃ r : Nat, sv = .int .i64 (r : Int) ∧ Hid (r < S) ∧ wc = W.drew)
  case first =>
    go_region_held3 (fun W' => W'.cell? ⟨w.heap.size, 1, none⟩ = some (.int .i64 s) ∧ W'.cell? ⟨b, 1, none⟩ = some (.int .i64 (S : Int))) (first | assumption | go_keep)
      (first | (go_at_call 17; refine (pick_some s (S : Int) _ (by omega) (by omega) j0 j1).mono ?_; rintro e y3 ⟨sv, rfl, hsv, rfl⟩; have S3 : W.drew.cell? ⟨w.heap.size, 1, none⟩ = some (.int .i64 s) ∧ W.drew.cell? ⟨b, 1, none⟩ = some (.int .i64 (S : Int)) := ⟨p1, c1⟩))
    all_goals
      go_wp2_with fail
      go_meet
    all_goals exact ⟨sv, rfl, by show _ < _; omega, rfl⟩
  case rest =>
    obtain ⟨r, rfl, HRS, rfl⟩ := hcut
    have JV : Hid (JQ W.drew G b bx S R key X D D.pods) := JW.out.low (Low.refl _ W).drew
    have RV : Hid (W.drew.rangeAt w.heap.size 0 (AAct.mk 6 s m q p t on).cells) := BA.out.whole
    have KV : Hid (Kept (fun k => ¬ G k) w W.drew) := (LW.out.kept.mono (G := fun k => ¬ G k) (fun _ _ f => f.elim)).drew
    have lA2 := lA
    clear p1 c1 j0 j1
    go_wp2_with (first | ((with_reducible refine ldA (.tmp 3) w.heap.size 0 ⟨6, s, m, q, p, t, on⟩ ?_ RV.out ?_); rfl) | (go_at_call 19; refine (readsAt _ ⟨6, s, m, q, p, t, on⟩ HA.out JV.out HK.out HRS.out hd rfl).mono ?_; rintro e y1 ⟨rfl, j1, k1⟩; have J1 := hid j1; have K1 : Hid (Kept (fun k => ¬ G k) w y1) := KV.out.trans k1 (fun _ f => f) (fun _ _ f => f); clear j1 k1))
    go_ret
    exact ⟨rfl, X, D, J1.out, ⟨HK.out.mono (by omega), by omega⟩, K1.out⟩
set_option maxRecDepth 100000 in
set_option maxHeartbeats 2000000 in
theorem act7 (w : World) (s m q : Int) (p t : ByteArray) (on : Bool) (ha : AOk ⟨7, s, m, q, p, t, on⟩) (h : JQ w G b bx S R key X D D.pods) (k : Kn IsName n X D S R) (hn : n ≤ 1970000000000) (_hs : D.seen.length ≤ 2050000000000) :
    Calls Tryd.prog 7 #[.pointer (some ⟨b, 0, none⟩), .agg #[.int .i64 7, .int .i64 s, .int .i64 m, .int .i64 q, .string p, .string t, .bool on]] w fun e w' => e = .returned (.bool true) ∧ ActPost n w w' G b bx S R key D := by
  have HJ := hid h
  have HK := hid k
  have HA := hid ha
  obtain ⟨_, s4, s1⟩ := k.srv
  have hd : D.deeds.length ≤ 2000000000000 := by have := k.floor.2.2; omega
  clear h k ha
  go_enter Tryd.func7, Tryd.ntmps7
  go_upto_region 1 with fail
  go_name_world W hW
  have LW : Hid (Low w.heap.size w W) := by
    show Low _ _ _
    rw [← hW]; exact (Low.refl _ w).alloc (Nat.le_refl _) _
  have BA : Hid (Blk W w.heap.size 32 (AAct.mk 7 s m q p t on).cells) := by
    show Blk W _ _ _
    rw [← hW]; exact Blk.new w 32 (AAct.mk 7 s m q p t on).cells
  have JW : Hid (JQ W G b bx S R key X D D.pods) := HJ.out.low LW.out
  have p1 : W.cell? ⟨w.heap.size, 1, none⟩ = some (.int .i64 s) := BA.out.cell 1
  have p0 : W.cell? ⟨w.heap.size, 0, none⟩ = some (.int .i64 7) := BA.out.cell 0
  have lA := BA.out.lt
  obtain ⟨c0, lb, c1⟩ := JW.out.ptr0
  have j0 := HA.out.s.1
  have j1 := HA.out.s.2
  clear hW
  go_cut [5] (fun sv wc => ∃ r : Nat, sv = .int .i64 (r : Int) ∧ Hid (r < S) ∧ wc = W.drew)
  case first =>
    go_region_held3 (fun W' => W'.cell? ⟨w.heap.size, 1, none⟩ = some (.int .i64 s) ∧ W'.cell? ⟨b, 1, none⟩ = some (.int .i64 (S : Int))) (first | assumption | go_keep)
      (first | (go_at_call 17; refine (pick_some s (S : Int) _ (by omega) (by omega) j0 j1).mono ?_; rintro e y3 ⟨sv, rfl, hsv, rfl⟩; have S3 : W.drew.cell? ⟨w.heap.size, 1, none⟩ = some (.int .i64 s) ∧ W.drew.cell? ⟨b, 1, none⟩ = some (.int .i64 (S : Int)) := ⟨p1, c1⟩))
    all_goals
      go_wp2_with fail
      go_meet
    all_goals exact ⟨sv, rfl, by show _ < _; omega, rfl⟩
  case rest =>
    obtain ⟨r, rfl, HRS, rfl⟩ := hcut
    have JV : Hid (JQ W.drew G b bx S R key X D D.pods) := JW.out.low (Low.refl _ W).drew
    have RV : Hid (W.drew.rangeAt w.heap.size 0 (AAct.mk 7 s m q p t on).cells) := BA.out.whole
    have KV : Hid (Kept (fun k => ¬ G k) w W.drew) := (LW.out.kept.mono (G := fun k => ¬ G k) (fun _ _ f => f.elim)).drew
    have lA2 := lA
    clear p1 c1 j0 j1
    have HKD : Hid ((7 : Int) ≤ (AAct.mk 7 s m q p t on).kind ∧ (AAct.mk 7 s m q p t on).kind ≤ 12) := ⟨by show (7 : Int) ≤ 7; omega, by show (7 : Int) ≤ 12; omega⟩
    go_wp2_with (first | ((with_reducible refine ldA (.tmp 3) w.heap.size 0 ⟨7, s, m, q, p, t, on⟩ ?_ RV.out ?_); rfl) | (go_at_call 20; refine (turnQ _ ⟨7, s, m, q, p, t, on⟩ HA.out JV.out HK.out hn HKD.out).mono ?_; rintro e y1 ⟨rfl, X', D', j1, b1, k1⟩; have J1 := hid j1; have B1 := hid b1; have K1 : Hid (Kept (fun k => ¬ G k) w y1) := KV.out.trans k1 (fun _ f => f) (fun _ _ f => f); clear j1 b1 k1))
    go_ret
    exact ⟨rfl, B1.out.2.act J1.out B1.out.1 K1.out⟩
set_option maxRecDepth 100000 in
set_option maxHeartbeats 2000000 in
theorem act8 (w : World) (s m q : Int) (p t : ByteArray) (on : Bool) (ha : AOk ⟨8, s, m, q, p, t, on⟩) (h : JQ w G b bx S R key X D D.pods) (k : Kn IsName n X D S R) (hn : n ≤ 1970000000000) (_hs : D.seen.length ≤ 2050000000000) :
    Calls Tryd.prog 7 #[.pointer (some ⟨b, 0, none⟩), .agg #[.int .i64 8, .int .i64 s, .int .i64 m, .int .i64 q, .string p, .string t, .bool on]] w fun e w' => e = .returned (.bool true) ∧ ActPost n w w' G b bx S R key D := by
  have HJ := hid h
  have HK := hid k
  have HA := hid ha
  obtain ⟨_, s4, s1⟩ := k.srv
  have hd : D.deeds.length ≤ 2000000000000 := by have := k.floor.2.2; omega
  clear h k ha
  go_enter Tryd.func7, Tryd.ntmps7
  go_upto_region 1 with fail
  go_name_world W hW
  have LW : Hid (Low w.heap.size w W) := by
    show Low _ _ _
    rw [← hW]; exact (Low.refl _ w).alloc (Nat.le_refl _) _
  have BA : Hid (Blk W w.heap.size 32 (AAct.mk 8 s m q p t on).cells) := by
    show Blk W _ _ _
    rw [← hW]; exact Blk.new w 32 (AAct.mk 8 s m q p t on).cells
  have JW : Hid (JQ W G b bx S R key X D D.pods) := HJ.out.low LW.out
  have p1 : W.cell? ⟨w.heap.size, 1, none⟩ = some (.int .i64 s) := BA.out.cell 1
  have p0 : W.cell? ⟨w.heap.size, 0, none⟩ = some (.int .i64 8) := BA.out.cell 0
  have lA := BA.out.lt
  obtain ⟨c0, lb, c1⟩ := JW.out.ptr0
  have j0 := HA.out.s.1
  have j1 := HA.out.s.2
  clear hW
  go_cut [5] (fun sv wc => ∃ r : Nat, sv = .int .i64 (r : Int) ∧ Hid (r < S) ∧ wc = W.drew)
  case first =>
    go_region_held3 (fun W' => W'.cell? ⟨w.heap.size, 1, none⟩ = some (.int .i64 s) ∧ W'.cell? ⟨b, 1, none⟩ = some (.int .i64 (S : Int))) (first | assumption | go_keep)
      (first | (go_at_call 17; refine (pick_some s (S : Int) _ (by omega) (by omega) j0 j1).mono ?_; rintro e y3 ⟨sv, rfl, hsv, rfl⟩; have S3 : W.drew.cell? ⟨w.heap.size, 1, none⟩ = some (.int .i64 s) ∧ W.drew.cell? ⟨b, 1, none⟩ = some (.int .i64 (S : Int)) := ⟨p1, c1⟩))
    all_goals
      go_wp2_with fail
      go_meet
    all_goals exact ⟨sv, rfl, by show _ < _; omega, rfl⟩
  case rest =>
    obtain ⟨r, rfl, HRS, rfl⟩ := hcut
    have JV : Hid (JQ W.drew G b bx S R key X D D.pods) := JW.out.low (Low.refl _ W).drew
    have RV : Hid (W.drew.rangeAt w.heap.size 0 (AAct.mk 8 s m q p t on).cells) := BA.out.whole
    have KV : Hid (Kept (fun k => ¬ G k) w W.drew) := (LW.out.kept.mono (G := fun k => ¬ G k) (fun _ _ f => f.elim)).drew
    have lA2 := lA
    clear p1 c1 j0 j1
    have HKD : Hid ((7 : Int) ≤ (AAct.mk 8 s m q p t on).kind ∧ (AAct.mk 8 s m q p t on).kind ≤ 12) := ⟨by show (7 : Int) ≤ 8; omega, by show (8 : Int) ≤ 12; omega⟩
    go_wp2_with (first | ((with_reducible refine ldA (.tmp 3) w.heap.size 0 ⟨8, s, m, q, p, t, on⟩ ?_ RV.out ?_); rfl) | (go_at_call 20; refine (turnQ _ ⟨8, s, m, q, p, t, on⟩ HA.out JV.out HK.out hn HKD.out).mono ?_; rintro e y1 ⟨rfl, X', D', j1, b1, k1⟩; have J1 := hid j1; have B1 := hid b1; have K1 : Hid (Kept (fun k => ¬ G k) w y1) := KV.out.trans k1 (fun _ f => f) (fun _ _ f => f); clear j1 b1 k1))
    go_ret
    exact ⟨rfl, B1.out.2.act J1.out B1.out.1 K1.out⟩
set_option maxRecDepth 100000 in
set_option maxHeartbeats 2000000 in
theorem act9 (w : World) (s m q : Int) (p t : ByteArray) (on : Bool) (ha : AOk ⟨9, s, m, q, p, t, on⟩) (h : JQ w G b bx S R key X D D.pods) (k : Kn IsName n X D S R) (hn : n ≤ 1970000000000) (_hs : D.seen.length ≤ 2050000000000) :
    Calls Tryd.prog 7 #[.pointer (some ⟨b, 0, none⟩), .agg #[.int .i64 9, .int .i64 s, .int .i64 m, .int .i64 q, .string p, .string t, .bool on]] w fun e w' => e = .returned (.bool true) ∧ ActPost n w w' G b bx S R key D := by
  have HJ := hid h
  have HK := hid k
  have HA := hid ha
  obtain ⟨_, s4, s1⟩ := k.srv
  have hd : D.deeds.length ≤ 2000000000000 := by have := k.floor.2.2; omega
  clear h k ha
  go_enter Tryd.func7, Tryd.ntmps7
  go_upto_region 1 with fail
  go_name_world W hW
  have LW : Hid (Low w.heap.size w W) := by
    show Low _ _ _
    rw [← hW]; exact (Low.refl _ w).alloc (Nat.le_refl _) _
  have BA : Hid (Blk W w.heap.size 32 (AAct.mk 9 s m q p t on).cells) := by
    show Blk W _ _ _
    rw [← hW]; exact Blk.new w 32 (AAct.mk 9 s m q p t on).cells
  have JW : Hid (JQ W G b bx S R key X D D.pods) := HJ.out.low LW.out
  have p1 : W.cell? ⟨w.heap.size, 1, none⟩ = some (.int .i64 s) := BA.out.cell 1
  have p0 : W.cell? ⟨w.heap.size, 0, none⟩ = some (.int .i64 9) := BA.out.cell 0
  have lA := BA.out.lt
  obtain ⟨c0, lb, c1⟩ := JW.out.ptr0
  have j0 := HA.out.s.1
  have j1 := HA.out.s.2
  clear hW
  go_cut [5] (fun sv wc => ∃ r : Nat, sv = .int .i64 (r : Int) ∧ Hid (r < S) ∧ wc = W.drew)
  case first =>
    go_region_held3 (fun W' => W'.cell? ⟨w.heap.size, 1, none⟩ = some (.int .i64 s) ∧ W'.cell? ⟨b, 1, none⟩ = some (.int .i64 (S : Int))) (first | assumption | go_keep)
      (first | (go_at_call 17; refine (pick_some s (S : Int) _ (by omega) (by omega) j0 j1).mono ?_; rintro e y3 ⟨sv, rfl, hsv, rfl⟩; have S3 : W.drew.cell? ⟨w.heap.size, 1, none⟩ = some (.int .i64 s) ∧ W.drew.cell? ⟨b, 1, none⟩ = some (.int .i64 (S : Int)) := ⟨p1, c1⟩))
    all_goals
      go_wp2_with fail
      go_meet
    all_goals exact ⟨sv, rfl, by show _ < _; omega, rfl⟩
  case rest =>
    obtain ⟨r, rfl, HRS, rfl⟩ := hcut
    have JV : Hid (JQ W.drew G b bx S R key X D D.pods) := JW.out.low (Low.refl _ W).drew
    have RV : Hid (W.drew.rangeAt w.heap.size 0 (AAct.mk 9 s m q p t on).cells) := BA.out.whole
    have KV : Hid (Kept (fun k => ¬ G k) w W.drew) := (LW.out.kept.mono (G := fun k => ¬ G k) (fun _ _ f => f.elim)).drew
    have lA2 := lA
    clear p1 c1 j0 j1
    have HKD : Hid ((7 : Int) ≤ (AAct.mk 9 s m q p t on).kind ∧ (AAct.mk 9 s m q p t on).kind ≤ 12) := ⟨by show (7 : Int) ≤ 9; omega, by show (9 : Int) ≤ 12; omega⟩
    go_wp2_with (first | ((with_reducible refine ldA (.tmp 3) w.heap.size 0 ⟨9, s, m, q, p, t, on⟩ ?_ RV.out ?_); rfl) | (go_at_call 20; refine (turnQ _ ⟨9, s, m, q, p, t, on⟩ HA.out JV.out HK.out hn HKD.out).mono ?_; rintro e y1 ⟨rfl, X', D', j1, b1, k1⟩; have J1 := hid j1; have B1 := hid b1; have K1 : Hid (Kept (fun k => ¬ G k) w y1) := KV.out.trans k1 (fun _ f => f) (fun _ _ f => f); clear j1 b1 k1))
    go_ret
    exact ⟨rfl, B1.out.2.act J1.out B1.out.1 K1.out⟩
set_option maxRecDepth 100000 in
set_option maxHeartbeats 2000000 in
theorem act10 (w : World) (s m q : Int) (p t : ByteArray) (on : Bool) (ha : AOk ⟨10, s, m, q, p, t, on⟩) (h : JQ w G b bx S R key X D D.pods) (k : Kn IsName n X D S R) (hn : n ≤ 1970000000000) (_hs : D.seen.length ≤ 2050000000000) :
    Calls Tryd.prog 7 #[.pointer (some ⟨b, 0, none⟩), .agg #[.int .i64 10, .int .i64 s, .int .i64 m, .int .i64 q, .string p, .string t, .bool on]] w fun e w' => e = .returned (.bool true) ∧ ActPost n w w' G b bx S R key D := by
  have HJ := hid h
  have HK := hid k
  have HA := hid ha
  obtain ⟨_, s4, s1⟩ := k.srv
  have hd : D.deeds.length ≤ 2000000000000 := by have := k.floor.2.2; omega
  clear h k ha
  go_enter Tryd.func7, Tryd.ntmps7
  go_upto_region 1 with fail
  go_name_world W hW
  have LW : Hid (Low w.heap.size w W) := by
    show Low _ _ _
    rw [← hW]; exact (Low.refl _ w).alloc (Nat.le_refl _) _
  have BA : Hid (Blk W w.heap.size 32 (AAct.mk 10 s m q p t on).cells) := by
    show Blk W _ _ _
    rw [← hW]; exact Blk.new w 32 (AAct.mk 10 s m q p t on).cells
  have JW : Hid (JQ W G b bx S R key X D D.pods) := HJ.out.low LW.out
  have p1 : W.cell? ⟨w.heap.size, 1, none⟩ = some (.int .i64 s) := BA.out.cell 1
  have p0 : W.cell? ⟨w.heap.size, 0, none⟩ = some (.int .i64 10) := BA.out.cell 0
  have lA := BA.out.lt
  obtain ⟨c0, lb, c1⟩ := JW.out.ptr0
  have j0 := HA.out.s.1
  have j1 := HA.out.s.2
  clear hW
  go_cut [5] (fun sv wc => ∃ r : Nat, sv = .int .i64 (r : Int) ∧ Hid (r < S) ∧ wc = W.drew)
  case first =>
    go_region_held3 (fun W' => W'.cell? ⟨w.heap.size, 1, none⟩ = some (.int .i64 s) ∧ W'.cell? ⟨b, 1, none⟩ = some (.int .i64 (S : Int))) (first | assumption | go_keep)
      (first | (go_at_call 17; refine (pick_some s (S : Int) _ (by omega) (by omega) j0 j1).mono ?_; rintro e y3 ⟨sv, rfl, hsv, rfl⟩; have S3 : W.drew.cell? ⟨w.heap.size, 1, none⟩ = some (.int .i64 s) ∧ W.drew.cell? ⟨b, 1, none⟩ = some (.int .i64 (S : Int)) := ⟨p1, c1⟩))
    all_goals
      go_wp2_with fail
      go_meet
    all_goals exact ⟨sv, rfl, by show _ < _; omega, rfl⟩
  case rest =>
    obtain ⟨r, rfl, HRS, rfl⟩ := hcut
    have JV : Hid (JQ W.drew G b bx S R key X D D.pods) := JW.out.low (Low.refl _ W).drew
    have RV : Hid (W.drew.rangeAt w.heap.size 0 (AAct.mk 10 s m q p t on).cells) := BA.out.whole
    have KV : Hid (Kept (fun k => ¬ G k) w W.drew) := (LW.out.kept.mono (G := fun k => ¬ G k) (fun _ _ f => f.elim)).drew
    have lA2 := lA
    clear p1 c1 j0 j1
    have HKD : Hid ((7 : Int) ≤ (AAct.mk 10 s m q p t on).kind ∧ (AAct.mk 10 s m q p t on).kind ≤ 12) := ⟨by show (7 : Int) ≤ 10; omega, by show (10 : Int) ≤ 12; omega⟩
    go_wp2_with (first | ((with_reducible refine ldA (.tmp 3) w.heap.size 0 ⟨10, s, m, q, p, t, on⟩ ?_ RV.out ?_); rfl) | (go_at_call 20; refine (turnQ _ ⟨10, s, m, q, p, t, on⟩ HA.out JV.out HK.out hn HKD.out).mono ?_; rintro e y1 ⟨rfl, X', D', j1, b1, k1⟩; have J1 := hid j1; have B1 := hid b1; have K1 : Hid (Kept (fun k => ¬ G k) w y1) := KV.out.trans k1 (fun _ f => f) (fun _ _ f => f); clear j1 b1 k1))
    go_ret
    exact ⟨rfl, B1.out.2.act J1.out B1.out.1 K1.out⟩
set_option maxRecDepth 100000 in
set_option maxHeartbeats 2000000 in
theorem act11 (w : World) (s m q : Int) (p t : ByteArray) (on : Bool) (ha : AOk ⟨11, s, m, q, p, t, on⟩) (h : JQ w G b bx S R key X D D.pods) (k : Kn IsName n X D S R) (hn : n ≤ 1970000000000) (_hs : D.seen.length ≤ 2050000000000) :
    Calls Tryd.prog 7 #[.pointer (some ⟨b, 0, none⟩), .agg #[.int .i64 11, .int .i64 s, .int .i64 m, .int .i64 q, .string p, .string t, .bool on]] w fun e w' => e = .returned (.bool true) ∧ ActPost n w w' G b bx S R key D := by
  have HJ := hid h
  have HK := hid k
  have HA := hid ha
  obtain ⟨_, s4, s1⟩ := k.srv
  have hd : D.deeds.length ≤ 2000000000000 := by have := k.floor.2.2; omega
  clear h k ha
  go_enter Tryd.func7, Tryd.ntmps7
  go_upto_region 1 with fail
  go_name_world W hW
  have LW : Hid (Low w.heap.size w W) := by
    show Low _ _ _
    rw [← hW]; exact (Low.refl _ w).alloc (Nat.le_refl _) _
  have BA : Hid (Blk W w.heap.size 32 (AAct.mk 11 s m q p t on).cells) := by
    show Blk W _ _ _
    rw [← hW]; exact Blk.new w 32 (AAct.mk 11 s m q p t on).cells
  have JW : Hid (JQ W G b bx S R key X D D.pods) := HJ.out.low LW.out
  have p1 : W.cell? ⟨w.heap.size, 1, none⟩ = some (.int .i64 s) := BA.out.cell 1
  have p0 : W.cell? ⟨w.heap.size, 0, none⟩ = some (.int .i64 11) := BA.out.cell 0
  have lA := BA.out.lt
  obtain ⟨c0, lb, c1⟩ := JW.out.ptr0
  have j0 := HA.out.s.1
  have j1 := HA.out.s.2
  clear hW
  go_cut [5] (fun sv wc => ∃ r : Nat, sv = .int .i64 (r : Int) ∧ Hid (r < S) ∧ wc = W.drew)
  case first =>
    go_region_held3 (fun W' => W'.cell? ⟨w.heap.size, 1, none⟩ = some (.int .i64 s) ∧ W'.cell? ⟨b, 1, none⟩ = some (.int .i64 (S : Int))) (first | assumption | go_keep)
      (first | (go_at_call 17; refine (pick_some s (S : Int) _ (by omega) (by omega) j0 j1).mono ?_; rintro e y3 ⟨sv, rfl, hsv, rfl⟩; have S3 : W.drew.cell? ⟨w.heap.size, 1, none⟩ = some (.int .i64 s) ∧ W.drew.cell? ⟨b, 1, none⟩ = some (.int .i64 (S : Int)) := ⟨p1, c1⟩))
    all_goals
      go_wp2_with fail
      go_meet
    all_goals exact ⟨sv, rfl, by show _ < _; omega, rfl⟩
  case rest =>
    obtain ⟨r, rfl, HRS, rfl⟩ := hcut
    have JV : Hid (JQ W.drew G b bx S R key X D D.pods) := JW.out.low (Low.refl _ W).drew
    have RV : Hid (W.drew.rangeAt w.heap.size 0 (AAct.mk 11 s m q p t on).cells) := BA.out.whole
    have KV : Hid (Kept (fun k => ¬ G k) w W.drew) := (LW.out.kept.mono (G := fun k => ¬ G k) (fun _ _ f => f.elim)).drew
    have lA2 := lA
    clear p1 c1 j0 j1
    have HKD : Hid ((7 : Int) ≤ (AAct.mk 11 s m q p t on).kind ∧ (AAct.mk 11 s m q p t on).kind ≤ 12) := ⟨by show (7 : Int) ≤ 11; omega, by show (11 : Int) ≤ 12; omega⟩
    go_wp2_with (first | ((with_reducible refine ldA (.tmp 3) w.heap.size 0 ⟨11, s, m, q, p, t, on⟩ ?_ RV.out ?_); rfl) | (go_at_call 20; refine (turnQ _ ⟨11, s, m, q, p, t, on⟩ HA.out JV.out HK.out hn HKD.out).mono ?_; rintro e y1 ⟨rfl, X', D', j1, b1, k1⟩; have J1 := hid j1; have B1 := hid b1; have K1 : Hid (Kept (fun k => ¬ G k) w y1) := KV.out.trans k1 (fun _ f => f) (fun _ _ f => f); clear j1 b1 k1))
    go_ret
    exact ⟨rfl, B1.out.2.act J1.out B1.out.1 K1.out⟩
set_option maxRecDepth 100000 in
set_option maxHeartbeats 2000000 in
theorem act12 (w : World) (s m q : Int) (p t : ByteArray) (on : Bool) (ha : AOk ⟨12, s, m, q, p, t, on⟩) (h : JQ w G b bx S R key X D D.pods) (k : Kn IsName n X D S R) (hn : n ≤ 1970000000000) (_hs : D.seen.length ≤ 2050000000000) :
    Calls Tryd.prog 7 #[.pointer (some ⟨b, 0, none⟩), .agg #[.int .i64 12, .int .i64 s, .int .i64 m, .int .i64 q, .string p, .string t, .bool on]] w fun e w' => e = .returned (.bool true) ∧ ActPost n w w' G b bx S R key D := by
  have HJ := hid h
  have HK := hid k
  have HA := hid ha
  obtain ⟨_, s4, s1⟩ := k.srv
  have hd : D.deeds.length ≤ 2000000000000 := by have := k.floor.2.2; omega
  clear h k ha
  go_enter Tryd.func7, Tryd.ntmps7
  go_upto_region 1 with fail
  go_name_world W hW
  have LW : Hid (Low w.heap.size w W) := by
    show Low _ _ _
    rw [← hW]; exact (Low.refl _ w).alloc (Nat.le_refl _) _
  have BA : Hid (Blk W w.heap.size 32 (AAct.mk 12 s m q p t on).cells) := by
    show Blk W _ _ _
    rw [← hW]; exact Blk.new w 32 (AAct.mk 12 s m q p t on).cells
  have JW : Hid (JQ W G b bx S R key X D D.pods) := HJ.out.low LW.out
  have p1 : W.cell? ⟨w.heap.size, 1, none⟩ = some (.int .i64 s) := BA.out.cell 1
  have p0 : W.cell? ⟨w.heap.size, 0, none⟩ = some (.int .i64 12) := BA.out.cell 0
  have lA := BA.out.lt
  obtain ⟨c0, lb, c1⟩ := JW.out.ptr0
  have j0 := HA.out.s.1
  have j1 := HA.out.s.2
  clear hW
  go_cut [5] (fun sv wc => ∃ r : Nat, sv = .int .i64 (r : Int) ∧ Hid (r < S) ∧ wc = W.drew)
  case first =>
    go_region_held3 (fun W' => W'.cell? ⟨w.heap.size, 1, none⟩ = some (.int .i64 s) ∧ W'.cell? ⟨b, 1, none⟩ = some (.int .i64 (S : Int))) (first | assumption | go_keep)
      (first | (go_at_call 17; refine (pick_some s (S : Int) _ (by omega) (by omega) j0 j1).mono ?_; rintro e y3 ⟨sv, rfl, hsv, rfl⟩; have S3 : W.drew.cell? ⟨w.heap.size, 1, none⟩ = some (.int .i64 s) ∧ W.drew.cell? ⟨b, 1, none⟩ = some (.int .i64 (S : Int)) := ⟨p1, c1⟩))
    all_goals
      go_wp2_with fail
      go_meet
    all_goals exact ⟨sv, rfl, by show _ < _; omega, rfl⟩
  case rest =>
    obtain ⟨r, rfl, HRS, rfl⟩ := hcut
    have JV : Hid (JQ W.drew G b bx S R key X D D.pods) := JW.out.low (Low.refl _ W).drew
    have RV : Hid (W.drew.rangeAt w.heap.size 0 (AAct.mk 12 s m q p t on).cells) := BA.out.whole
    have KV : Hid (Kept (fun k => ¬ G k) w W.drew) := (LW.out.kept.mono (G := fun k => ¬ G k) (fun _ _ f => f.elim)).drew
    have lA2 := lA
    clear p1 c1 j0 j1
    have HKD : Hid ((7 : Int) ≤ (AAct.mk 12 s m q p t on).kind ∧ (AAct.mk 12 s m q p t on).kind ≤ 12) := ⟨by show (7 : Int) ≤ 12; omega, by show (12 : Int) ≤ 12; omega⟩
    go_wp2_with (first | ((with_reducible refine ldA (.tmp 3) w.heap.size 0 ⟨12, s, m, q, p, t, on⟩ ?_ RV.out ?_); rfl) | (go_at_call 20; refine (turnQ _ ⟨12, s, m, q, p, t, on⟩ HA.out JV.out HK.out hn HKD.out).mono ?_; rintro e y1 ⟨rfl, X', D', j1, b1, k1⟩; have J1 := hid j1; have B1 := hid b1; have K1 : Hid (Kept (fun k => ¬ G k) w y1) := KV.out.trans k1 (fun _ f => f) (fun _ _ f => f); clear j1 b1 k1))
    go_ret
    exact ⟨rfl, B1.out.2.act J1.out B1.out.1 K1.out⟩
set_option maxRecDepth 100000 in
set_option maxHeartbeats 2000000 in
theorem act14 (w : World) (s m q : Int) (p t : ByteArray) (on : Bool) (ha : AOk ⟨14, s, m, q, p, t, on⟩) (h : JQ w G b bx S R key X D D.pods) (k : Kn IsName n X D S R) (hn : n ≤ 1970000000000) (_hs : D.seen.length ≤ 2050000000000) :
    Calls Tryd.prog 7 #[.pointer (some ⟨b, 0, none⟩), .agg #[.int .i64 14, .int .i64 s, .int .i64 m, .int .i64 q, .string p, .string t, .bool on]] w fun e w' => e = .returned (.bool true) ∧ ActPost n w w' G b bx S R key D := by
  have HJ := hid h
  have HK := hid k
  have HA := hid ha
  obtain ⟨_, s4, s1⟩ := k.srv
  have hd : D.deeds.length ≤ 2000000000000 := by have := k.floor.2.2; omega
  clear h k ha
  go_enter Tryd.func7, Tryd.ntmps7
  go_upto_region 1 with fail
  go_name_world W hW
  have LW : Hid (Low w.heap.size w W) := by
    show Low _ _ _
    rw [← hW]; exact (Low.refl _ w).alloc (Nat.le_refl _) _
  have BA : Hid (Blk W w.heap.size 32 (AAct.mk 14 s m q p t on).cells) := by
    show Blk W _ _ _
    rw [← hW]; exact Blk.new w 32 (AAct.mk 14 s m q p t on).cells
  have JW : Hid (JQ W G b bx S R key X D D.pods) := HJ.out.low LW.out
  have p1 : W.cell? ⟨w.heap.size, 1, none⟩ = some (.int .i64 s) := BA.out.cell 1
  have p0 : W.cell? ⟨w.heap.size, 0, none⟩ = some (.int .i64 14) := BA.out.cell 0
  have lA := BA.out.lt
  obtain ⟨c0, lb, c1⟩ := JW.out.ptr0
  have j0 := HA.out.s.1
  have j1 := HA.out.s.2
  clear hW
  go_cut [5] (fun sv wc => ∃ r : Nat, sv = .int .i64 (r : Int) ∧ Hid (r < S) ∧ wc = W.drew)
  case first =>
    go_region_held3 (fun W' => W'.cell? ⟨w.heap.size, 1, none⟩ = some (.int .i64 s) ∧ W'.cell? ⟨b, 1, none⟩ = some (.int .i64 (S : Int))) (first | assumption | go_keep)
      (first | (go_at_call 17; refine (pick_some s (S : Int) _ (by omega) (by omega) j0 j1).mono ?_; rintro e y3 ⟨sv, rfl, hsv, rfl⟩; have S3 : W.drew.cell? ⟨w.heap.size, 1, none⟩ = some (.int .i64 s) ∧ W.drew.cell? ⟨b, 1, none⟩ = some (.int .i64 (S : Int)) := ⟨p1, c1⟩))
    all_goals
      go_wp2_with fail
      go_meet
    all_goals exact ⟨sv, rfl, by show _ < _; omega, rfl⟩
  case rest =>
    obtain ⟨r, rfl, HRS, rfl⟩ := hcut
    have JV : Hid (JQ W.drew G b bx S R key X D D.pods) := JW.out.low (Low.refl _ W).drew
    have RV : Hid (W.drew.rangeAt w.heap.size 0 (AAct.mk 14 s m q p t on).cells) := BA.out.whole
    have KV : Hid (Kept (fun k => ¬ G k) w W.drew) := (LW.out.kept.mono (G := fun k => ¬ G k) (fun _ _ f => f.elim)).drew
    have lA2 := lA
    clear p1 c1 j0 j1
    go_wp2_with (first | ((with_reducible refine ldA (.tmp 3) w.heap.size 0 ⟨14, s, m, q, p, t, on⟩ ?_ RV.out ?_); rfl) | (go_at_call 21; refine (podsQ _ ⟨14, s, m, q, p, t, on⟩ HA.out JV.out HK.out (Or.inl rfl)).mono ?_; rintro e y1 ⟨rfl, X', D', j1, b1, k1⟩; have J1 := hid j1; have B1 := hid b1; have K1 : Hid (Kept (fun k => ¬ G k) w y1) := KV.out.trans k1 (fun _ f => f) (fun _ _ f => f); clear j1 b1 k1))
    go_ret
    exact ⟨rfl, X', D', J1.out, ⟨B1.out.1, by rw [B1.out.2.2]; omega⟩, K1.out⟩
set_option maxRecDepth 100000 in
set_option maxHeartbeats 2000000 in
theorem act15 (w : World) (s m q : Int) (p t : ByteArray) (on : Bool) (ha : AOk ⟨15, s, m, q, p, t, on⟩) (h : JQ w G b bx S R key X D D.pods) (k : Kn IsName n X D S R) (hn : n ≤ 1970000000000) (_hs : D.seen.length ≤ 2050000000000) :
    Calls Tryd.prog 7 #[.pointer (some ⟨b, 0, none⟩), .agg #[.int .i64 15, .int .i64 s, .int .i64 m, .int .i64 q, .string p, .string t, .bool on]] w fun e w' => e = .returned (.bool true) ∧ ActPost n w w' G b bx S R key D := by
  have HJ := hid h
  have HK := hid k
  have HA := hid ha
  obtain ⟨_, s4, s1⟩ := k.srv
  have hd : D.deeds.length ≤ 2000000000000 := by have := k.floor.2.2; omega
  clear h k ha
  go_enter Tryd.func7, Tryd.ntmps7
  go_upto_region 1 with fail
  go_name_world W hW
  have LW : Hid (Low w.heap.size w W) := by
    show Low _ _ _
    rw [← hW]; exact (Low.refl _ w).alloc (Nat.le_refl _) _
  have BA : Hid (Blk W w.heap.size 32 (AAct.mk 15 s m q p t on).cells) := by
    show Blk W _ _ _
    rw [← hW]; exact Blk.new w 32 (AAct.mk 15 s m q p t on).cells
  have JW : Hid (JQ W G b bx S R key X D D.pods) := HJ.out.low LW.out
  have p1 : W.cell? ⟨w.heap.size, 1, none⟩ = some (.int .i64 s) := BA.out.cell 1
  have p0 : W.cell? ⟨w.heap.size, 0, none⟩ = some (.int .i64 15) := BA.out.cell 0
  have lA := BA.out.lt
  obtain ⟨c0, lb, c1⟩ := JW.out.ptr0
  have j0 := HA.out.s.1
  have j1 := HA.out.s.2
  clear hW
  go_cut [5] (fun sv wc => ∃ r : Nat, sv = .int .i64 (r : Int) ∧ Hid (r < S) ∧ wc = W.drew)
  case first =>
    go_region_held3 (fun W' => W'.cell? ⟨w.heap.size, 1, none⟩ = some (.int .i64 s) ∧ W'.cell? ⟨b, 1, none⟩ = some (.int .i64 (S : Int))) (first | assumption | go_keep)
      (first | (go_at_call 17; refine (pick_some s (S : Int) _ (by omega) (by omega) j0 j1).mono ?_; rintro e y3 ⟨sv, rfl, hsv, rfl⟩; have S3 : W.drew.cell? ⟨w.heap.size, 1, none⟩ = some (.int .i64 s) ∧ W.drew.cell? ⟨b, 1, none⟩ = some (.int .i64 (S : Int)) := ⟨p1, c1⟩))
    all_goals
      go_wp2_with fail
      go_meet
    all_goals exact ⟨sv, rfl, by show _ < _; omega, rfl⟩
  case rest =>
    obtain ⟨r, rfl, HRS, rfl⟩ := hcut
    have JV : Hid (JQ W.drew G b bx S R key X D D.pods) := JW.out.low (Low.refl _ W).drew
    have RV : Hid (W.drew.rangeAt w.heap.size 0 (AAct.mk 15 s m q p t on).cells) := BA.out.whole
    have KV : Hid (Kept (fun k => ¬ G k) w W.drew) := (LW.out.kept.mono (G := fun k => ¬ G k) (fun _ _ f => f.elim)).drew
    have lA2 := lA
    clear p1 c1 j0 j1
    go_wp2_with (first | ((with_reducible refine ldA (.tmp 3) w.heap.size 0 ⟨15, s, m, q, p, t, on⟩ ?_ RV.out ?_); rfl) | (go_at_call 21; refine (podsQ _ ⟨15, s, m, q, p, t, on⟩ HA.out JV.out HK.out (Or.inr (Or.inl rfl))).mono ?_; rintro e y1 ⟨rfl, X', D', j1, b1, k1⟩; have J1 := hid j1; have B1 := hid b1; have K1 : Hid (Kept (fun k => ¬ G k) w y1) := KV.out.trans k1 (fun _ f => f) (fun _ _ f => f); clear j1 b1 k1))
    go_ret
    exact ⟨rfl, X', D', J1.out, ⟨B1.out.1, by rw [B1.out.2.2]; omega⟩, K1.out⟩
set_option maxRecDepth 100000 in
set_option maxHeartbeats 2000000 in
theorem act16 (w : World) (s m q : Int) (p t : ByteArray) (on : Bool) (ha : AOk ⟨16, s, m, q, p, t, on⟩) (h : JQ w G b bx S R key X D D.pods) (k : Kn IsName n X D S R) (hn : n ≤ 1970000000000) (_hs : D.seen.length ≤ 2050000000000) :
    Calls Tryd.prog 7 #[.pointer (some ⟨b, 0, none⟩), .agg #[.int .i64 16, .int .i64 s, .int .i64 m, .int .i64 q, .string p, .string t, .bool on]] w fun e w' => e = .returned (.bool true) ∧ ActPost n w w' G b bx S R key D := by
  have HJ := hid h
  have HK := hid k
  have HA := hid ha
  obtain ⟨_, s4, s1⟩ := k.srv
  have hd : D.deeds.length ≤ 2000000000000 := by have := k.floor.2.2; omega
  clear h k ha
  go_enter Tryd.func7, Tryd.ntmps7
  go_upto_region 1 with fail
  go_name_world W hW
  have LW : Hid (Low w.heap.size w W) := by
    show Low _ _ _
    rw [← hW]; exact (Low.refl _ w).alloc (Nat.le_refl _) _
  have BA : Hid (Blk W w.heap.size 32 (AAct.mk 16 s m q p t on).cells) := by
    show Blk W _ _ _
    rw [← hW]; exact Blk.new w 32 (AAct.mk 16 s m q p t on).cells
  have JW : Hid (JQ W G b bx S R key X D D.pods) := HJ.out.low LW.out
  have p1 : W.cell? ⟨w.heap.size, 1, none⟩ = some (.int .i64 s) := BA.out.cell 1
  have p0 : W.cell? ⟨w.heap.size, 0, none⟩ = some (.int .i64 16) := BA.out.cell 0
  have lA := BA.out.lt
  obtain ⟨c0, lb, c1⟩ := JW.out.ptr0
  have j0 := HA.out.s.1
  have j1 := HA.out.s.2
  clear hW
  go_cut [5] (fun sv wc => ∃ r : Nat, sv = .int .i64 (r : Int) ∧ Hid (r < S) ∧ wc = W.drew)
  case first =>
    go_region_held3 (fun W' => W'.cell? ⟨w.heap.size, 1, none⟩ = some (.int .i64 s) ∧ W'.cell? ⟨b, 1, none⟩ = some (.int .i64 (S : Int))) (first | assumption | go_keep)
      (first | (go_at_call 17; refine (pick_some s (S : Int) _ (by omega) (by omega) j0 j1).mono ?_; rintro e y3 ⟨sv, rfl, hsv, rfl⟩; have S3 : W.drew.cell? ⟨w.heap.size, 1, none⟩ = some (.int .i64 s) ∧ W.drew.cell? ⟨b, 1, none⟩ = some (.int .i64 (S : Int)) := ⟨p1, c1⟩))
    all_goals
      go_wp2_with fail
      go_meet
    all_goals exact ⟨sv, rfl, by show _ < _; omega, rfl⟩
  case rest =>
    obtain ⟨r, rfl, HRS, rfl⟩ := hcut
    have JV : Hid (JQ W.drew G b bx S R key X D D.pods) := JW.out.low (Low.refl _ W).drew
    have RV : Hid (W.drew.rangeAt w.heap.size 0 (AAct.mk 16 s m q p t on).cells) := BA.out.whole
    have KV : Hid (Kept (fun k => ¬ G k) w W.drew) := (LW.out.kept.mono (G := fun k => ¬ G k) (fun _ _ f => f.elim)).drew
    have lA2 := lA
    clear p1 c1 j0 j1
    go_wp2_with (first | ((with_reducible refine ldA (.tmp 3) w.heap.size 0 ⟨16, s, m, q, p, t, on⟩ ?_ RV.out ?_); rfl) | (go_at_call 21; refine (podsQ _ ⟨16, s, m, q, p, t, on⟩ HA.out JV.out HK.out (Or.inr (Or.inr rfl))).mono ?_; rintro e y1 ⟨rfl, X', D', j1, b1, k1⟩; have J1 := hid j1; have B1 := hid b1; have K1 : Hid (Kept (fun k => ¬ G k) w y1) := KV.out.trans k1 (fun _ f => f) (fun _ _ f => f); clear j1 b1 k1))
    go_ret
    exact ⟨rfl, X', D', J1.out, ⟨B1.out.1, by rw [B1.out.2.2]; omega⟩, K1.out⟩
set_option maxRecDepth 100000 in
set_option maxHeartbeats 2000000 in
theorem act18 (w : World) (s m q : Int) (p t : ByteArray) (on : Bool) (ha : AOk ⟨18, s, m, q, p, t, on⟩) (h : JQ w G b bx S R key X D D.pods) (k : Kn IsName n X D S R) (hn : n ≤ 1970000000000) (hs : D.seen.length ≤ 2050000000000) :
    Calls Tryd.prog 7 #[.pointer (some ⟨b, 0, none⟩), .agg #[.int .i64 18, .int .i64 s, .int .i64 m, .int .i64 q, .string p, .string t, .bool on]] w fun e w' => e = .returned (.bool true) ∧ ActPost n w w' G b bx S R key D := by
  have HJ := hid h
  have HK := hid k
  have HA := hid ha
  obtain ⟨_, s4, s1⟩ := k.srv
  have hd : D.deeds.length ≤ 2000000000000 := by have := k.floor.2.2; omega
  clear h k ha
  go_enter Tryd.func7, Tryd.ntmps7
  go_upto_region 1 with fail
  go_name_world W hW
  have LW : Hid (Low w.heap.size w W) := by
    show Low _ _ _
    rw [← hW]; exact (Low.refl _ w).alloc (Nat.le_refl _) _
  have BA : Hid (Blk W w.heap.size 32 (AAct.mk 18 s m q p t on).cells) := by
    show Blk W _ _ _
    rw [← hW]; exact Blk.new w 32 (AAct.mk 18 s m q p t on).cells
  have JW : Hid (JQ W G b bx S R key X D D.pods) := HJ.out.low LW.out
  have p1 : W.cell? ⟨w.heap.size, 1, none⟩ = some (.int .i64 s) := BA.out.cell 1
  have p0 : W.cell? ⟨w.heap.size, 0, none⟩ = some (.int .i64 18) := BA.out.cell 0
  have lA := BA.out.lt
  obtain ⟨c0, lb, c1⟩ := JW.out.ptr0
  have j0 := HA.out.s.1
  have j1 := HA.out.s.2
  clear hW
  go_cut [5] (fun sv wc => ∃ r : Nat, sv = .int .i64 (r : Int) ∧ Hid (r < S) ∧ wc = W.drew)
  case first =>
    go_region_held3 (fun W' => W'.cell? ⟨w.heap.size, 1, none⟩ = some (.int .i64 s) ∧ W'.cell? ⟨b, 1, none⟩ = some (.int .i64 (S : Int))) (first | assumption | go_keep)
      (first | (go_at_call 17; refine (pick_some s (S : Int) _ (by omega) (by omega) j0 j1).mono ?_; rintro e y3 ⟨sv, rfl, hsv, rfl⟩; have S3 : W.drew.cell? ⟨w.heap.size, 1, none⟩ = some (.int .i64 s) ∧ W.drew.cell? ⟨b, 1, none⟩ = some (.int .i64 (S : Int)) := ⟨p1, c1⟩))
    all_goals
      go_wp2_with fail
      go_meet
    all_goals exact ⟨sv, rfl, by show _ < _; omega, rfl⟩
  case rest =>
    obtain ⟨r, rfl, HRS, rfl⟩ := hcut
    have JV : Hid (JQ W.drew G b bx S R key X D D.pods) := JW.out.low (Low.refl _ W).drew
    have RV : Hid (W.drew.rangeAt w.heap.size 0 (AAct.mk 18 s m q p t on).cells) := BA.out.whole
    have KV : Hid (Kept (fun k => ¬ G k) w W.drew) := (LW.out.kept.mono (G := fun k => ¬ G k) (fun _ _ f => f.elim)).drew
    have lA2 := lA
    clear p1 c1 j0 j1
    go_wp2_with (go_at_call 22; refine (entriesQ _ JV.out HK.out hd (by omega)).mono ?_; rintro e y1 ⟨rfl, D', j1, b1, k1⟩; have J1 := hid j1; have B1 := hid b1; have K1 : Hid (Kept (fun k => ¬ G k) w y1) := KV.out.trans k1 (fun _ f => f) (fun _ _ f => f); clear j1 b1 k1)
    go_ret
    obtain ⟨hk1, l, e1, hl⟩ := B1.out
    have hne : X.entries.length ≤ 60 := by
      obtain ⟨Y, _, hr, _⟩ := HK.out
      have := hr.few
      have := hr.rooms
      omega
    have hp : D'.pods = D.pods := by rw [e1]
    refine ⟨rfl, X, D', by rw [hp]; exact J1.out, ⟨hk1.mono (by omega), ?_⟩, K1.out⟩
    rw [e1]
    show (D.seen ++ l).length ≤ _
    rw [List.length_append]
    omega
set_option maxRecDepth 100000 in
set_option maxHeartbeats 2000000 in
theorem act2 (w : World) (s m q : Int) (p t : ByteArray) (on : Bool) (ha : AOk ⟨2, s, m, q, p, t, on⟩) (h : JQ w G b bx S R key X D D.pods) (k : Kn IsName n X D S R) (hn : n ≤ 1970000000000) (_hs : D.seen.length ≤ 2050000000000) :
    Calls Tryd.prog 7 #[.pointer (some ⟨b, 0, none⟩), .agg #[.int .i64 2, .int .i64 s, .int .i64 m, .int .i64 q, .string p, .string t, .bool on]] w fun e w' => e = .returned (.bool true) ∧ ActPost n w w' G b bx S R key D := by
  have HJ := hid h
  have HK := hid k
  have HA := hid ha
  obtain ⟨_, s4, s1⟩ := k.srv
  have hd : D.deeds.length ≤ 2000000000000 := by have := k.floor.2.2; omega
  clear h k ha
  go_enter Tryd.func7, Tryd.ntmps7
  go_upto_region 1 with fail
  go_name_world W hW
  have LW : Hid (Low w.heap.size w W) := by
    show Low _ _ _
    rw [← hW]; exact (Low.refl _ w).alloc (Nat.le_refl _) _
  have BA : Hid (Blk W w.heap.size 32 (AAct.mk 2 s m q p t on).cells) := by
    show Blk W _ _ _
    rw [← hW]; exact Blk.new w 32 (AAct.mk 2 s m q p t on).cells
  have JW : Hid (JQ W G b bx S R key X D D.pods) := HJ.out.low LW.out
  have p1 : W.cell? ⟨w.heap.size, 1, none⟩ = some (.int .i64 s) := BA.out.cell 1
  have p0 : W.cell? ⟨w.heap.size, 0, none⟩ = some (.int .i64 2) := BA.out.cell 0
  have lA := BA.out.lt
  obtain ⟨c0, lb, c1⟩ := JW.out.ptr0
  have j0 := HA.out.s.1
  have j1 := HA.out.s.2
  clear hW
  go_cut [5] (fun sv wc => ∃ r : Nat, sv = .int .i64 (r : Int) ∧ Hid (r < S) ∧ wc = W.drew)
  case first =>
    go_region_held3 (fun W' => W'.cell? ⟨w.heap.size, 1, none⟩ = some (.int .i64 s) ∧ W'.cell? ⟨b, 1, none⟩ = some (.int .i64 (S : Int))) (first | assumption | go_keep)
      (first | (go_at_call 17; refine (pick_some s (S : Int) _ (by omega) (by omega) j0 j1).mono ?_; rintro e y3 ⟨sv, rfl, hsv, rfl⟩; have S3 : W.drew.cell? ⟨w.heap.size, 1, none⟩ = some (.int .i64 s) ∧ W.drew.cell? ⟨b, 1, none⟩ = some (.int .i64 (S : Int)) := ⟨p1, c1⟩))
    all_goals
      go_wp2_with fail
      go_meet
    all_goals exact ⟨sv, rfl, by show _ < _; omega, rfl⟩
  case rest =>
    obtain ⟨r, rfl, HRS, rfl⟩ := hcut
    have JV : Hid (JQ W.drew G b bx S R key X D D.pods) := JW.out.low (Low.refl _ W).drew
    have RV : Hid (W.drew.rangeAt w.heap.size 0 (AAct.mk 2 s m q p t on).cells) := BA.out.whole
    have KV : Hid (Kept (fun k => ¬ G k) w W.drew) := (LW.out.kept.mono (G := fun k => ¬ G k) (fun _ _ f => f.elim)).drew
    have lA2 := lA
    clear p1 c1 j0 j1
    have r4 : r < 4 := by have := HRS.out; omega
    have r4i : (r : Int) < 4 := by omega
    obtain ⟨hP, hk2⟩ := kn_crashX HK.out HRS.out
    have HP := hid hP
    have HK2 := hid hk2
    clear hP hk2
    go_upto_region 8 with (go_at_call 18; refine (JV.out.callX HP.out).mono ?_; rintro e y1 ⟨rfl, j1, k1⟩; have J1 := hid j1; have K1 : Hid (Kept (fun k => ¬ G k) w y1) := KV.out.trans k1 (fun _ f => f) (fun _ _ f => f); clear j1 k1)
    have HT : Hid (y1.there b (6 + r * 4) 4) := J1.out.there r4
    have lb1 : b < y1.heap.size := J1.out.ptr0.2.1
    clear c0 lb p0
    go_wp2_with ((with_reducible refine stU (.tmp 41) (.tmp 38) b (6 + r * 4) Und2.zero ?_ ?_ HT.out ?_); rfl; rfl)
    go_ret
    obtain ⟨r1, r2⟩ := J1.out.setOp r4 Und2.zero
    exact ⟨rfl, X.crash r, { D with ops := D.ops.set r Und2.zero }, r1, ⟨HK2.out.mono (by omega), by show D.seen.length ≤ _; omega⟩, K1.out.trans r2 (fun _ f => f) (fun _ _ f => f)⟩
set_option maxRecDepth 100000 in
set_option maxHeartbeats 2000000 in
theorem actOther (w : World) (kd s m q : Int) (p t : ByteArray) (on : Bool) (ha : AOk ⟨kd, s, m, q, p, t, on⟩) (h : JQ w G b bx S R key X D D.pods) (k : Kn IsName n X D S R) (hn : n ≤ 1970000000000) (_hs : D.seen.length ≤ 2050000000000) (hkd : kd < 1 ∨ kd = 13 ∨ kd = 17 ∨ 18 < kd) :
    Calls Tryd.prog 7 #[.pointer (some ⟨b, 0, none⟩), .agg #[.int .i64 kd, .int .i64 s, .int .i64 m, .int .i64 q, .string p, .string t, .bool on]] w fun e w' => e = .returned (.bool true) ∧ ActPost n w w' G b bx S R key D := by
  have HJ := hid h
  have HK := hid k
  have HA := hid ha
  obtain ⟨_, s4, s1⟩ := k.srv
  have hd : D.deeds.length ≤ 2000000000000 := by have := k.floor.2.2; omega
  have HKD := hid hkd
  clear h k ha hkd
  go_enter Tryd.func7, Tryd.ntmps7
  go_upto_region 1 with fail
  go_name_world W hW
  have LW : Hid (Low w.heap.size w W) := by
    show Low _ _ _
    rw [← hW]; exact (Low.refl _ w).alloc (Nat.le_refl _) _
  have BA : Hid (Blk W w.heap.size 32 (AAct.mk kd s m q p t on).cells) := by
    show Blk W _ _ _
    rw [← hW]; exact Blk.new w 32 (AAct.mk kd s m q p t on).cells
  have JW : Hid (JQ W G b bx S R key X D D.pods) := HJ.out.low LW.out
  have p1 : W.cell? ⟨w.heap.size, 1, none⟩ = some (.int .i64 s) := BA.out.cell 1
  have p0 : W.cell? ⟨w.heap.size, 0, none⟩ = some (.int .i64 kd) := BA.out.cell 0
  have lA := BA.out.lt
  obtain ⟨c0, lb, c1⟩ := JW.out.ptr0
  have j0 := HA.out.s.1
  have j1 := HA.out.s.2
  clear hW
  go_cut [5] (fun sv wc => ∃ r : Nat, sv = .int .i64 (r : Int) ∧ Hid (r < S) ∧ wc = W.drew)
  case first =>
    go_region_held3 (fun W' => W'.cell? ⟨w.heap.size, 1, none⟩ = some (.int .i64 s) ∧ W'.cell? ⟨b, 1, none⟩ = some (.int .i64 (S : Int))) (first | assumption | go_keep)
      (first | (go_at_call 17; refine (pick_some s (S : Int) _ (by omega) (by omega) j0 j1).mono ?_; rintro e y3 ⟨sv, rfl, hsv, rfl⟩; have S3 : W.drew.cell? ⟨w.heap.size, 1, none⟩ = some (.int .i64 s) ∧ W.drew.cell? ⟨b, 1, none⟩ = some (.int .i64 (S : Int)) := ⟨p1, c1⟩))
    all_goals
      go_wp2_with fail
      go_meet
    all_goals exact ⟨sv, rfl, by show _ < _; omega, rfl⟩
  case rest =>
    obtain ⟨r, rfl, HRS, rfl⟩ := hcut
    have JV : Hid (JQ W.drew G b bx S R key X D D.pods) := JW.out.low (Low.refl _ W).drew
    have RV : Hid (W.drew.rangeAt w.heap.size 0 (AAct.mk kd s m q p t on).cells) := BA.out.whole
    have KV : Hid (Kept (fun k => ¬ G k) w W.drew) := (LW.out.kept.mono (G := fun k => ¬ G k) (fun _ _ f => f.elim)).drew
    have lA2 := lA
    clear p1 c1 j0 j1
    have f1 : (kd == 1) = false := by have := HKD.out; rw [beq_eq_false_iff_ne]; omega
    have f2 : (kd == 2) = false := by have := HKD.out; rw [beq_eq_false_iff_ne]; omega
    have f3 : (kd == 3) = false := by have := HKD.out; rw [beq_eq_false_iff_ne]; omega
    have f4 : (kd == 4) = false := by have := HKD.out; rw [beq_eq_false_iff_ne]; omega
    have f5 : (kd == 5) = false := by have := HKD.out; rw [beq_eq_false_iff_ne]; omega
    have f6 : (kd == 6) = false := by have := HKD.out; rw [beq_eq_false_iff_ne]; omega
    have f7 : (kd == 7) = false := by have := HKD.out; rw [beq_eq_false_iff_ne]; omega
    have f8 : (kd == 8) = false := by have := HKD.out; rw [beq_eq_false_iff_ne]; omega
    have f9 : (kd == 9) = false := by have := HKD.out; rw [beq_eq_false_iff_ne]; omega
    have f10 : (kd == 10) = false := by have := HKD.out; rw [beq_eq_false_iff_ne]; omega
    have f11 : (kd == 11) = false := by have := HKD.out; rw [beq_eq_false_iff_ne]; omega
    have f12 : (kd == 12) = false := by have := HKD.out; rw [beq_eq_false_iff_ne]; omega
    have f14 : (kd == 14) = false := by have := HKD.out; rw [beq_eq_false_iff_ne]; omega
    have f15 : (kd == 15) = false := by have := HKD.out; rw [beq_eq_false_iff_ne]; omega
    have f16 : (kd == 16) = false := by have := HKD.out; rw [beq_eq_false_iff_ne]; omega
    have f18 : (kd == 18) = false := by have := HKD.out; rw [beq_eq_false_iff_ne]; omega
    go_wp2_with fail
    go_ret
    exact ⟨rfl, X, D, JV.out, ⟨HK.out.mono (by omega), by omega⟩, KV.out⟩
/-- Every act. -/
theorem actQ (w : World) (a : AAct) (ha : AOk a) (h : JQ w G b bx S R key X D D.pods) (k : Kn IsName n X D S R) (hn : n ≤ 1970000000000) (hs : D.seen.length ≤ 2050000000000) :
    Calls Tryd.prog 7 #[.pointer (some ⟨b, 0, none⟩), .agg #[.int .i64 a.kind, .int .i64 a.s, .int .i64 a.n, .int .i64 a.k, .string a.path, .string a.text, .bool a.on]] w fun e w' => e = .returned (.bool true) ∧ ActPost n w w' G b bx S R key D := by
  obtain ⟨kd, s, m, q, p, t, on⟩ := a
  by_cases hkd : kd < 1 ∨ kd = 13 ∨ kd = 17 ∨ 18 < kd
  · exact actOther w kd s m q p t on ha h k hn hs hkd
  · have : kd = 1 ∨ kd = 2 ∨ kd = 3 ∨ kd = 4 ∨ kd = 5 ∨ kd = 6 ∨ kd = 7 ∨ kd = 8 ∨ kd = 9 ∨ kd = 10 ∨ kd = 11 ∨ kd = 12 ∨ kd = 14 ∨ kd = 15 ∨ kd = 16 ∨ kd = 18 := by omega
    rcases this with rfl | rfl | rfl | rfl | rfl | rfl | rfl | rfl | rfl | rfl | rfl | rfl | rfl | rfl | rfl | rfl
    · exact act1 w s m q p t on ha h k hn hs
    · exact act2 w s m q p t on ha h k hn hs
    · exact act3 w s m q p t on ha h k hn hs
    · exact act4 w s m q p t on ha h k hn hs
    · exact act5 w s m q p t on ha h k hn hs
    · exact act6 w s m q p t on ha h k hn hs
    · exact act7 w s m q p t on ha h k hn hs
    · exact act8 w s m q p t on ha h k hn hs
    · exact act9 w s m q p t on ha h k hn hs
    · exact act10 w s m q p t on ha h k hn hs
    · exact act11 w s m q p t on ha h k hn hs
    · exact act12 w s m q p t on ha h k hn hs
    · exact act14 w s m q p t on ha h k hn hs
    · exact act15 w s m q p t on ha h k hn hs
    · exact act16 w s m q p t on ha h k hn hs
    · exact act18 w s m q p t on ha h k hn hs
end Go.Proofs.YtphapknfkbgapabDoor
