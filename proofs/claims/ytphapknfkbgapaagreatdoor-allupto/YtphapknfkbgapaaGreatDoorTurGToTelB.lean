import Derived.Test.YtphapknfkbgapaaGreatDoorTelAToTurF
import Derived.Test.YtphapknfkbgapaaGreatDoorRelBToRelD
namespace Go.Proofs.YtphapknfkbgapaaGreatDoor
open Go.RowKit

variable {F : Nat → Prop} {b : Nat} {Y : RS}

/-! Migrate. -/
structure DueOk (d : Due) : Prop where
  name : 1 ≤ d.name.size ∧ d.name.size ≤ 16
  text : d.text.size ≤ 64
theorem opened_size {K : RKey} {e : Ent} {s : Int} (h : EntOk e) : (openedOf K e s).1.size ≤ 64 := by
  unfold openedOf
  split
  · simp [ByteArray.size]
  · split
    · simp [ByteArray.size]
    · split
      · show (maskOf _ _ _).size ≤ 64
        rw [maskOf_size]
        have := h.sealed
        unfold coverOf
        rw [ByteArray.size_extract]
        omega
      · simp [ByteArray.size]
theorem due_ok (h : KeysOk Y) : (dueOf Y).found = true → DueOk (dueOf Y) := by
  unfold dueOf
  have : ∀ (l : List Ent) (d : Due), (∀ x ∈ l, x ∈ keptOf Y.all) → (d.found = true → DueOk d) → ((l.foldl (dueStep Y (writesOf Y.keys Y.epoch)) d).found = true → DueOk (l.foldl (dueStep Y (writesOf Y.keys Y.epoch)) d)) := by
    intro l
    induction l with
    | nil => intro d _ hd; exact hd
    | cons x r ih =>
      intro d hx hd
      refine ih _ (fun y hy => hx y (List.mem_cons_of_mem _ hy)) ?_
      obtain ⟨k, hk, hlast⟩ := last_some (hx x List.mem_cons_self)
      unfold dueStep
      rw [hlast]
      simp only [Option.getD_some]
      split
      · exact hd
      · rename_i hg
        have hgone : k.e.gone = false := by
          cases hq : k.e.gone
          · rfl
          · simp [hq] at hg
        obtain ⟨hok, _⟩ := h k hk hgone
        unfold dueNew
        split
        · exact fun _ => ⟨hok.path, opened_size hok⟩
        · exact hd
  exact this _ _ (fun x hx => hx) (fun h => by cases h)
def moveEnt (Y : RS) (K : RKey) (m : Int) : Ent := { closedOf K.text m (dueOf Y).name (dueOf Y).text (Y.draws + 1) with rev := (Y.all.length : Int) + 1 }
def RS.move (Y : RS) (K : RKey) (m : Int) : RS := { Y with draws := Y.draws + 1, all := Y.all ++ [⟨moveEnt Y K m, false⟩] }
/-- What n moves leave; how many were made; the answer. -/
def moves (K : RKey) (m : Int) : Nat → RS → RS × Nat × Int
  | 0, Y => (Y, 0, 0)
  | n + 1, Y => if (dueOf Y).found then (if fullOf Y then (Y, 0, 11) else ((moves K m n (Y.move K m)).1, (moves K m n (Y.move K m)).2.1 + 1, (moves K m n (Y.move K m)).2.2)) else (Y, 0, 0)
theorem move_ok {K : RKey} {j : Nat} (h : KeysOk Y) (hK : Y.keys[j]? = some K) (hT : K.text.size = 48) (hf : (dueOf Y).found = true) (hd : 0 ≤ Y.draws ∧ Y.draws + 1 ≤ 1000000000000) : KeysOk (Y.move K ((j : Int) + 1)) := by
  intro k hk hg
  rcases List.mem_append.1 hk with hk | hk
  · exact h k hk hg
  · obtain rfl := List.mem_singleton.1 hk
    have hD := due_ok h hf
    refine ⟨⟨hD.name, ?_, ?_⟩, j, K, rfl, hK, hT⟩
    · show 0 ≤ Y.draws + 1 ∧ Y.draws + 1 ≤ 1000000000000
      omega
    · show 8 ≤ (sealOf K.text (nonceTo (Y.draws + 1) 12) (dueOf Y).name (dueOf Y).text).size ∧ (sealOf K.text (nonceTo (Y.draws + 1) 12) (dueOf Y).name (dueOf Y).text).size ≤ 72
      rw [sealOf_size]
      have := hD.text
      omega
def badMove (n : Int) : Bool := decide (n < 0) || decide (20 < n)
theorem Migrate_arg (w : World) (n : Int) (hn : badMove n = true) :
    Calls Tryz.prog 44 #[.pointer (some ⟨b, 0, none⟩), .int .i64 n] w fun e w' => e = .returned (.tuple #[.int .i64 0, .int .i64 2]) ∧ w' = w := by
  unfold badMove at hn
  cases q : decide (n < 0)
  · rw [q, Bool.false_or] at hn
    go_enter Tryz.func44, Tryz.ntmps44
    go_wp2
    go_ret2
    exact ⟨rfl, rfl⟩
  · clear hn
    go_enter Tryz.func44, Tryz.ntmps44
    go_wp2
    go_ret2
    exact ⟨rfl, rfl⟩
theorem Migrate_turn (w : World) (n : Int) (h : RIn w F b Y) (hn : badMove n = false) (hg : goingOf Y = false) :
    Calls Tryz.prog 44 #[.pointer (some ⟨b, 0, none⟩), .int .i64 n] w fun e w' => e = .returned (.tuple #[.int .i64 0, .int .i64 17]) ∧ w' = w := by
  unfold badMove at hn
  rw [Bool.or_eq_false_iff] at hn
  obtain ⟨q1, q2⟩ := hn
  have HR := hid h
  have HG := hid hg
  clear h hg
  go_enter Tryz.func44, Tryz.ntmps44
  go_wp2_with (go_at_call 88; refine (going_any _ HR.out).mono ?_; rw [HG.out]; rintro e y1 ⟨rfl, hy⟩; obtain rfl := hy.symm)
  go_ret2
  exact ⟨rfl, rfl⟩
/-- How far the moves have come: i of n are made, Z is what they left. -/
structure MigSt (Y Z : RS) (K : RKey) (m : Int) (n i : Nat) : Prop where
  keys : Z.keys = Y.keys
  epoch : Z.epoch = Y.epoch
  all : Z.all.length ≤ 50000000 + i
  ok : KeysOk Z
  draws : 0 ≤ Z.draws ∧ Z.draws ≤ 100000000 + (i : Int)
  res : moves K m n Y = ((moves K m (n - i) Z).1, (moves K m (n - i) Z).2.1 + i, (moves K m (n - i) Z).2.2)
theorem MigSt.stop {Z : RS} {K : RKey} {m : Int} {n i : Nat} (h : MigSt Y Z K m n i) (hi : i < n) (hf : (dueOf Z).found = false) : moves K m n Y = (Z, i, 0) := by
  obtain ⟨t, ht⟩ : ∃ t, n - i = t + 1 := ⟨n - i - 1, by omega⟩
  rw [h.res, ht]
  unfold moves
  simp [hf]
theorem MigSt.full {Z : RS} {K : RKey} {m : Int} {n i : Nat} (h : MigSt Y Z K m n i) (hi : i < n) (hf : (dueOf Z).found = true) (hu : fullOf Z = true) : moves K m n Y = (Z, i, 11) := by
  obtain ⟨t, ht⟩ : ∃ t, n - i = t + 1 := ⟨n - i - 1, by omega⟩
  rw [h.res, ht]
  unfold moves
  simp [hf, hu]
theorem MigSt.done {Z : RS} {K : RKey} {m : Int} {n i : Nat} (h : MigSt Y Z K m n i) (hi : i = n) : moves K m n Y = (Z, i, 0) := by
  rw [h.res, show n - i = 0 by omega]
  simp [moves]
theorem MigSt.step {Z : RS} {K : RKey} {j n i : Nat} (h : MigSt Y Z K ((j : Int) + 1) n i) (hi : i < n) (hn : n ≤ 20) (hf : (dueOf Z).found = true) (hu : fullOf Z = false) (hK : Y.keys[j]? = some K) (hT : K.text.size = 48) : MigSt Y (Z.move K ((j : Int) + 1)) K ((j : Int) + 1) n (i + 1) := by
  have hd := h.draws
  refine ⟨h.keys, h.epoch, ?_, move_ok h.ok (by rw [h.keys]; exact hK) hT hf ⟨hd.1, by omega⟩, ?_, ?_⟩
  · show (Z.all ++ [_]).length ≤ _
    have := h.all
    simp
    omega
  · show 0 ≤ Z.draws + 1 ∧ Z.draws + 1 ≤ 100000000 + ((i + 1 : Nat) : Int)
    omega
  · obtain ⟨t, ht⟩ : ∃ t, n - i = t + 1 := ⟨n - i - 1, by omega⟩
    rw [h.res, ht, show n - (i + 1) = t by omega]
    conv => lhs; unfold moves
    simp only [hf, hu, if_true, Bool.false_eq_true, if_false]
    rw [show (moves K ((j : Int) + 1) t (Z.move K ((j : Int) + 1))).2.1 + 1 + i = (moves K ((j : Int) + 1) t (Z.move K ((j : Int) + 1))).2.1 + (i + 1) by omega]
set_option maxRecDepth 100000 in
set_option maxHeartbeats 2000000 in
theorem Migrate_any (w : World) (n : Nat) (K : RKey) (j : Nat) (h : RIn w F b Y) (hn : n ≤ 20) (hg : goingOf Y = true) (hk : Y.keys.length ≤ 6) (ha : Y.all.length ≤ 50000000) (hE : KeysOk Y) (hK : Y.keys[j]? = some K) (hT : K.text.size = 48) (hw : writesOf Y.keys Y.epoch = (j : Int) + 1) (hd : 0 ≤ Y.draws ∧ Y.draws ≤ 100000000) :
    Calls Tryz.prog 44 #[.pointer (some ⟨b, 0, none⟩), .int .i64 (n : Int)] w fun e w' => e = .returned (.tuple #[.int .i64 ((moves K ((j : Int) + 1) n Y).2.1 : Int), .int .i64 (moves K ((j : Int) + 1) n Y).2.2]) ∧ ∃ F', RIn w' F' b (moves K ((j : Int) + 1) n Y).1 ∧ Kept F w w' ∧ ∀ k, F' k → F k ∨ w.heap.size ≤ k := by
  have HR := hid h
  have HG := hid hg
  have HK := hid hK
  have HT := hid hT
  have HW := hid hw
  have hj6 : j ≤ 6 := by have := (List.getElem?_eq_some_iff.1 hK).1; omega
  have M0 : Hid (MigSt Y Y K ((j : Int) + 1) n 0) := ⟨rfl, rfl, by omega, hE, ⟨hd.1, by have := hd.2; omega⟩, rfl⟩
  have q1 : decide ((n : Int) < 0) = false := by simp
  have q2 : decide ((20 : Int) < (n : Int)) = false := by simp; omega
  clear h hg hK hT hw hE ha hd
  go_enter Tryz.func44, Tryz.ntmps44
  go_wp2_with (go_at_call 88; refine (going_any _ HR.out).mono ?_; rw [HG.out]; rintro e y1 ⟨rfl, hy⟩; obtain rfl := hy.symm)
  go_loopg [7] n (fun left iv wr => ∃ i : Nat, left = n - i ∧ i ≤ n ∧ iv = .int .i64 (i : Int) ∧ Hid (∃ Z F', MigSt Y Z K ((j : Int) + 1) n i ∧ RIn wr F' b Z ∧ Kept F w wr ∧ ∀ k, F' k → F k ∨ w.heap.size ≤ k))
  case atStart => exact ⟨0, rfl, Nat.zero_le _, rfl, Y, F, M0.out, HR.out, Kept.refl _ _, fun _ f => Or.inl f⟩
  case round =>
    obtain ⟨i, hgk, hi, rfl, HI⟩ := hrel
    have HGK := hid hgk
    clear hgk
    obtain ⟨Z, F', hM, hR, hKp, hF⟩ := HI.out
    have MZ := hid hM
    have RZ := hid hR
    have KZ := hid hKp
    have FZ := hid hF
    have hzk : Z.keys.length ≤ 6 := by rw [hM.keys]; exact hk
    have hza : Z.all.length ≤ 100000000 := by have := hM.all; omega
    clear hM hR hKp hF HI
    by_cases h3 : i < n
    · have q3 : decide ((i : Int) < (n : Int)) = true := by simp; omega
      obtain ⟨d, hd⟩ : ∃ d, d = dueOf Z := ⟨_, rfl⟩
      have HD := hid hd
      clear hd
      cases qf : d.found
      · have qf2 : Hid ((dueOf Z).found = false) := by show _ = _; rw [← HD.out]; exact qf
        go_wp2_with (go_at_call 89; refine (due_any (Y := Z) _ RZ.out hzk hza MZ.out.ok).mono ?_; rw [← HD.out, qf]; rintro e y1 ⟨rfl, l1⟩; have L1 := hid l1; clear l1)
        go_ret2
        rw [MZ.out.stop h3 qf2.out]
        exact ⟨rfl, F', RZ.out.low L1.out, KZ.out.trans L1.out.kept (fun _ f => f) (fun _ _ f => f.elim), FZ.out⟩
      · have qf2 : Hid ((dueOf Z).found = true) := by show _ = _; rw [← HD.out]; exact qf
        obtain ⟨fu, hfu⟩ : ∃ fu, fu = fullOf Z := ⟨_, rfl⟩
        have HFU := hid hfu
        clear hfu
        cases qu : fu
        · have qu2 : Hid (fullOf Z = false) := by show _ = _; rw [← HFU.out]; exact qu
          have hDO : Hid (DueOk d) := by show DueOk d; rw [HD.out]; exact due_ok MZ.out.ok qf2.out
          obtain ⟨E, hE⟩ : ∃ E, E = closedOf K.text ((j : Int) + 1) d.name d.text (Z.draws + 1) := ⟨_, rfl⟩
          have HEQ := hid hE
          have HZK : Hid (Z.keys[j]? = some K) := by show _ = _; rw [MZ.out.keys]; exact HK.out
          have HZW : Hid (writesOf Z.keys Z.epoch = (j : Int) + 1) := by show _ = _; rw [MZ.out.keys, MZ.out.epoch]; exact HW.out
          have HDR : Hid (0 ≤ Z.draws ∧ Z.draws + 1 ≤ 1000000000000) := by have := MZ.out.draws; exact ⟨this.1, by omega⟩
          clear hE
          go_upto_region 13 with (first | (go_at_call 89; refine (due_any (Y := Z) _ RZ.out hzk hza MZ.out.ok).mono ?_; rw [← HD.out, qf]; rintro e y1 ⟨rfl, l1⟩; have L1 := hid l1; clear l1) | (go_at_call 71; refine (full_any (Y := Z) _ (by exact RZ.out.low L1.out) hza).mono ?_; rw [← HFU.out, qu]; rintro e y2 ⟨rfl, l2⟩; have L2 : Hid (Low wr.heap.size wr y2) := L1.out.trans (l2.mono L1.out.size); clear l2))
          have R2 : Hid (RIn y2 F' b Z) := RZ.out.low L2.out
          have c7 := R2.out.epoch
          go_upto_region 15 with (first | (go_at_call 65; refine (writes_any (Y := Z) _ _ R2.out hzk).mono ?_; rw [HZW.out]; rintro e y3 ⟨rfl, hy⟩; obtain rfl := hy.symm) | (go_at_call 66; refine (closed_any (Y := Z) _ _ d.name d.text K j R2.out HZK.out rfl hj6 HT.out hDO.out.name hDO.out.text HDR.out).mono ?_; rw [← HEQ.out]; rintro e y3 ⟨rfl, r3, k3⟩; have R3 := hid r3; have K3 := hid k3; clear r3 k3) | ((with_reducible refine st50 (.tmp 13) (.tmp 49) y3.heap.size Ent.zero E ?_ ?_ ?_ ?_); rfl; rfl; exact (Blk.new y3 50 Ent.zero.cells); intro W b4 k4 s4; have B4 := hid b4; have LW : Hid (Low y3.heap.size y3 W) := low_set ((Low.refl _ y3).alloc (Nat.le_refl _) _) k4 (Nat.le_refl _) (by simp); clear b4 k4 s4))
          clear c7
          go_wp2_with (first | ((with_reducible refine ld50 (.tmp 13) y3.heap.size 0 E ?_ B4.out.whole ?_); rfl) | (go_at_call 72; refine (put_any (Y := { Z with draws := Z.draws + 1 }) _ E (by exact R3.out.low LW.out) hza).mono ?_; rintro e y5 ⟨rfl, r5, k5⟩; have R5 := hid r5; have K5 := hid k5; clear r5 k5))
          go_roundg (n - (i + 1))
          case rel =>
            have hz : ({ Z with draws := Z.draws + 1, all := Z.all ++ [⟨{ E with rev := (Z.all.length : Int) + 1 }, false⟩] } : RS) = Z.move K ((j : Int) + 1) := by
              rw [HEQ.out, HD.out]; rfl
            refine ⟨i + 1, rfl, by omega, by simp, Z.move K ((j : Int) + 1), grow F' W y5, MZ.out.step h3 hn qf2.out qu2.out HK.out HT.out, ?_, ?_, ?_⟩
            · rw [← hz]; exact R5.out
            · have a1 : Kept F w y2 := KZ.out.trans L2.out.kept (fun _ f => f) (fun _ _ f => f.elim)
              have a2 : Kept F w y3 := a1.trans K3.out (fun _ f => f) (fun k hk f => (FZ.out k f).elim id (fun e => by omega))
              have a3 : Kept F w W := a2.trans LW.out.kept (fun _ f => f) (fun _ _ f => f.elim)
              exact a3.trans K5.out (fun _ f => f) (fun k hk f => (FZ.out k f).elim id (fun e => by omega))
            · intro k hk
              rcases hk with hk | hk
              · exact FZ.out k hk
              · have b1 := KZ.out.size
                have b2 := L2.out.size
                have b3 := K3.out.size
                have b4 := LW.out.size
                exact Or.inr (by omega)
          case measure => have := HGK.out; omega
        · have qu2 : Hid (fullOf Z = true) := by show _ = _; rw [← HFU.out]; exact qu
          go_wp2_with (first | (go_at_call 89; refine (due_any (Y := Z) _ RZ.out hzk hza MZ.out.ok).mono ?_; rw [← HD.out, qf]; rintro e y1 ⟨rfl, l1⟩; have L1 := hid l1; clear l1) | (go_at_call 71; refine (full_any (Y := Z) _ (by exact RZ.out.low L1.out) hza).mono ?_; rw [← HFU.out, qu]; rintro e y2 ⟨rfl, l2⟩; have L2 : Hid (Low wr.heap.size wr y2) := L1.out.trans (l2.mono L1.out.size); clear l2))
          go_ret2
          rw [MZ.out.full h3 qf2.out qu2.out]
          exact ⟨rfl, F', RZ.out.low L2.out, KZ.out.trans L2.out.kept (fun _ f => f) (fun _ _ f => f.elim), FZ.out⟩
    · have q3 : decide ((i : Int) < (n : Int)) = false := by simp; omega
      go_wp2_with fail
      go_ret2
      rw [MZ.out.done (by omega)]
      exact ⟨rfl, F', RZ.out, KZ.out, FZ.out⟩
end Go.Proofs.YtphapknfkbgapaaGreatDoor
namespace Go.Proofs.YtphapknfkbgapaaGreatDoor
open Go.RowKit

variable {F : Nat → Prop} {b : Nat} {Y : RS}

/-! Plant. -/
theorem RIn.allCell {w : World} (h : RIn w F b Y) (r : Nat) (k : RKept) (hk : Y.all[r]? = some k) : ∃ g cap, w.cell? ⟨b, 3, none⟩ = some (.slice (some ⟨g, 0, none⟩) Y.all.length cap) ∧ g < w.heap.size ∧ w.cell? ⟨g, r * 7 + 6, none⟩ = some (.bool k.out) ∧ w.cell? ⟨g, r * 7 + 5, none⟩ = some (.bool k.e.gone) ∧ w.rangeAt g (r * 7) k.e.cells := by
  obtain ⟨a, cap, hc, hel⟩ := h.all
  rw [List.length_map] at hc
  obtain ⟨g, rfl, hg, hcs, _⟩ := hel r k.cells (by rw [List.getElem?_map, hk]; rfl)
  exact ⟨g, cap, hc, hg, hcs 6 (by omega), hcs 5 (by omega), RKept.entry hcs⟩
theorem Plant_op (w : World) (name : ByteArray) (rev : Int) (hp : name.size ≤ maxLen) (hq : isPath name = false) :
    Calls Tryz.prog 50 #[.pointer (some ⟨b, 0, none⟩), .string name, .int .i64 rev] w fun e w' => e = .returned (.int .i64 7) ∧ w' = w := by
  have HP := hid hp
  have HQ := hid hq
  clear hp hq
  go_enter Tryz.func50, Tryz.ntmps50
  go_wp2_with (go_at_call 95; refine (path_any _ _ HP.out).mono ?_; rw [HQ.out]; rintro e y1 ⟨rfl, hy⟩; obtain rfl := hy.symm)
  go_ret
  exact ⟨rfl, rfl⟩
def outRev (Y : RS) (rev : Int) : Bool := decide (rev < 1) || decide ((Y.all.length : Int) < rev)
theorem Plant_rev (w : World) (name : ByteArray) (rev : Int) (h : RIn w F b Y) (hp : name.size ≤ maxLen) (hq : isPath name = true) (hr : outRev Y rev = true) :
    Calls Tryz.prog 50 #[.pointer (some ⟨b, 0, none⟩), .string name, .int .i64 rev] w fun e w' => e = .returned (.int .i64 12) ∧ w' = w := by
  obtain ⟨a, cap, hc, _⟩ := h.all
  rw [List.length_map] at hc
  unfold outRev at hr
  have HP := hid hp
  have HQ := hid hq
  clear hp hq h
  cases q : decide (rev < 1)
  · rw [q, Bool.false_or] at hr
    go_enter Tryz.func50, Tryz.ntmps50
    go_wp2_with (go_at_call 95; refine (path_any _ _ HP.out).mono ?_; rw [HQ.out]; rintro e y1 ⟨rfl, hy⟩; obtain rfl := hy.symm)
    go_ret
    exact ⟨rfl, rfl⟩
  · clear hr
    go_enter Tryz.func50, Tryz.ntmps50
    go_wp2_with (go_at_call 95; refine (path_any _ _ HP.out).mono ?_; rw [HQ.out]; rintro e y1 ⟨rfl, hy⟩; obtain rfl := hy.symm)
    go_ret
    exact ⟨rfl, rfl⟩
set_option maxRecDepth 100000 in
set_option maxHeartbeats 1000000 in
theorem Plant_none (w : World) (name : ByteArray) (r : Nat) (k : RKept) (h : RIn w F b Y) (hn : Y.all.length ≤ 100000000) (hp : name.size ≤ maxLen) (hq : isPath name = true) (hk : Y.all[r]? = some k) (ho : (k.out || k.e.gone) = true) :
    Calls Tryz.prog 50 #[.pointer (some ⟨b, 0, none⟩), .string name, .int .i64 ((r : Int) + 1)] w fun e w' => e = .returned (.int .i64 12) ∧ w' = w := by
  obtain ⟨g, cap, hc, hg, c6, c5, _⟩ := h.allCell r k hk
  have hl : r < Y.all.length := (List.getElem?_eq_some_iff.1 hk).1
  have q1 : decide ((r : Int) + 1 < 1) = false := by simp; omega
  have q2 : decide ((Y.all.length : Int) < (r : Int) + 1) = false := by simp; omega
  have rl : (r : Int) < (Y.all.length : Int) := by omega
  have HP := hid hp
  have HQ := hid hq
  clear hp hq h hk
  cases qo : k.out
  · rw [qo, Bool.false_or] at ho
    rw [qo] at c6
    rw [ho] at c5
    clear ho
    go_enter Tryz.func50, Tryz.ntmps50
    go_wp2_with (go_at_call 95; refine (path_any _ _ HP.out).mono ?_; rw [HQ.out]; rintro e y1 ⟨rfl, hy⟩; obtain rfl := hy.symm)
    go_ret
    exact ⟨rfl, rfl⟩
  · rw [qo] at c6
    clear ho
    go_enter Tryz.func50, Tryz.ntmps50
    go_wp2_with (go_at_call 95; refine (path_any _ _ HP.out).mono ?_; rw [HQ.out]; rintro e y1 ⟨rfl, hy⟩; obtain rfl := hy.symm)
    go_ret
    exact ⟨rfl, rfl⟩
def RS.plant (Y : RS) (name : ByteArray) (k : RKept) : RS := { Y with all := Y.all ++ [⟨{ k.e with path := name, rev := (Y.all.length : Int) + 1 }, false⟩], turn := if Y.turn == 3 then 2 else Y.turn }
set_option maxRecDepth 100000 in
set_option maxHeartbeats 1000000 in
theorem Plant_full (w : World) (name : ByteArray) (r : Nat) (k : RKept) (h : RIn w F b Y) (hn : Y.all.length ≤ 100000000) (hp : name.size ≤ maxLen) (hq : isPath name = true) (hk : Y.all[r]? = some k) (ho : k.out = false) (hgo : k.e.gone = false) (hf : fullOf Y = true) :
    Calls Tryz.prog 50 #[.pointer (some ⟨b, 0, none⟩), .string name, .int .i64 ((r : Int) + 1)] w fun e w' => e = .returned (.int .i64 11) ∧ Low w.heap.size w w' := by
  obtain ⟨g, cap, hc, hg, c6, c5, _⟩ := h.allCell r k hk
  have hl : r < Y.all.length := (List.getElem?_eq_some_iff.1 hk).1
  have q1 : decide ((r : Int) + 1 < 1) = false := by simp; omega
  have q2 : decide ((Y.all.length : Int) < (r : Int) + 1) = false := by simp; omega
  have rl : (r : Int) < (Y.all.length : Int) := by omega
  have HR := hid h
  have HP := hid hp
  have HQ := hid hq
  have HFU := hid hf
  rw [ho] at c6
  rw [hgo] at c5
  clear hp hq h hk ho hgo hf
  go_enter Tryz.func50, Tryz.ntmps50
  go_wp2_with (first | (go_at_call 95; refine (path_any _ _ HP.out).mono ?_; rw [HQ.out]; rintro e y1 ⟨rfl, hy⟩; obtain rfl := hy.symm) | (go_at_call 71; refine (full_any _ HR.out hn).mono ?_; rw [HFU.out]; rintro e y2 ⟨rfl, l2⟩; have L2 := hid l2; clear l2))
  go_ret
  exact ⟨rfl, L2.out⟩
set_option maxRecDepth 100000 in
set_option maxHeartbeats 1000000 in
theorem Plant_yes (w : World) (name : ByteArray) (r : Nat) (k : RKept) (h : RIn w F b Y) (hn : Y.all.length ≤ 50000000) (hp : name.size ≤ maxLen) (hq : isPath name = true) (hk : Y.all[r]? = some k) (ho : k.out = false) (hgo : k.e.gone = false) (hf : fullOf Y = false) :
    Calls Tryz.prog 50 #[.pointer (some ⟨b, 0, none⟩), .string name, .int .i64 ((r : Int) + 1)] w fun e w' => e = .returned (.int .i64 0) ∧ ∃ F', RIn w' F' b (Y.plant name k) ∧ Kept F w w' ∧ ∀ q, F' q → F q ∨ w.heap.size ≤ q := by
  obtain ⟨g, cap, hc, hg, c6, c5, _⟩ := h.allCell r k hk
  have hl : r < Y.all.length := (List.getElem?_eq_some_iff.1 hk).1
  have q1 : decide ((r : Int) + 1 < 1) = false := by simp; omega
  have q2 : decide ((Y.all.length : Int) < (r : Int) + 1) = false := by simp; omega
  have rl : (r : Int) < (Y.all.length : Int) := by omega
  have HR := hid h
  have HP := hid hp
  have HQ := hid hq
  have HFU := hid hf
  have HK := hid hk
  rw [ho] at c6
  rw [hgo] at c5
  clear hp hq h hk ho hgo hf
  go_enter Tryz.func50, Tryz.ntmps50
  go_upto_region 9 with (first | (go_at_call 95; refine (path_any _ _ HP.out).mono ?_; rw [HQ.out]; rintro e y1 ⟨rfl, hy⟩; obtain rfl := hy.symm) | (go_at_call 71; refine (full_any _ HR.out (by omega)).mono ?_; rw [HFU.out]; rintro e y2 ⟨rfl, l2⟩; have L2 := hid l2; clear l2))
  have R2 : Hid (RIn y2 F b Y) := HR.out.low L2.out
  clear hc hg c6 c5
  obtain ⟨g, cap, hc, hg, _, _, hrg⟩ := R2.out.allCell r k HK.out
  have HRG : Hid (y2.rangeAt g (r * 7) k.e.cells) := hrg
  clear hrg
  go_upto_region 10 with (first | ((with_reducible refine ld50 (.tmp 58) g (r * 7) k.e ?_ HRG.out ?_); rfl) | ((with_reducible refine st50 (.tmp 9) (.tmp 59) y2.heap.size Ent.zero k.e ?_ ?_ ?_ ?_); rfl; rfl; exact (Blk.new y2 50 Ent.zero.cells); intro W b4 k4 s4; have B4 := hid b4; have LW : Hid (Low y2.heap.size y2 W) := low_set ((Low.refl _ y2).alloc (Nat.le_refl _) _) k4 (Nat.le_refl _) (by simp); clear b4 k4 s4))
  have m0 : W.cell? ⟨y2.heap.size, 0, none⟩ = some (.string k.e.path) := B4.out.cell 0
  have f0 := B4.out.frozen 0
  have lM := B4.out.lt
  clear hc hg HRG
  go_upto_region 11 with fail
  go_name_world V hV
  obtain ⟨E, hE⟩ : ∃ E : Ent, E = { k.e with path := name } := ⟨_, rfl⟩
  have BV : Hid (Blk V y2.heap.size 50 E.cells) := by
    show Blk V _ _ _
    rw [← hV, hE]; exact B4.out.set 0 (.string name)
  have LV : Hid (Low y2.heap.size y2 V) := by
    show Low _ _ _
    rw [← hV]; exact LW.out.setCell (Nat.le_refl _) _
  have RV : Hid (RIn V F b Y) := R2.out.low LV.out
  have HEQ := hid hE
  clear hV hE m0 f0 lM
  go_upto_region 12 with (first | ((with_reducible refine ld50 (.tmp 9) y2.heap.size 0 E ?_ BV.out.whole ?_); rfl) | (go_at_call 72; refine (put_any _ E RV.out (by omega)).mono ?_; rintro e y5 ⟨rfl, r5, k5⟩; have R5 := hid r5; have K5 := hid k5; clear r5 k5))
  have KF : Hid (Kept F w y5) := (L2.out.kept.trans LV.out.kept (H := F) (fun _ f => f.elim) (fun _ _ f => f.elim)).trans K5.out (fun _ f => f) (fun _ _ f => f)
  have HFF : Hid (∀ q, grow F V y5 q → F q ∨ w.heap.size ≤ q) := fun q hq => hq.imp id (fun e => by have := L2.out.size; have := LV.out.size; omega)
  have c10 : y5.cell? ⟨b, 10, none⟩ = some (.int .i64 Y.turn) := R5.out.turn
  have f10 := R5.out.frozen 10
  have lb := R5.out.lt
  cases qt : (Y.turn == 3)
  · go_wp2_with fail
    go_ret
    refine ⟨rfl, _, ?_, KF.out, HFF.out⟩
    unfold RS.plant
    rw [qt]
    have := R5.out
    rw [HEQ.out] at this
    exact this
  · go_wp2_with fail
    go_ret
    refine ⟨rfl, grow F V y5, ?_, KF.out.trans ((setCell_kept y5 ⟨b, 10, none⟩ _).mono (G := F) (fun q _ e => by rw [show q = b from e]; exact HR.out.inF)) (fun _ f => f) (fun _ _ f => f), HFF.out⟩
    unfold RS.plant
    rw [qt]
    have := rin_setTurn R5.out 2
    rw [HEQ.out] at this
    exact this
end Go.Proofs.YtphapknfkbgapaaGreatDoor
namespace Go.Proofs.YtphapknfkbgapaaGreatDoor
open Go.RowKit

variable {F : Nat → Prop} {b : Nat} {Y : RS}

/-! Place. -/
def badPlace (pod node : Int) : Bool := (decide (pod < 0) || decide (8 ≤ pod)) || (decide (node < -1) || decide (4 ≤ node))
def RS.place (Y : RS) (pod : Nat) (node : Int) : RS := { Y with node := Y.node.set pod node }
theorem Place_arg (w : World) (pod node : Int) (h : badPlace pod node = true) :
    Calls Tryz.prog 52 #[.pointer (some ⟨b, 0, none⟩), .int .i64 pod, .int .i64 node] w fun e w' => e = .returned (.int .i64 2) ∧ w' = w := by
  unfold badPlace at h
  cases q1 : decide (pod < 0)
  · cases q2 : decide (8 ≤ pod)
    · cases q3 : decide (node < -1)
      · rw [q1, q2, q3, Bool.false_or, Bool.false_or, Bool.false_or] at h
        go_enter Tryz.func52, Tryz.ntmps52
        go_wp2
        go_ret
        exact ⟨rfl, rfl⟩
      · clear h
        go_enter Tryz.func52, Tryz.ntmps52
        go_wp2
        go_ret
        exact ⟨rfl, rfl⟩
    · clear h
      go_enter Tryz.func52, Tryz.ntmps52
      go_wp2
      go_ret
      exact ⟨rfl, rfl⟩
  · clear h
    go_enter Tryz.func52, Tryz.ntmps52
    go_wp2
    go_ret
    exact ⟨rfl, rfl⟩
theorem RIn.nodeCell {w : World} (h : RIn w F b Y) (i : Nat) (x : Int) (hx : Y.node[i]? = some x) : w.cell? ⟨b, 11 + i, none⟩ = some (.int .i64 x) := by
  obtain ⟨h8, vA, vK, vS, vO, vN, h⟩ := h
  rw [h.cell]
  have hi : i < Y.node.length := (List.getElem?_eq_some_iff.1 hx).1
  show (_ :: _ :: _ :: _ :: _ :: _ :: _ :: _ :: _ :: _ :: _ :: (Y.node.map (Value.int .i64) ++ [vN]))[11 + i]? = _
  rw [show 11 + i = i + 11 by omega]
  show (Y.node.map (Value.int .i64) ++ [vN])[i]? = _
  rw [List.getElem?_append_left (by simpa using hi), List.getElem?_map, hx]
  rfl
theorem Place_yes (w : World) (pod : Nat) (node : Int) (h : RIn w F b Y) (hp : pod < 8) (h1 : -1 ≤ node) (h2 : node < 4) :
    Calls Tryz.prog 52 #[.pointer (some ⟨b, 0, none⟩), .int .i64 (pod : Int), .int .i64 node] w fun e w' => e = .returned (.int .i64 0) ∧ RIn w' F b (Y.place pod node) ∧ Kept F w w' := by
  have q1 : decide ((pod : Int) < 0) = false := by simp
  have q2 : decide ((8 : Int) ≤ (pod : Int)) = false := by simp; omega
  have q3 : decide (node < -1) = false := by simp; omega
  have q4 : decide (4 ≤ node) = false := by simp; omega
  obtain ⟨x, hx⟩ : ∃ x, Y.node[pod]? = some x := ⟨_, List.getElem?_eq_getElem (by rw [h.1]; exact hp)⟩
  have c := h.nodeCell pod x hx
  have f := h.frozen (11 + pod)
  have lb := h.lt
  have il : (pod : Int) < 8 := by omega
  have HR := hid h
  clear h hx h1 h2
  go_enter Tryz.func52, Tryz.ntmps52
  go_wp2
  go_ret
  exact ⟨rfl, rin_setNode HR.out pod hp node, set_kept HR.out (11 + pod) _⟩
end Go.Proofs.YtphapknfkbgapaaGreatDoor
namespace Go.Proofs.YtphapknfkbgapaaGreatDoor
open Go.RowKit

variable {F : Nat → Prop} {b : Nat} {Y : RS}

/-! digit, Refer. -/
def digitOf (pod : Nat) : ByteArray := ⟨#[UInt8.ofNat (48 + pod)]⟩
set_option maxRecDepth 100000 in
set_option maxHeartbeats 1000000 in
theorem digit_any (w : World) (pod : Nat) (hp : pod < 8) :
    Calls Tryz.prog 98 #[.int .i64 (pod : Int)] w fun e w' => e = .returned (.string (digitOf pod)) ∧ Low w.heap.size w w' := by
  obtain ⟨y, hy⟩ : ∃ y : Nat, y = 48 + pod := ⟨_, rfl⟩
  have hcv := conv1 w y (by omega)
  have t1 : 48 + (pod : Int) = (y : Int) := by omega
  have y1 : y < 256 := by omega
  have HY := hid hy
  clear hy hp
  go_enter Tryz.func98, Tryz.ntmps98
  go_wp2_with fail
  go_ret
  exact ⟨by rw [digitOf, ← HY.out]; rfl, (Low.refl _ w).alloc (Nat.le_refl _) _⟩
def mineOf (pod : Nat) (p : ByteArray × ByteArray) : Bool := p.1.toList == (digitOf pod).toList
def restOf (l : List (ByteArray × ByteArray)) (pod : Nat) (name : ByteArray) : List (ByteArray × ByteArray) := l.filter (fun p => !(mineOf pod p && (p.2.toList == name.toList)))
def othersOf (l : List (ByteArray × ByteArray)) (pod : Nat) (name : ByteArray) : Nat := (restOf l pod name).countP (mineOf pod)
theorem rest_snoc (l : List (ByteArray × ByteArray)) (p : ByteArray × ByteArray) (pod : Nat) (name : ByteArray) : restOf (l ++ [p]) pod name = if mineOf pod p && (p.2.toList == name.toList) then restOf l pod name else restOf l pod name ++ [p] := by
  unfold restOf
  rw [List.filter_append]
  cases h1 : mineOf pod p <;> cases h2 : (p.2.toList == name.toList) <;> simp [h1, h2]
theorem rest_le (l : List (ByteArray × ByteArray)) (pod : Nat) (name : ByteArray) : (restOf l pod name).length ≤ l.length := List.length_filter_le _ _
theorem others_le (l : List (ByteArray × ByteArray)) (pod : Nat) (name : ByteArray) : othersOf l pod name ≤ l.length := Nat.le_trans List.countP_le_length (rest_le l pod name)
theorem others_snoc (l : List (ByteArray × ByteArray)) (p : ByteArray × ByteArray) (pod : Nat) (name : ByteArray) : othersOf (l ++ [p]) pod name = if mineOf pod p && !(p.2.toList == name.toList) then othersOf l pod name + 1 else othersOf l pod name := by
  unfold othersOf
  rw [rest_snoc]
  cases h1 : mineOf pod p <;> cases h2 : (p.2.toList == name.toList) <;> simp [h1, List.countP_append]
theorem RIn.needCell {w : World} (h : RIn w F b Y) (i : Nat) (p : ByteArray × ByteArray) (hx : Y.needs[i]? = some p) : ∃ g cap, w.cell? ⟨b, 19, none⟩ = some (.slice (some ⟨g, 0, none⟩) Y.needs.length cap) ∧ g < w.heap.size ∧ w.cell? ⟨g, i * 2, none⟩ = some (.string p.1) ∧ w.cell? ⟨g, i * 2 + 1, none⟩ = some (.string p.2) ∧ w.rangeAt g (i * 2) (two p) := by
  obtain ⟨a, cap, hc, hel⟩ := h.needs
  rw [List.length_map] at hc
  obtain ⟨g, rfl, hg, hcs, _⟩ := hel i (two p) (by rw [List.getElem?_map, hx]; rfl)
  exact ⟨g, cap, hc, hg, hcs 0 (by omega), hcs 1 (by omega), range_of hcs (fun j v e => ⟨(List.getElem?_eq_some_iff.1 e).1, e⟩)⟩
theorem sz109 (p : ByteArray × ByteArray) : (Tryz.prog.info? 117).map (·.size) = some (two p).length := show _ = some 2 by kernel_rfl
theorem info109 : (Tryz.prog.info? 117).map (fun i => (i.zero, i.size, i.bytes)) = some (some (.agg #[.string ⟨#[]⟩, .string ⟨#[]⟩]), 2, 32) := by kernel_rfl
theorem two_one (p : ByteArray × ByteArray) : ∀ v ∈ two p, v.oneCell' = true := by simp [two, Value.oneCell']
theorem ld109 {ops : Array Oper} {rest : List Oper} {d : Option Tmp} {t0 : TypeId} {pos : String} {after : Array Edge} {a : Go.Act} {w : World} {Q : Exit → Go.Act → World → Prop} (x : Operand) (b o : Nat) (p : ByteArray × ByteArray)
    (hx : a.eval x = .pointer (some ⟨b, o, none⟩)) (hc : w.rangeAt b o (two p)) (h : wpList Tryz.prog ops Q rest (a.put d (.agg (two p).toArray)) w) :
    wpList Tryz.prog ops Q ({ dst := d, op := .load 117 x, type := t0, pos := pos, after := after, guard := none } :: rest) a w :=
  ldAny 117 x b o (two p) _ hx hc Tryz.underlying117 rfl (sz109 p) h
def badRefer (pod : Int) (name : ByteArray) : Bool := (decide (pod < 0) || decide (8 ≤ pod)) || !isPath name
theorem Refer_arg (w : World) (pod : Int) (name : ByteArray) (on : Bool) (hp : name.size ≤ maxLen) (h : badRefer pod name = true) :
    Calls Tryz.prog 54 #[.pointer (some ⟨b, 0, none⟩), .int .i64 pod, .string name, .bool on] w fun e w' => e = .returned (.int .i64 2) ∧ w' = w := by
  unfold badRefer at h
  have HP := hid hp
  clear hp
  obtain ⟨pa, hpa⟩ : ∃ pa, pa = isPath name := ⟨_, rfl⟩
  rw [← hpa] at h
  have HPA := hid hpa
  clear hpa
  cases q1 : decide (pod < 0)
  · cases q2 : decide (8 ≤ pod)
    · rw [q1, q2, Bool.false_or, Bool.false_or] at h
      have h0 : pa = false := by simpa using h
      subst h0
      clear h
      go_enter Tryz.func54, Tryz.ntmps54
      go_wp2_with (go_at_call 95; refine (path_any _ _ HP.out).mono ?_; rw [← HPA.out]; rintro e y1 ⟨rfl, hy⟩; obtain rfl := hy.symm)
      go_ret
      exact ⟨rfl, rfl⟩
    · clear h
      go_enter Tryz.func54, Tryz.ntmps54
      go_wp2_with (go_at_call 95; refine (path_any _ _ HP.out).mono ?_; rw [← HPA.out]; rintro e y1 ⟨rfl, hy⟩; obtain rfl := hy.symm)
      go_ret
      exact ⟨rfl, rfl⟩
  · clear h
    go_enter Tryz.func54, Tryz.ntmps54
    go_wp2_with (go_at_call 95; refine (path_any _ _ HP.out).mono ?_; rw [← HPA.out]; rintro e y1 ⟨rfl, hy⟩; obtain rfl := hy.symm)
    go_ret
    exact ⟨rfl, rfl⟩
/-- What Refer leaves. -/
def RS.refer (Y : RS) (pod : Nat) (name : ByteArray) (on : Bool) : RS := { Y with needs := restOf Y.needs pod name ++ (if on then [(digitOf pod, name)] else []) }
theorem rin_setNeeds {w w1 : World} {v' : Value} {l : List (ByteArray × ByteArray)} (h : RIn w F b Y) (L : Low w.heap.size w w1) (ho : w1.ownsRow 0 117 2 v' l.length (l.flatMap two)) (hf : ∀ q, v'.ownBlock = some q → w.heap.size ≤ q) :
    RIn (w1.setCell ⟨b, 19, none⟩ v') (grow F w (w1.setCell ⟨b, 19, none⟩ v')) b { Y with needs := l } ∧ Kept F w (w1.setCell ⟨b, 19, none⟩ v') := by
  have hin := h.inF
  obtain ⟨h8, vA, vK, vS, vO, vN, hO⟩ := h
  have hvN : (Y.cells vA vK vS vO vN)[19]? = some vN := by
    show (_ :: _ :: _ :: _ :: _ :: _ :: _ :: _ :: _ :: _ :: _ :: (Y.node.map (Value.int .i64) ++ [vN]))[8 + 11]? = _
    show (Y.node.map (Value.int .i64) ++ [vN])[8]? = _
    rw [List.getElem?_append_right (by simp; omega)]
    simp [h8]
  have q1 := hO.rowNew 4 rfl hvN (L.kept.mono (fun _ _ f => f.elim)) ho (Or.inr hf) (Y.offs 4 rfl)
  refine ⟨⟨h8, vA, vK, vS, vO, v', ?_⟩, ?_⟩
  · have hC : (Y.cells vA vK vS vO vN).set 19 v' = ({ Y with needs := l } : RS).cells vA vK vS vO v' := by
      show (_ :: _ :: _ :: _ :: _ :: _ :: _ :: _ :: _ :: _ :: _ :: (Y.node.map (Value.int .i64) ++ [vN])).set (8 + 11) v' = _ :: _ :: _ :: _ :: _ :: _ :: _ :: _ :: _ :: _ :: _ :: (Y.node.map (Value.int .i64) ++ [v'])
      simp only [List.set_cons_succ]
      rw [List.set_append_right _ _ (by simp; omega)]
      simp [h8]
    refine (q1.cast hC rfl).more (fun k hk => ?_) (fun k hk => ?_)
    · rcases hk with hk | hk
      · exact Or.inl hk
      · exact Or.inr (by simpa using hk)
    · rcases hk with hk | hk
      · have := hO.below k hk
        have := L.size
        simp
        omega
      · exact hk.2
  · exact L.kept.trans (setCell_kept w1 ⟨b, 19, none⟩ v') (fun _ f => f.elim) (fun q _ e => by rw [show q = b from e]; exact hin)
set_option maxRecDepth 100000 in
set_option maxHeartbeats 1000000 in
theorem Refer_any (w : World) (pod : Nat) (name : ByteArray) (on : Bool) (h : RIn w F b Y) (hn : Y.needs.length ≤ 1000) (hp : name.size ≤ maxLen) (hq : isPath name = true) (hpod : pod < 8) :
    Calls Tryz.prog 54 #[.pointer (some ⟨b, 0, none⟩), .int .i64 (pod : Int), .string name, .bool on] w fun e w' => ((on && decide (8 ≤ othersOf Y.needs pod name)) = true ∧ e = .returned (.int .i64 16) ∧ Low w.heap.size w w') ∨
      ((on && decide (8 ≤ othersOf Y.needs pod name)) = false ∧ e = .returned (.int .i64 0) ∧ RIn w' (grow F w w') b (Y.refer pod name on) ∧ Kept F w w') := by
  have q1 : decide ((pod : Int) < 0) = false := by simp
  have q2 : decide ((8 : Int) ≤ (pod : Int)) = false := by simp; omega
  have HR := hid h
  have HP := hid hp
  have HQ := hid hq
  clear h hp hq
  go_enter Tryz.func54, Tryz.ntmps54
  go_wp2_with (go_at_call 95; refine (path_any _ _ HP.out).mono ?_; rw [HQ.out]; rintro e y1 ⟨rfl, hy⟩; obtain rfl := hy.symm)
  go_loopg [10, 11, 12] Y.needs.length (fun left v ov iv wr => ∃ i : Nat, left = Y.needs.length - i ∧ i ≤ Y.needs.length ∧ ov = .int .i64 (othersOf (Y.needs.take i) pod name : Int) ∧ iv = .int .i64 (i : Int) ∧ Hid (Low w.heap.size w wr ∧ wr.ownsRow 0 117 2 v (restOf (Y.needs.take i) pod name).length ((restOf (Y.needs.take i) pod name).flatMap two) ∧ ∀ k, v.ownBlock = some k → w.heap.size ≤ k))
  case atStart => exact ⟨0, rfl, Nat.zero_le _, rfl, rfl, Low.refl _ _, World.ownsRow_nil _ _ _ _, fun k hk => by cases hk⟩
  case round v =>
    obtain ⟨i, hgk, hi, rfl, rfl, HI⟩ := hrel
    have HGK := hid hgk
    clear hgk
    have RW : Hid (RIn wr F b Y) := HR.out.low HI.out.1
    by_cases h3 : i < Y.needs.length
    · have q3 : decide ((i : Int) < (Y.needs.length : Int)) = true := by simp; omega
      have il : (i : Int) < (Y.needs.length : Int) := by omega
      obtain ⟨p, hp2⟩ : ∃ p, Y.needs[i]? = some p := ⟨_, List.getElem?_eq_getElem h3⟩
      obtain ⟨g, cap, hc, hg, p0, p1, hrg⟩ := RW.out.needCell i p hp2
      have HRG := hid hrg
      have HT := hid (take_snoc hp2)
      have HS := hid (rest_snoc (Y.needs.take i) p pod name)
      have HO := hid (others_snoc (Y.needs.take i) p pod name)
      have lb := RW.out.lt
      have hob : othersOf (Y.needs.take i) pod name ≤ 1000 := Nat.le_trans (others_le _ _ _) (by simp; omega)
      obtain ⟨mi, hmi⟩ : ∃ mi, mi = mineOf pod p := ⟨_, rfl⟩
      have HMI : Hid ((p.1.toList == (digitOf pod).toList) = mi) := by show _ = _; rw [hmi]; rfl
      have HMI2 := hid hmi
      clear hrg hp2 hmi
      go_upto_region 9 with fail
      go_region_held3 (fun W' => W'.cell? ⟨b, 19, none⟩ = some (.slice (some ⟨g, 0, none⟩) Y.needs.length cap) ∧ W'.cell? ⟨g, i * 2, none⟩ = some (.string p.1)) (first | assumption | go_keep)
        (first | (go_at_call 98; refine (digit_any _ pod hpod).mono ?_; rintro e y1 ⟨rfl, l1⟩; have S1 : y1.cell? ⟨b, 19, none⟩ = some (.slice (some ⟨g, 0, none⟩) Y.needs.length cap) ∧ y1.cell? ⟨g, i * 2, none⟩ = some (.string p.1) := ⟨(l1.cell (by exact lb)).trans hc, (l1.cell (by exact hg)).trans p0⟩; have L1 : Hid (Low wr.heap.size wr y1) := (Low.refl _ wr).drew.trans l1; clear l1))
      rw [HMI.out]
      have LW : Hid (Low w.heap.size w y1) := HI.out.1.trans (L1.out.mono HI.out.1.size)
      have OW := hid (ownsRow_at HI.out.2.1 (fun k hk => L1.out.block k (HI.out.2.1.lt k hk).2))
      have RG1 : Hid (y1.rangeAt g (i * 2) (two p)) := fun j v e => (L1.out.cell hg).trans (HRG.out j v e)
      have d19 := S1.1
      have d1 : y1.cell? ⟨g, i * 2 + 1, none⟩ = some (.string p.2) := (L1.out.cell hg).trans p1
      have hsz : (restOf (Y.needs.take i) pod name).length + 1 ≤ 1000000000 := by have := rest_le (Y.needs.take i) pod name; simp at this; omega
      have HZ := hid hsz
      have h2 : (two p).length = 2 := rfl
      have HD1 := hid d1
      clear hsz S1 hc p0 p1
      cases qm : mi
      · clear d1
        go_wp2_with (first | ((with_reducible refine ld109 (.tmp 68) g (i * 2) p ?_ RG1.out ?_); rfl) | (at_builtin; refine wpList_append_mine _ rfl (.tmp 62) (.tmp 70) 71 rfl 117 _ 2 32 Tryz.underlying71 info109 rfl (by omega) _ _ _ rfl (OW.out.alloc _) ⟨y1.heap.size, 0, none⟩ 1 1 (two p) rfl rfl (news_new y1 (two p) 117) (two_one _) ⟨HZ.out, by omega⟩ ?_; intro v' w1 o1 k1 p1'; have O1 := hid o1; have K1 := hid k1; have P1 := hid p1'; clear o1 k1 p1'))
        go_roundg (Y.needs.length - (i + 1))
        case rel =>
          obtain ⟨l1, b1⟩ := append_low LW.out HI.out.2.2 K1.out P1.out
          refine ⟨i + 1, rfl, by omega, by rw [HT.out, HO.out, ← HMI2.out, qm]; rfl, by simp, l1, ?_, b1⟩
          rw [HT.out, HS.out, ← HMI2.out, qm, if_neg (by simp), List.length_append, flat_snoc]
          exact O1.out
        case measure => have := HGK.out; omega
      · cases qn : (p.2.toList == name.toList)
        · go_wp2_with (first | ((with_reducible refine ld109 (.tmp 68) g (i * 2) p ?_ RG1.out ?_); rfl) | (at_builtin; refine wpList_append_mine _ rfl (.tmp 62) (.tmp 70) 71 rfl 117 _ 2 32 Tryz.underlying71 info109 rfl (by omega) _ _ _ rfl (OW.out.alloc _) ⟨y1.heap.size, 0, none⟩ 1 1 (two p) rfl rfl (news_new y1 (two p) 117) (two_one _) ⟨HZ.out, by omega⟩ ?_; intro v' w1 o1 k1 p1'; have O1 := hid o1; have K1 := hid k1; have P1 := hid p1'; clear o1 k1 p1'))
          go_roundg (Y.needs.length - (i + 1))
          case rel =>
            obtain ⟨l1, b1⟩ := append_low LW.out HI.out.2.2 K1.out P1.out
            refine ⟨i + 1, rfl, by omega, by rw [HT.out, HO.out, ← HMI2.out, qm, qn]; simp, by simp, l1, ?_, b1⟩
            rw [HT.out, HS.out, ← HMI2.out, qm, qn, if_neg (by simp), List.length_append, flat_snoc]
            exact O1.out
          case measure => have := HGK.out; omega
        · go_wp2_with fail
          go_roundg (Y.needs.length - (i + 1))
          case rel =>
            refine ⟨i + 1, rfl, by omega, by rw [HT.out, HO.out, ← HMI2.out, qm, qn]; rfl, by simp, LW.out, ?_, HI.out.2.2⟩
            rw [HT.out, HS.out, ← HMI2.out, qm, qn]
            exact OW.out
          case measure => have := HGK.out; omega
    · have q3 : decide ((i : Int) < (Y.needs.length : Int)) = false := by simp; omega
      have HTK : Hid (Y.needs.take i = Y.needs) := List.take_of_length_le (by omega)
      obtain ⟨a5, cap5, hc5, _⟩ := RW.out.needs
      rw [List.length_map] at hc5
      have f19 := RW.out.frozen 19
      have lb := RW.out.lt
      have hob : othersOf (Y.needs.take i) pod name ≤ 1000 := Nat.le_trans (others_le _ _ _) (by simp; omega)
      obtain ⟨a10, cap10, hv10, _, _⟩ := ownsRow_view HI.out.2.1
      subst hv10
      cases qo : on
      · go_wp2_with fail
        go_ret
        have hI := HI.out
        rw [HTK.out] at hI
        obtain ⟨r1, k1⟩ := rin_setNeeds HR.out hI.1 hI.2.1 hI.2.2
        rw [HTK.out]
        refine Or.inr ⟨by rw [qo]; rfl, rfl, ?_, k1⟩
        unfold RS.refer
        rw [qo, if_neg (by simp), List.append_nil]
        exact r1
      · obtain ⟨ot, hot⟩ : ∃ ot, ot = othersOf (Y.needs.take i) pod name := ⟨_, rfl⟩
        have HOT : Hid (othersOf Y.needs pod name = ot) := by show _ = _; rw [hot, HTK.out]
        rw [← hot]
        rw [← hot] at hob
        clear hot
        cases q8 : decide (8 ≤ ot)
        · have q9 : decide ((8 : Int) ≤ (ot : Int)) = false := by simp at q8 ⊢; omega
          have h2 : (two (digitOf pod, name)).length = 2 := rfl
          have hsz : (restOf (Y.needs.take i) pod name).length + 1 ≤ 1000000000 := by have := rest_le (Y.needs.take i) pod name; simp at this; omega
          have HZ := hid hsz
          have HF19 := hid f19
          clear hsz
          go_wp2_with (first | (go_at_call 98; refine (digit_any _ pod hpod).mono ?_; rintro e y1 ⟨rfl, l1⟩; have L1 : Hid (Low w.heap.size w y1) := HI.out.1.trans (l1.mono HI.out.1.size); have OW := hid (ownsRow_at HI.out.2.1 (fun k hk => l1.block k (HI.out.2.1.lt k hk).2)); clear l1) | (at_builtin; refine wpList_append_mine _ rfl (.tmp 78) (.tmp 83) 71 rfl 117 _ 2 32 Tryz.underlying71 info109 rfl (by omega) _ _ _ rfl (OW.out.alloc _) ⟨y1.heap.size, 0, none⟩ 1 1 (two (digitOf pod, name)) rfl rfl (news_new y1 (two (digitOf pod, name)) 117) (two_one _) ⟨HZ.out, by omega⟩ ?_; intro v' w1 o1 k1 p1; obtain ⟨a11, cap11, rfl, _, _⟩ := ownsRow_view o1; obtain ⟨l2, b2⟩ := append_low L1.out HI.out.2.2 k1 p1; have RW1 := HR.out.low l2; obtain ⟨a6, cap6, hc6, _⟩ := RW1.needs; rw [List.length_map] at hc6; have f6 := RW1.frozen 19; have lb6 := RW1.lt; have O1 := hid o1; have LL2 := hid l2; have BB2 := hid b2; clear o1 k1 p1 l2 b2 RW1))
          go_ret
          refine Or.inr ⟨by rw [qo, HOT.out, q8]; rfl, rfl, ?_⟩
          have e1 : (restOf (Y.needs.take i) pod name).length + 1 = (restOf Y.needs pod name ++ [(digitOf pod, name)]).length := by rw [HTK.out]; simp
          have e2 : (restOf (Y.needs.take i) pod name).flatMap two ++ two (digitOf pod, name) = (restOf Y.needs pod name ++ [(digitOf pod, name)]).flatMap two := by rw [HTK.out, flat_snoc]
          have hO := O1.out
          rw [e1, e2] at hO
          obtain ⟨r1, k1⟩ := rin_setNeeds HR.out LL2.out hO (by rw [← e1]; exact BB2.out)
          rw [e1]
          refine ⟨?_, k1⟩
          unfold RS.refer
          rw [qo, if_pos rfl]
          exact r1
        · have q9 : decide ((8 : Int) ≤ (ot : Int)) = true := by simp at q8 ⊢; omega
          go_wp2_with fail
          go_ret
          exact Or.inl ⟨by rw [qo, HOT.out, q8]; rfl, rfl, HI.out.1⟩
end Go.Proofs.YtphapknfkbgapaaGreatDoor
namespace Go.Proofs.YtphapknfkbgapaaGreatDoor
open Go.RowKit

/-! The program's coffer and the document's, under many keys. -/

structure Same2 (rs : List RKey) (ep : Int) (s : PSrv) (sn : Int) (u : RUnd) : Prop where
  seen : s.seen = sn
  sn : 0 ≤ sn ∧ sn ≤ ep
  busy : s.busy = u.on
  op : s.busy = true → s.epoch = u.epoch ∧ s.rev = u.want ∧ s.e = u.e ∧ -1 ≤ u.want ∧ (1 ≤ u.epoch ∧ u.epoch ≤ ep) ∧ (1 ≤ u.e.path.size ∧ u.e.path.size ≤ 16) ∧ (u.e.gone = false → EntOk u.e ∧ u.e.key = writesOf rs u.epoch)
/-- The pods, on either side. -/
structure Pods2 (p : Nat → PPod) (node : List Int) (needs : List (ByteArray × ByteArray)) : Prop where
  node : ∀ i, i < 8 → node[i]? = some (p i).node
  ok : ∀ q ∈ needs, ∃ i, i < 8 ∧ q.1 = digitOf i
  same : ∀ i, i < 8 → (p i).needs = (needs.filter (mineOf i)).map (·.2)
  few : ∀ i, i < 8 → (p i).needs.length ≤ 8
structure Rel2 (n : Nat) (X : PS) (Y : RS) : Prop where
  keys : Keys2 X.keys Y.keys Y.epoch Y.turn
  live : ∀ (j : Nat) (K : RKey), writesOf Y.keys Y.epoch = (j : Int) + 1 → Y.keys[j]? = some K → K.gone = false
  ep : X.epoch = Y.epoch ∧ 1 ≤ Y.epoch ∧ Y.epoch + 1 ≤ 2 * (Y.keys.length : Int) ∧ (Y.turn = 1 → Y.epoch + 2 ≤ 2 * (Y.keys.length : Int))
  write : X.write = writesOf Y.keys Y.epoch
  turn : X.turn = Y.turn
  room : X.room = Y.room
  rooms : 1 ≤ Y.room ∧ Y.room ≤ 60
  rev : X.rev = (Y.all.length : Int)
  floor : X.floor = Y.floor
  floor0 : 0 ≤ Y.floor
  draws : X.draws = Y.draws ∧ 0 ≤ Y.draws ∧ Y.draws ≤ (n : Int)
  len : X.servers.length = Y.seen.length ∧ Y.ops.length = Y.seen.length ∧ Y.seen.length ≤ 4 ∧ 1 ≤ Y.seen.length
  srv : ∀ (i : Nat) (s : PSrv), X.servers[i]? = some s → ∃ sn u, Y.seen[i]? = some sn ∧ Y.ops[i]? = some u ∧ Same2 Y.keys Y.epoch s sn u
  ent : X.entries = keptOf Y.all
  few : (X.entries.length : Int) ≤ Y.room
  revs : Revs Y.all
  eok : ∀ k ∈ Y.all, k.e.gone = false → EntOk k.e ∧ ∃ j K, k.e.key = ((j : Nat) : Int) + 1 ∧ Y.keys[j]? = some K ∧ (k.out = false → K.gone = false)
  all : Y.all.length ≤ n
  gated : Y.turn = 3 → ∀ k ∈ Y.all, k.out = false → k.e.gone = false → k.e.key = writesOf Y.keys Y.epoch
  pods : Pods2 X.pods Y.node Y.needs
variable {X : PS} {Y : RS} {n : Nat}
theorem Rel2.up (h : Rel2 n X Y) : Rel2 (n + 1) X Y :=
  ⟨h.keys, h.live, h.ep, h.write, h.turn, h.room, h.rooms, h.rev, h.floor, h.floor0, ⟨h.draws.1, h.draws.2.1, by have := h.draws.2.2; omega⟩, h.len, h.srv, h.ent, h.few, h.revs, h.eok, by have := h.all; omega, h.gated, h.pods⟩
theorem Rel2.mono (h : Rel2 n X Y) {m : Nat} (hm : n ≤ m) : Rel2 m X Y :=
  ⟨h.keys, h.live, h.ep, h.write, h.turn, h.room, h.rooms, h.rev, h.floor, h.floor0, ⟨h.draws.1, h.draws.2.1, by have := h.draws.2.2; omega⟩, h.len, h.srv, h.ent, h.few, h.revs, h.eok, by have := h.all; omega, h.gated, h.pods⟩
theorem Rel2.at (h : Rel2 n X Y) {s : Int} (hs : isSrv Y.seen.length s = true) : ∃ (i : Nat) (p : PSrv) (sn : Int) (u : RUnd), s = (i : Int) ∧ X.servers[i]? = some p ∧ At Y i sn u ∧ Same2 Y.keys Y.epoch p sn u ∧ i < Y.seen.length := by
  unfold isSrv at hs
  simp at hs
  have hi : s.toNat < Y.seen.length := by omega
  obtain ⟨p, hp⟩ : ∃ p, X.servers[s.toNat]? = some p := ⟨_, List.getElem?_eq_getElem (by rw [h.len.1]; exact hi)⟩
  obtain ⟨sn, u, h1, h2, h3⟩ := h.srv _ _ hp
  exact ⟨s.toNat, p, sn, u, by omega, hp, ⟨h1, h2⟩, h3, hi⟩
theorem Rel2.put (h : Rel2 n X Y) {i : Nat} (hi : i < Y.seen.length) (p : PSrv) (sn : Int) (u : RUnd) (hS : Same2 Y.keys Y.epoch p sn u) :
    Rel2 n { X with servers := X.servers.set i p } { Y with seen := Y.seen.set i sn, ops := Y.ops.set i u } := by
  refine ⟨h.keys, h.live, h.ep, h.write, h.turn, h.room, h.rooms, h.rev, h.floor, h.floor0, h.draws, ⟨by simp [h.len.1], by simp [h.len.2.1], by simpa using h.len.2.2.1, by rw [List.length_set]; exact h.len.2.2.2⟩, fun j q hq => ?_, h.ent, h.few, h.revs, h.eok, h.all, h.gated, h.pods⟩
  have hl := h.len
  replace hq : (X.servers.set i p)[j]? = some q := hq
  show ∃ sn1 u1, (Y.seen.set i sn)[j]? = some sn1 ∧ (Y.ops.set i u)[j]? = some u1 ∧ Same2 Y.keys Y.epoch q sn1 u1
  by_cases e : i = j
  · subst e
    rw [List.getElem?_set_self (by omega)] at hq
    obtain rfl := Option.some.inj hq
    exact ⟨sn, u, List.getElem?_set_self hi, List.getElem?_set_self (by omega), hS⟩
  · rw [List.getElem?_set_ne e] at hq
    obtain ⟨a, c, h1, h2, h3⟩ := h.srv j q hq
    exact ⟨a, c, by rw [List.getElem?_set_ne e]; exact h1, by rw [List.getElem?_set_ne e]; exact h2, h3⟩
def Pair2 (fx fr : Nat) (args : List Value) (X : PS) (Y : RS) (n : Nat) (v : Value) : Prop := ∃ X' Y', PUni fx args X v X' ∧ RUni fr args Y v Y' ∧ Rel2 (n + 1) X' Y'
theorem refresh_two (h : Rel2 n X Y) (s : Int) : ∃ v : Int, Pair2 23 24 [.int .i64 s] X Y n (.int .i64 v) := by
  cases hs : isSrv Y.seen.length s
  · have hx : isSrv X.servers.length s = false := by rw [h.len.1]; exact hs
    exact ⟨4, X, Y, p_same (fun w F b hX => pRefresh_no w s hX hx), r_same (fun w F b hR => Refresh_no w s hR hs), h.up⟩
  · obtain ⟨i, p, sn, u, rfl, hp, ha, hS, hi⟩ := h.at hs
    refine ⟨0, X.refresh i p, Y.refresh (i : Int), p_kept (fun w F b hX _ _ => pRefresh_yes w i p hX hp), r_kept (fun w F b hR => Refresh_yes w i hR hs), ?_⟩
    have q := (h.put hi { p with seen := X.epoch } Y.epoch u ⟨h.ep.1, ⟨by have := h.ep.2.1; omega, Int.le_refl _⟩, hS.busy, hS.op⟩).up
    rw [set_same ha.op] at q
    unfold PS.refresh RS.refresh
    rw [Int.toNat_natCast]
    exact q
theorem crash_two (h : Rel2 n X Y) (s : Int) : ∃ v : Int, Pair2 25 26 [.int .i64 s] X Y n (.int .i64 v) := by
  cases hs : isSrv Y.seen.length s
  · have hx : isSrv X.servers.length s = false := by rw [h.len.1]; exact hs
    exact ⟨4, X, Y, p_same (fun w F b hX => pCrash_no w s hX hx), r_same (fun w F b hR => Crash_no w s hR hs), h.up⟩
  · obtain ⟨i, p, sn, u, rfl, hp, ha, hS, hi⟩ := h.at hs
    refine ⟨0, X.crash i, Y.crash (i : Int), p_kept (fun w F b hX _ _ => pCrash_yes w i p hX hp), r_kept (fun w F b hR => Crash_yes w i hR hs h.len.2.1), ?_⟩
    have q := (h.put hi PSrv.zero 0 RUnd.zero ⟨rfl, ⟨Int.le_refl _, by have := h.ep.2.1; omega⟩, rfl, fun e => by cases e⟩).up
    unfold PS.crash RS.crash
    rw [Int.toNat_natCast]
    exact q
/-- The key that writes. -/
theorem Rel2.writer (h : Rel2 n X Y) : ∃ (j : Nat) (p : PKey) (K : RKey), X.write = (j : Int) + 1 ∧ writesOf Y.keys Y.epoch = (j : Int) + 1 ∧ X.keys[j]? = some p ∧ Y.keys[j]? = some K ∧ KSame p K ∧ 0 < K.writes ∧ K.gone = false ∧ promOf Y.keys = (if j = 0 then 0 else K.writes) ∧ (j = 0 → K.writes = 1) := by
  obtain ⟨j, p, K, q0, q1, q2, q3, q4, _, _⟩ := h.keys.writing h.ep.2.1
  refine ⟨j, p, K, by rw [h.write]; exact q0, q0, q1, q2, q3, q4, h.live j K q0 q2, h.keys.prom q0 q2, fun hz => ?_⟩
  subst hz
  exact (h.keys.first K q2).2
theorem revs_snoc {l : List RKept} (h : Revs l) (x : RKept) (hx : x.e.rev = (l.length : Int) + 1) : Revs (l ++ [x]) := by
  intro j k hk
  by_cases hj : j < l.length
  · rw [List.getElem?_append_left hj] at hk
    exact h j k hk
  · rw [List.getElem?_append_right (by omega)] at hk
    have hj0 : j = l.length := by
      have := (List.getElem?_eq_some_iff.1 hk).1
      simp at this
      omega
    subst hj0
    rw [Nat.sub_self] at hk
    obtain rfl := (Option.some.inj hk).symm
    exact hx
theorem commit_same2 (h : Rel2 n X Y) {j : Nat} {p : PKey} {K : RKey} (hks : KSame p K) (hpr : promOf Y.keys = (if j = 0 then 0 else K.writes)) (hj0 : j = 0 → K.writes = 1) {s : PSrv} {sn : Int} {u : RUnd} (hs : Same2 Y.keys Y.epoch s sn u) (hb : s.busy = true) : pCommitErr X p.wrote s = commitErr Y u := by
  obtain ⟨e1, e2, e3, e4, e5, _, _⟩ := hs.op hb
  unfold pCommitErr pErr commitErr
  have hn : newestOf X.entries s.e.path X.rev = (lastOf Y.all u.e.path).getD Ent.zero := by rw [h.ent, h.rev, newest_all _ _ h.revs, e3]
  obtain ⟨L, hL⟩ : ∃ L, L = lastOf Y.all u.e.path := ⟨_, rfl⟩
  rw [← hL] at hn
  have h1 : ∀ e, L = some e → 1 ≤ e.rev := by
    intro e he
    rw [hL] at he
    obtain ⟨k, hk, rfl, _⟩ := lastOf_mem he
    obtain ⟨i, hi⟩ := List.getElem?_of_mem hk
    have := h.revs i k hi
    omega
  obtain ⟨q1, q2⟩ := rev_there L h1
  have hpr2 : pRevOf X s.e.path = (if (L.getD Ent.zero).gone then (0 : Int) else (L.getD Ent.zero).rev) := by unfold pRevOf; rw [hn]
  obtain ⟨r, hr⟩ : ∃ r, r = pRevOf X s.e.path := ⟨_, rfl⟩
  rw [← hpr2, ← hr] at q1 q2
  have q3 : thereOf L = true → 1 ≤ r := fun ht => by
    rw [q2 ht]
    cases L with
    | none => cases ht
    | some e => exact h1 e rfl
  have hf : pFull X = fullOf Y := by unfold pFull fullOf; rw [h.room, h.ent]
  have hst : decide (u.epoch < p.wrote) = decide (u.epoch < promOf Y.keys) := by
    rw [hpr, hks.wrote]
    by_cases hz : j = 0
    · rw [if_pos hz, hj0 hz, decide_eq_false (by omega), decide_eq_false (by omega)]
    · rw [if_neg hz]
  rw [← hr, hf, e1, e2, e3, ← hL, conflict_same L r u.want e4 q1 q2 q3, q1, hst]
theorem commit_two (h : Rel2 n X Y) (hn : n ≤ 50000000) (s : Int) : ∃ v e : Int, Pair2 29 30 [.int .i64 s] X Y n (.tuple #[.int .i64 v, .int .i64 e]) := by
  cases hs : isSrv Y.seen.length s
  · have hx : isSrv X.servers.length s = false := by rw [h.len.1]; exact hs
    exact ⟨0, 4, X, Y, p_same (fun w F b hX => pCommit_srv w s hX hx), r_same (fun w F b hR => Commit_srv w s hR hs), h.up⟩
  · obtain ⟨i, p, sn, u, rfl, hp, ha, hS, hi⟩ := h.at hs
    cases hbz : p.busy
    · exact ⟨0, 8, X, Y, p_same (fun w F b hX => pCommit_idle w i p hX hp hbz), r_low (fun w F b hR => Commit_idle w i sn u hR ha (by rw [← hS.busy]; exact hbz)), h.up⟩
    · have hA := h.all
      obtain ⟨j, pk, K, w0, w1, w2, w3, w4, w5, w6, w7, w8⟩ := h.writer
      have hE := commit_same2 h w4 w7 w8 hS hbz
      obtain ⟨e1, e2, e3, e4, e5, e6, e7⟩ := hS.op hbz
      have q := h.put hi p.rest sn RUnd.zero ⟨hS.seen, hS.sn, rfl, fun e => by cases e⟩
      rw [set_same ha.seen] at q
      have hx1 := fun (w : World) (F : Nat → Prop) (b : Nat) (hX : XIn w F b X) => pCommit_any w i p pk j hX hp hbz w0 w2 (by rw [h.keys.len]; exact h.keys.few.2) (by have := h.few; have := h.rooms; omega) (by rw [h.rev]; omega)
      have hr1 := fun (w : World) (F : Nat → Prop) (b : Nat) (hR : RIn w F b Y) => Commit_any w i sn u hR ha (by rw [← hS.busy]; exact hbz) (by omega) h.keys.few.2 h.keys.few.1
      have eRev : X.commitRev pk.wrote p = Y.commitRev u := by unfold PS.commitRev RS.commitRev; rw [hE, h.rev]
      refine ⟨Y.commitRev u, commitErr Y u, X.commit pk.wrote i p, Y.commit i u, p_grow (fun w F b hX => ?_), r_grow hr1, ?_⟩
      · have := hx1 w F b hX
        rw [eRev, hE] at this
        exact this
      · unfold PS.commit RS.commit
        rw [hE]
        by_cases hc : (commitErr Y u == 0) = true
        · rw [if_pos hc, if_pos hc]
          have hc0 : commitErr Y u = 0 := by simpa using hc
          have hfull : fullOf Y = false := by
            cases hf : fullOf Y
            · rfl
            · exfalso
              revert hc0
              unfold commitErr
              rw [hf]
              split
              · intro z; cases z
              · split
                · intro z; cases z
                · split
                  · intro z; cases z
                  · intro z; cases z
          have hstale : promOf Y.keys ≤ u.epoch := by
            by_cases hz : u.epoch < promOf Y.keys
            · exfalso
              revert hc0
              unfold commitErr
              rw [decide_eq_true hz, if_pos rfl]
              intro z; cases z
            · omega
          have hstill := h.keys.still e5.1 e5.2 hstale
          have hlen : ((keptOf Y.all).length : Int) < Y.room := by unfold fullOf at hfull; simp at hfull; exact hfull
          have hrev : X.rev + 1 = (Y.all.length : Int) + 1 := by rw [h.rev]
          refine ⟨h.keys, h.live, h.ep, h.write, h.turn, h.room, h.rooms, ?_, h.floor, h.floor0, q.up.draws, q.len, q.srv, ?_, ?_, ?_, ?_, ?_, ?_, h.pods⟩
          · show X.rev + 1 = ((Y.all ++ [_]).length : Int)
            rw [h.rev, List.length_append]; rfl
          · show X.entries ++ [{ p.e with rev := X.rev + 1 }] = keptOf (Y.all ++ [⟨{ u.e with rev := (Y.all.length : Int) + 1 }, false⟩])
            rw [keptOf_snoc, h.ent, e3, hrev]
            rfl
          · show ((X.entries ++ [{ p.e with rev := X.rev + 1 }]).length : Int) ≤ Y.room
            rw [h.ent, List.length_append]
            show (((keptOf Y.all).length + 1 : Nat) : Int) ≤ Y.room
            omega
          · show Revs (Y.all ++ [⟨{ u.e with rev := (Y.all.length : Int) + 1 }, false⟩])
            exact revs_snoc h.revs _ rfl
          · show ∀ k ∈ Y.all ++ [⟨{ u.e with rev := (Y.all.length : Int) + 1 }, false⟩], k.e.gone = false → EntOk k.e ∧ ∃ j K, k.e.key = ((j : Nat) : Int) + 1 ∧ Y.keys[j]? = some K ∧ (k.out = false → K.gone = false)
            intro k hk hg
            rcases List.mem_append.1 hk with hk | hk
            · exact h.eok k hk hg
            · obtain rfl := List.mem_singleton.1 hk
              obtain ⟨o1, o2⟩ := e7 hg
              exact ⟨⟨o1.path, o1.draw, o1.sealed⟩, j, K, by show u.e.key = _; rw [o2, hstill, w1], w3, fun _ => w6⟩
          · show (Y.all ++ [_]).length ≤ n + 1
            rw [List.length_append]
            show Y.all.length + 1 ≤ n + 1
            omega
          · intro ht k hk ho hg
            replace hk : k ∈ Y.all ++ [⟨{ u.e with rev := (Y.all.length : Int) + 1 }, false⟩] := hk
            rcases List.mem_append.1 hk with hk | hk
            · exact h.gated ht k hk ho hg
            · obtain rfl := List.mem_singleton.1 hk
              exact ((e7 hg).2).trans hstill
        · rw [if_neg hc, if_neg hc]
          exact q.up
end Go.Proofs.YtphapknfkbgapaaGreatDoor
