import Derived.Test.YtggbjffmclpmgaaGreatDoorTurAToTurF
import Derived.Test.YtggbjffmclpmgaaGreatDoorTurnsToTelD
import Derived.Test.YtggbjffmclpmgaaGreatDoorLawOToLawQ
namespace Go.Proofs.YtggbjffmclpmgaaGreatDoor
open Go.RowKit

variable {F : Nat → Prop} {b : Nat} {Y : RS}

/-! Migrate. -/
structure DueOk (d : Due) : Prop where
  name : 1 ≤ d.name.size ∧ d.name.size ≤ 16
  text : d.text.size ≤ 64
theorem opened_size {K : RKey} {e : Ent} {s : Int} (h : EntOk e) : (openedOf K e s).1.size ≤ 64 := by
  unfold openedOf
  split
  · simp [ByteArray.size]
  · split
    · simp [ByteArray.size]
    · split
      · show (maskOf _ _ _).size ≤ 64
        rw [maskOf_size]
        have := h.sealed
        unfold coverOf
        rw [ByteArray.size_extract]
        omega
      · simp [ByteArray.size]
theorem due_ok (h : KeysOk Y) : (dueOf Y).found = true → DueOk (dueOf Y) := by
  unfold dueOf
  have : ∀ (l : List Ent) (d : Due), (∀ x ∈ l, x ∈ keptOf Y.all) → (d.found = true → DueOk d) → ((l.foldl (dueStep Y (writesOf Y.keys Y.epoch)) d).found = true → DueOk (l.foldl (dueStep Y (writesOf Y.keys Y.epoch)) d)) := by
    intro l
    induction l with
    | nil => intro d _ hd; exact hd
    | cons x r ih =>
      intro d hx hd
      refine ih _ (fun y hy => hx y (List.mem_cons_of_mem _ hy)) ?_
      obtain ⟨k, hk, hlast⟩ := last_some (hx x List.mem_cons_self)
      unfold dueStep
      rw [hlast]
      simp only [Option.getD_some]
      split
      · exact hd
      · rename_i hg
        have hgone : k.e.gone = false := by
          cases hq : k.e.gone
          · rfl
          · simp [hq] at hg
        obtain ⟨hok, _⟩ := h k hk hgone
        unfold dueNew
        split
        · exact fun _ => ⟨hok.path, opened_size hok⟩
        · exact hd
  exact this _ _ (fun x hx => hx) (fun h => by cases h)
def moveEnt (Y : RS) (K : RKey) (m : Int) : Ent := { closedOf K.text m (dueOf Y).name (dueOf Y).text (Y.draws + 1) with rev := (Y.all.length : Int) + 1 }
def RS.move (Y : RS) (K : RKey) (m : Int) : RS := { Y with draws := Y.draws + 1, all := Y.all ++ [⟨moveEnt Y K m, false⟩] }
/-- What n moves leave; how many were made; the answer. -/
def moves (K : RKey) (m : Int) : Nat → RS → RS × Nat × Int
  | 0, Y => (Y, 0, 0)
  | n + 1, Y => if (dueOf Y).found then (if fullOf Y then (Y, 0, 11) else ((moves K m n (Y.move K m)).1, (moves K m n (Y.move K m)).2.1 + 1, (moves K m n (Y.move K m)).2.2)) else (Y, 0, 0)
theorem move_ok {K : RKey} {j : Nat} (h : KeysOk Y) (hK : Y.keys[j]? = some K) (hT : K.text.size = 48) (hf : (dueOf Y).found = true) (hd : 0 ≤ Y.draws ∧ Y.draws + 1 ≤ 1000000000000) : KeysOk (Y.move K ((j : Int) + 1)) := by
  intro k hk hg
  rcases List.mem_append.1 hk with hk | hk
  · exact h k hk hg
  · obtain rfl := List.mem_singleton.1 hk
    have hD := due_ok h hf
    refine ⟨⟨hD.name, ?_, ?_⟩, j, K, rfl, hK, hT⟩
    · show 0 ≤ Y.draws + 1 ∧ Y.draws + 1 ≤ 1000000000000
      omega
    · show 8 ≤ (sealOf K.text (nonceTo (Y.draws + 1) 12) (dueOf Y).name (dueOf Y).text).size ∧ (sealOf K.text (nonceTo (Y.draws + 1) 12) (dueOf Y).name (dueOf Y).text).size ≤ 72
      rw [sealOf_size]
      have := hD.text
      omega
def badMove (n : Int) : Bool := decide (n < 0) || decide (20 < n)
theorem Migrate_arg (w : World) (n : Int) (hn : badMove n = true) :
    Calls Tryz.prog 43 #[.pointer (some ⟨b, 0, none⟩), .int .i64 n] w fun e w' => e = .returned (.tuple #[.int .i64 0, .int .i64 2]) ∧ w' = w := by
  unfold badMove at hn
  cases q : decide (n < 0)
  · rw [q, Bool.false_or] at hn
    go_enter Tryz.func43, Tryz.ntmps43
    go_wp2
    go_ret2
    exact ⟨rfl, rfl⟩
  · clear hn
    go_enter Tryz.func43, Tryz.ntmps43
    go_wp2
    go_ret2
    exact ⟨rfl, rfl⟩
theorem Migrate_turn (w : World) (n : Int) (h : RIn w F b Y) (hn : badMove n = false) (hg : goingOf Y = false) :
    Calls Tryz.prog 43 #[.pointer (some ⟨b, 0, none⟩), .int .i64 n] w fun e w' => e = .returned (.tuple #[.int .i64 0, .int .i64 17]) ∧ w' = w := by
  unfold badMove at hn
  rw [Bool.or_eq_false_iff] at hn
  obtain ⟨q1, q2⟩ := hn
  have HR := hid h
  have HG := hid hg
  clear h hg
  go_enter Tryz.func43, Tryz.ntmps43
  go_wp2_with (go_at_call 83; refine (going_any _ HR.out).mono ?_; rw [HG.out]; rintro e y1 ⟨rfl, hy⟩; obtain rfl := hy.symm)
  go_ret2
  exact ⟨rfl, rfl⟩
/-- How far the moves have come: i of n are made, Z is what they left. -/
structure MigSt (Y Z : RS) (K : RKey) (m : Int) (n i : Nat) : Prop where
  keys : Z.keys = Y.keys
  epoch : Z.epoch = Y.epoch
  all : Z.all.length ≤ 50000000 + i
  ok : KeysOk Z
  draws : 0 ≤ Z.draws ∧ Z.draws ≤ 100000000 + (i : Int)
  res : moves K m n Y = ((moves K m (n - i) Z).1, (moves K m (n - i) Z).2.1 + i, (moves K m (n - i) Z).2.2)
theorem MigSt.stop {Z : RS} {K : RKey} {m : Int} {n i : Nat} (h : MigSt Y Z K m n i) (hi : i < n) (hf : (dueOf Z).found = false) : moves K m n Y = (Z, i, 0) := by
  obtain ⟨t, ht⟩ : ∃ t, n - i = t + 1 := ⟨n - i - 1, by omega⟩
  rw [h.res, ht]
  unfold moves
  simp [hf]
theorem MigSt.full {Z : RS} {K : RKey} {m : Int} {n i : Nat} (h : MigSt Y Z K m n i) (hi : i < n) (hf : (dueOf Z).found = true) (hu : fullOf Z = true) : moves K m n Y = (Z, i, 11) := by
  obtain ⟨t, ht⟩ : ∃ t, n - i = t + 1 := ⟨n - i - 1, by omega⟩
  rw [h.res, ht]
  unfold moves
  simp [hf, hu]
theorem MigSt.done {Z : RS} {K : RKey} {m : Int} {n i : Nat} (h : MigSt Y Z K m n i) (hi : i = n) : moves K m n Y = (Z, i, 0) := by
  rw [h.res, show n - i = 0 by omega]
  simp [moves]
theorem MigSt.step {Z : RS} {K : RKey} {j n i : Nat} (h : MigSt Y Z K ((j : Int) + 1) n i) (hi : i < n) (hn : n ≤ 20) (hf : (dueOf Z).found = true) (hu : fullOf Z = false) (hK : Y.keys[j]? = some K) (hT : K.text.size = 48) : MigSt Y (Z.move K ((j : Int) + 1)) K ((j : Int) + 1) n (i + 1) := by
  have hd := h.draws
  refine ⟨h.keys, h.epoch, ?_, move_ok h.ok (by rw [h.keys]; exact hK) hT hf ⟨hd.1, by omega⟩, ?_, ?_⟩
  · show (Z.all ++ [_]).length ≤ _
    have := h.all
    simp
    omega
  · show 0 ≤ Z.draws + 1 ∧ Z.draws + 1 ≤ 100000000 + ((i + 1 : Nat) : Int)
    omega
  · obtain ⟨t, ht⟩ : ∃ t, n - i = t + 1 := ⟨n - i - 1, by omega⟩
    rw [h.res, ht, show n - (i + 1) = t by omega]
    conv => lhs; unfold moves
    simp only [hf, hu, if_true, Bool.false_eq_true, if_false]
    rw [show (moves K ((j : Int) + 1) t (Z.move K ((j : Int) + 1))).2.1 + 1 + i = (moves K ((j : Int) + 1) t (Z.move K ((j : Int) + 1))).2.1 + (i + 1) by omega]
set_option maxRecDepth 100000 in
set_option maxHeartbeats 2000000 in
theorem Migrate_any (w : World) (n : Nat) (K : RKey) (j : Nat) (h : RIn w F b Y) (hn : n ≤ 20) (hg : goingOf Y = true) (hk : Y.keys.length ≤ 6) (ha : Y.all.length ≤ 50000000) (hE : KeysOk Y) (hK : Y.keys[j]? = some K) (hT : K.text.size = 48) (hw : writesOf Y.keys Y.epoch = (j : Int) + 1) (hd : 0 ≤ Y.draws ∧ Y.draws ≤ 100000000) :
    Calls Tryz.prog 43 #[.pointer (some ⟨b, 0, none⟩), .int .i64 (n : Int)] w fun e w' => e = .returned (.tuple #[.int .i64 ((moves K ((j : Int) + 1) n Y).2.1 : Int), .int .i64 (moves K ((j : Int) + 1) n Y).2.2]) ∧ ∃ F', RIn w' F' b (moves K ((j : Int) + 1) n Y).1 ∧ Kept F w w' ∧ ∀ k, F' k → F k ∨ w.heap.size ≤ k := by
  have HR := hid h
  have HG := hid hg
  have HK := hid hK
  have HT := hid hT
  have HW := hid hw
  have hj6 : j ≤ 6 := by have := (List.getElem?_eq_some_iff.1 hK).1; omega
  have M0 : Hid (MigSt Y Y K ((j : Int) + 1) n 0) := ⟨rfl, rfl, by omega, hE, ⟨hd.1, by have := hd.2; omega⟩, rfl⟩
  have q1 : decide ((n : Int) < 0) = false := by simp
  have q2 : decide ((20 : Int) < (n : Int)) = false := by simp; omega
  clear h hg hK hT hw hE ha hd
  go_enter Tryz.func43, Tryz.ntmps43
  go_wp2_with (go_at_call 83; refine (going_any _ HR.out).mono ?_; rw [HG.out]; rintro e y1 ⟨rfl, hy⟩; obtain rfl := hy.symm)
  go_loopg [7] n (fun left iv wr => ∃ i : Nat, left = n - i ∧ i ≤ n ∧ iv = .int .i64 (i : Int) ∧ Hid (∃ Z F', MigSt Y Z K ((j : Int) + 1) n i ∧ RIn wr F' b Z ∧ Kept F w wr ∧ ∀ k, F' k → F k ∨ w.heap.size ≤ k))
  case atStart => exact ⟨0, rfl, Nat.zero_le _, rfl, Y, F, M0.out, HR.out, Kept.refl _ _, fun _ f => Or.inl f⟩
  case round =>
    obtain ⟨i, hgk, hi, rfl, HI⟩ := hrel
    have HGK := hid hgk
    clear hgk
    obtain ⟨Z, F', hM, hR, hKp, hF⟩ := HI.out
    have MZ := hid hM
    have RZ := hid hR
    have KZ := hid hKp
    have FZ := hid hF
    have hzk : Z.keys.length ≤ 6 := by rw [hM.keys]; exact hk
    have hza : Z.all.length ≤ 100000000 := by have := hM.all; omega
    clear hM hR hKp hF HI
    by_cases h3 : i < n
    · have q3 : decide ((i : Int) < (n : Int)) = true := by simp; omega
      obtain ⟨d, hd⟩ : ∃ d, d = dueOf Z := ⟨_, rfl⟩
      have HD := hid hd
      clear hd
      cases qf : d.found
      · have qf2 : Hid ((dueOf Z).found = false) := by show _ = _; rw [← HD.out]; exact qf
        go_wp2_with (go_at_call 84; refine (due_any (Y := Z) _ RZ.out hzk hza MZ.out.ok).mono ?_; rw [← HD.out, qf]; rintro e y1 ⟨rfl, l1⟩; have L1 := hid l1; clear l1)
        go_ret2
        rw [MZ.out.stop h3 qf2.out]
        exact ⟨rfl, F', RZ.out.low L1.out, KZ.out.trans L1.out.kept (fun _ f => f) (fun _ _ f => f.elim), FZ.out⟩
      · have qf2 : Hid ((dueOf Z).found = true) := by show _ = _; rw [← HD.out]; exact qf
        obtain ⟨fu, hfu⟩ : ∃ fu, fu = fullOf Z := ⟨_, rfl⟩
        have HFU := hid hfu
        clear hfu
        cases qu : fu
        · have qu2 : Hid (fullOf Z = false) := by show _ = _; rw [← HFU.out]; exact qu
          have hDO : Hid (DueOk d) := by show DueOk d; rw [HD.out]; exact due_ok MZ.out.ok qf2.out
          obtain ⟨E, hE⟩ : ∃ E, E = closedOf K.text ((j : Int) + 1) d.name d.text (Z.draws + 1) := ⟨_, rfl⟩
          have HEQ := hid hE
          have HZK : Hid (Z.keys[j]? = some K) := by show _ = _; rw [MZ.out.keys]; exact HK.out
          have HZW : Hid (writesOf Z.keys Z.epoch = (j : Int) + 1) := by show _ = _; rw [MZ.out.keys, MZ.out.epoch]; exact HW.out
          have HDR : Hid (0 ≤ Z.draws ∧ Z.draws + 1 ≤ 1000000000000) := by have := MZ.out.draws; exact ⟨this.1, by omega⟩
          clear hE
          go_upto_region 13 with (first | (go_at_call 84; refine (due_any (Y := Z) _ RZ.out hzk hza MZ.out.ok).mono ?_; rw [← HD.out, qf]; rintro e y1 ⟨rfl, l1⟩; have L1 := hid l1; clear l1) | (go_at_call 70; refine (full_any (Y := Z) _ (by exact RZ.out.low L1.out) hza).mono ?_; rw [← HFU.out, qu]; rintro e y2 ⟨rfl, l2⟩; have L2 : Hid (Low wr.heap.size wr y2) := L1.out.trans (l2.mono L1.out.size); clear l2))
          have R2 : Hid (RIn y2 F' b Z) := RZ.out.low L2.out
          have c7 := R2.out.epoch
          go_upto_region 15 with (first | (go_at_call 64; refine (writes_any (Y := Z) _ _ R2.out hzk).mono ?_; rw [HZW.out]; rintro e y3 ⟨rfl, hy⟩; obtain rfl := hy.symm) | (go_at_call 65; refine (closed_any (Y := Z) _ _ d.name d.text K j R2.out HZK.out rfl hj6 HT.out hDO.out.name hDO.out.text HDR.out).mono ?_; rw [← HEQ.out]; rintro e y3 ⟨rfl, r3, k3⟩; have R3 := hid r3; have K3 := hid k3; clear r3 k3) | ((with_reducible refine st50 (.tmp 13) (.tmp 49) y3.heap.size Ent.zero E ?_ ?_ ?_ ?_); rfl; rfl; exact (Blk.new y3 50 Ent.zero.cells); intro W b4 k4 s4; have B4 := hid b4; have LW : Hid (Low y3.heap.size y3 W) := low_set ((Low.refl _ y3).alloc (Nat.le_refl _) _) k4 (Nat.le_refl _) (by simp); clear b4 k4 s4))
          clear c7
          go_wp2_with (first | ((with_reducible refine ld50 (.tmp 13) y3.heap.size 0 E ?_ B4.out.whole ?_); rfl) | (go_at_call 71; refine (put_any (Y := { Z with draws := Z.draws + 1 }) _ E (by exact R3.out.low LW.out) hza).mono ?_; rintro e y5 ⟨rfl, r5, k5⟩; have R5 := hid r5; have K5 := hid k5; clear r5 k5))
          go_roundg (n - (i + 1))
          case rel =>
            have hz : ({ Z with draws := Z.draws + 1, all := Z.all ++ [⟨{ E with rev := (Z.all.length : Int) + 1 }, false⟩] } : RS) = Z.move K ((j : Int) + 1) := by
              rw [HEQ.out, HD.out]; rfl
            refine ⟨i + 1, rfl, by omega, by simp, Z.move K ((j : Int) + 1), grow F' W y5, MZ.out.step h3 hn qf2.out qu2.out HK.out HT.out, ?_, ?_, ?_⟩
            · rw [← hz]; exact R5.out
            · have a1 : Kept F w y2 := KZ.out.trans L2.out.kept (fun _ f => f) (fun _ _ f => f.elim)
              have a2 : Kept F w y3 := a1.trans K3.out (fun _ f => f) (fun k hk f => (FZ.out k f).elim id (fun e => by omega))
              have a3 : Kept F w W := a2.trans LW.out.kept (fun _ f => f) (fun _ _ f => f.elim)
              exact a3.trans K5.out (fun _ f => f) (fun k hk f => (FZ.out k f).elim id (fun e => by omega))
            · intro k hk
              rcases hk with hk | hk
              · exact FZ.out k hk
              · have b1 := KZ.out.size
                have b2 := L2.out.size
                have b3 := K3.out.size
                have b4 := LW.out.size
                exact Or.inr (by omega)
          case measure => have := HGK.out; omega
        · have qu2 : Hid (fullOf Z = true) := by show _ = _; rw [← HFU.out]; exact qu
          go_wp2_with (first | (go_at_call 84; refine (due_any (Y := Z) _ RZ.out hzk hza MZ.out.ok).mono ?_; rw [← HD.out, qf]; rintro e y1 ⟨rfl, l1⟩; have L1 := hid l1; clear l1) | (go_at_call 70; refine (full_any (Y := Z) _ (by exact RZ.out.low L1.out) hza).mono ?_; rw [← HFU.out, qu]; rintro e y2 ⟨rfl, l2⟩; have L2 : Hid (Low wr.heap.size wr y2) := L1.out.trans (l2.mono L1.out.size); clear l2))
          go_ret2
          rw [MZ.out.full h3 qf2.out qu2.out]
          exact ⟨rfl, F', RZ.out.low L2.out, KZ.out.trans L2.out.kept (fun _ f => f) (fun _ _ f => f.elim), FZ.out⟩
    · have q3 : decide ((i : Int) < (n : Int)) = false := by simp; omega
      go_wp2_with fail
      go_ret2
      rw [MZ.out.done (by omega)]
      exact ⟨rfl, F', RZ.out, KZ.out, FZ.out⟩
end Go.Proofs.YtggbjffmclpmgaaGreatDoor
namespace Go.Proofs.YtggbjffmclpmgaaGreatDoor
open Go.RowKit

/-! The two coffers stay alike while the key is turned: plain data. -/

variable {X : PS} {Y : RS} {n : Nat}
theorem new_two (m : Nat) (room : Int) (key : ByteArray) (hc : cfgOk (m : Int) room key = true) : Rel2 0 (PS.new m room key) (RS.new m room key) := by
  unfold cfgOk at hc
  simp at hc
  obtain ⟨⟨c1, c2, c3, c4⟩, c5⟩ := hc
  have e : (RS.new (m : Int) room key).seen = List.replicate m 0 := by show List.replicate (m : Int).toNat 0 = _; rw [Int.toNat_natCast]
  have e2 : (RS.new (m : Int) room key).ops = List.replicate m RUnd.zero := by show List.replicate (m : Int).toNat RUnd.zero = _; rw [Int.toNat_natCast]
  have one : ∀ (i : Nat) (k : RKey), ([⟨key, 1, 1, false⟩] : List RKey)[i]? = some k → i = 0 ∧ k = ⟨key, 1, 1, false⟩ := by
    intro i k hk
    have hi : i < 1 := (List.getElem?_eq_some_iff.1 hk).1
    have hi0 : i = 0 := by omega
    subst hi0
    exact ⟨rfl, (Option.some.inj hk).symm⟩
  refine ⟨⟨rfl, ⟨Nat.le_refl _, by show 1 ≤ 6; omega⟩, fun i p k hp hk => ?_, fun k hk => ?_, fun i k hk => ?_, fun i k hk => ?_, fun i k hk hz => ?_, fun i j a c hij ha hcj _ => ?_, fun ht => (by cases ht), fun i k hk hz => ?_⟩, fun j K _ hK => ?_, ⟨rfl, Int.le_refl _, by show (1 : Int) + 1 ≤ 2 * ((1 : Nat) : Int); omega, fun q => by cases q⟩, rfl, rfl, rfl, ⟨c3, c4⟩, rfl, rfl, Int.le_refl _, ⟨rfl, Int.le_refl _, Int.le_refl _⟩, ?_, ?_, rfl, ?_, ?_, ?_, Nat.le_refl _, fun ht => (by cases ht)⟩
  · obtain ⟨rfl, rfl⟩ := one i k hk
    obtain rfl := (Option.some.inj hp).symm
    exact ⟨rfl, rfl, c5, fun _ => rfl, fun h => by cases h⟩
  · obtain ⟨_, rfl⟩ := one 0 k hk
    exact ⟨rfl, rfl⟩
  · obtain ⟨_, rfl⟩ := one i k hk
    exact ⟨Int.le_refl _, Int.le_refl _⟩
  · obtain ⟨_, rfl⟩ := one i k hk
    exact ⟨by show (0 : Int) ≤ 1; omega, Int.le_refl _⟩
  · obtain ⟨_, rfl⟩ := one i k hk
    cases hz
  · obtain ⟨rfl, _⟩ := one j c hcj
    omega
  · obtain ⟨_, rfl⟩ := one i k hk
    cases hz
  · obtain ⟨_, rfl⟩ := one j K hK
    rfl
  · rw [e, e2]
    show (List.replicate m PSrv.zero).length = _ ∧ _
    simp
    omega
  · intro i s hs
    rw [e, e2]
    have hs : (List.replicate m PSrv.zero)[i]? = some s := hs
    rw [List.getElem?_replicate] at hs
    split at hs
    · rename_i hi
      obtain rfl := (Option.some.inj hs).symm
      exact ⟨0, RUnd.zero, by rw [List.getElem?_replicate, if_pos hi], by rw [List.getElem?_replicate, if_pos hi], rfl, ⟨Int.le_refl _, by show (0 : Int) ≤ 1; omega⟩, rfl, fun q => by cases q⟩
    · cases hs
  · show ((([] : List Ent).length : Nat) : Int) ≤ room
    simp
    omega
  · intro i k hk
    have hk : ([] : List RKept)[i]? = some k := hk
    simp at hk
  · intro k hk
    have hk : k ∈ ([] : List RKept) := hk
    simp at hk
end Go.Proofs.YtggbjffmclpmgaaGreatDoor
namespace Go.Proofs.YtggbjffmclpmgaaGreatDoor
open Go.RowKit

variable {X : PS} {Y : RS} {n : Nat}
theorem snoc_at {α : Type} {l : List α} {x k : α} {i : Nat} (h : (l ++ [x])[i]? = some k) : l[i]? = some k ∨ (i = l.length ∧ k = x) := by
  by_cases hi : i < l.length
  · rw [List.getElem?_append_left hi] at h; exact Or.inl h
  · rw [List.getElem?_append_right (by omega)] at h
    have : i - l.length < 1 := (List.getElem?_eq_some_iff.1 h).1
    have hi2 : i = l.length := by omega
    subst hi2
    rw [Nat.sub_self] at h
    exact Or.inr ⟨rfl, (Option.some.inj h).symm⟩
theorem set_at {α : Type} {l : List α} {x k : α} {i j : Nat} (h : (l.set j x)[i]? = some k) : (i ≠ j ∧ l[i]? = some k) ∨ (i = j ∧ k = x) := by
  by_cases e : j = i
  · subst e
    have hi : j < l.length := by simpa using (List.getElem?_eq_some_iff.1 h).1
    rw [List.getElem?_set_self hi] at h
    exact Or.inr ⟨rfl, (Option.some.inj h).symm⟩
  · rw [List.getElem?_set_ne e] at h
    exact Or.inl ⟨fun q => e q.symm, h⟩
/-! Stage. -/
def PS.stage (X : PS) (t : ByteArray) : PS := { X with epoch := X.epoch + 1, keys := X.keys ++ [⟨t, X.epoch + 1, 0⟩], turn := 1 }
theorem rel_stage (h : Rel2 n X Y) (t : ByteArray) (ht : t.size = 48) (hk : Y.keys.length < 6) (hu : Y.turn = 0) : Rel2 (n + 1) (X.stage t) (Y.stage t) := by
  have hz : ∀ e : Int, writesOf (Y.keys ++ [⟨t, Y.epoch + 1, 0, false⟩]) e = writesOf Y.keys e := fun e => by
    rw [writesOf_snoc]
    simp
  have hW : writesOf (Y.keys ++ [⟨t, Y.epoch + 1, 0, false⟩]) (Y.epoch + 1) = writesOf Y.keys Y.epoch := by rw [hz, h.keys.later h.ep.2.1 (by omega)]
  have u := h.up
  refine ⟨⟨?_, ?_, ?_, ?_, ?_, ?_, ?_, ?_, ?_, ?_⟩, ?_, ?_, ?_, rfl, h.room, h.rooms, h.rev, h.floor, h.floor0, u.draws, h.len, ?_, h.ent, h.few, h.revs, ?_, u.all, fun q => by cases q⟩
  · show (X.keys ++ [_]).length = (Y.keys ++ [_]).length
    simp [h.keys.len]
  · show 1 ≤ (Y.keys ++ [_]).length ∧ (Y.keys ++ [_]).length ≤ 6
    simp
    omega
  · intro i p k hp hk2
    rcases snoc_at hp with hp | ⟨hp, rfl⟩
    · rcases snoc_at hk2 with hk2 | ⟨hk2, rfl⟩
      · exact h.keys.same i p k hp hk2
      · have := (List.getElem?_eq_some_iff.1 hp).1; have := h.keys.len; omega
    · rcases snoc_at hk2 with hk2 | ⟨_, rfl⟩
      · have := (List.getElem?_eq_some_iff.1 hk2).1; have := h.keys.len; omega
      · exact ⟨by show X.epoch + 1 = Y.epoch + 1; rw [h.ep.1], rfl, ht, fun _ => rfl, fun q => by cases q⟩
  · intro k hk2
    rcases snoc_at hk2 with hk2 | ⟨hk2, _⟩
    · exact h.keys.first k hk2
    · have := h.keys.few.1; omega
  · intro i k hk2
    show 1 ≤ k.came ∧ k.came ≤ Y.epoch + 1
    have := h.ep.2.1
    rcases snoc_at hk2 with hk2 | ⟨_, rfl⟩
    · have := h.keys.came i k hk2; omega
    · show 1 ≤ Y.epoch + 1 ∧ Y.epoch + 1 ≤ Y.epoch + 1; omega
  · intro i k hk2
    show 0 ≤ k.writes ∧ k.writes ≤ Y.epoch + 1
    have := h.ep.2.1
    rcases snoc_at hk2 with hk2 | ⟨_, rfl⟩
    · have := h.keys.wr i k hk2; omega
    · show 0 ≤ (0 : Int) ∧ 0 ≤ Y.epoch + 1; omega
  · intro i k hk2 hz0
    rcases snoc_at hk2 with hk2 | ⟨hk2, _⟩
    · have := (h.keys.zero i k hk2 hz0).2; omega
    · exact ⟨by show i + 1 = (Y.keys ++ [_]).length; simp [hk2], rfl⟩
  · intro i j a c hij ha hc hcz
    rcases snoc_at hc with hc | ⟨_, rfl⟩
    · rcases snoc_at ha with ha | ⟨ha, _⟩
      · exact h.keys.rise i j a c hij ha hc hcz
      · have := (List.getElem?_eq_some_iff.1 hc).1; omega
    · exact absurd rfl hcz
  · intro _ k hk2
    rcases snoc_at hk2 with hk2 | ⟨_, rfl⟩
    · have := (List.getElem?_eq_some_iff.1 hk2).1
      have e : (Y.stage t).keys.length = Y.keys.length + 1 := by show (Y.keys ++ [_]).length = _; simp
      omega
    · rfl
  · intro i k hk2 hz0
    rcases snoc_at hk2 with hk2 | ⟨_, rfl⟩
    · exact h.keys.fresh i k hk2 hz0
    · rfl
  · intro j K hj hK
    replace hj : writesOf (Y.keys ++ [⟨t, Y.epoch + 1, 0, false⟩]) (Y.epoch + 1) = (j : Int) + 1 := hj
    rw [hW] at hj
    rcases snoc_at hK with hK | ⟨_, rfl⟩
    · exact h.live j K hj hK
    · rfl
  · refine ⟨by show X.epoch + 1 = Y.epoch + 1; rw [h.ep.1], by show 1 ≤ Y.epoch + 1; have := h.ep.2.1; omega, ?_, fun _ => ?_⟩
    · show Y.epoch + 1 + 1 ≤ 2 * (((Y.keys ++ [_]).length : Nat) : Int)
      have := h.ep.2.2.1
      simp
      omega
    · show Y.epoch + 1 + 2 ≤ 2 * (((Y.keys ++ [_]).length : Nat) : Int)
      have := h.ep.2.2.1
      simp
      omega
  · show X.write = writesOf (Y.keys ++ [⟨t, Y.epoch + 1, 0, false⟩]) (Y.epoch + 1)
    rw [hW]; exact h.write
  · intro i s hs
    obtain ⟨sn, uu, a1, a2, a3⟩ := h.srv i s hs
    refine ⟨sn, uu, a1, a2, a3.seen, ⟨a3.sn.1, by show sn ≤ Y.epoch + 1; have := a3.sn.2; omega⟩, a3.busy, fun hb => ?_⟩
    obtain ⟨e1, e2, e3, e4, e5, e6, e7⟩ := a3.op hb
    refine ⟨e1, e2, e3, e4, ⟨e5.1, by show uu.epoch ≤ Y.epoch + 1; omega⟩, e6, fun hg => ⟨(e7 hg).1, ?_⟩⟩
    show uu.e.key = writesOf (Y.keys ++ [⟨t, Y.epoch + 1, 0, false⟩]) uu.epoch
    rw [hz]; exact (e7 hg).2
  · intro k hk2 hg
    obtain ⟨a1, j, K, a2, a3, a4⟩ := h.eok k hk2 hg
    exact ⟨a1, j, K, a2, by show (Y.keys ++ [_])[j]? = _; rw [List.getElem?_append_left (List.getElem?_eq_some_iff.1 a3).1]; exact a3, a4⟩
/-! Gate. -/
def PS.setTurn (X : PS) (t : Int) : PS := { X with turn := t }
theorem rel_gate (h : Rel2 n X Y) (hg : goingOf Y = true) (hu : usedOf Y = false) : Rel2 (n + 1) (X.setTurn 3) { Y with turn := 3 } := by
  have u := h.up
  have hne : Y.turn ≠ 1 := by
    unfold goingOf at hg
    intro e
    rw [e] at hg
    cases hg
  refine ⟨⟨h.keys.len, h.keys.few, h.keys.same, h.keys.first, h.keys.came, h.keys.wr, fun i k hk hz => absurd (h.keys.zero i k hk hz).2 hne, h.keys.rise, fun q => (by cases q), h.keys.fresh⟩, h.live, ⟨h.ep.1, h.ep.2.1, h.ep.2.2.1, fun q => (by cases q)⟩, h.write, rfl, h.room, h.rooms, h.rev, h.floor, h.floor0, u.draws, h.len, h.srv, h.ent, h.few, h.revs, h.eok, u.all, fun _ k hk ho hgo => ?_⟩
  have hm : k.e ∈ keptOf Y.all := by
    unfold keptOf
    exact List.mem_map.2 ⟨k, List.mem_filter.2 ⟨hk, by simp [ho]⟩, rfl⟩
  unfold usedOf at hu
  have := List.any_eq_false.1 hu k.e hm
  simp [hgo] at this
  exact this
/-! Promote. -/
def PS.promote (X : PS) (m : Nat) (P : PKey) : PS := { X with epoch := X.epoch + 1, keys := X.keys.set m { P with wrote := X.epoch + 1 }, write := (m : Int) + 1, turn := 2 }
theorem rel_promote (h : Rel2 n X Y) (hu : Y.turn = 1) {m : Nat} {P : PKey} {K : RKey} (hm : Y.keys.length = m + 1) (hP : X.keys[m]? = some P) (hK : Y.keys[m]? = some K) : Rel2 (n + 1) (X.promote m P) (Y.promote m K) := by
  have hK0 : K.writes = 0 := h.keys.staged hu K (by rw [show Y.keys.length - 1 = m by omega]; exact hK)
  have hKg := h.keys.fresh m K hK hK0
  have hks := h.keys.same m P K hP hK
  have u := h.up
  have e1 := h.ep.2.1
  have old : ∀ e : Int, e ≤ Y.epoch → writesOf (Y.keys.set m { K with writes := Y.epoch + 1 }) e = writesOf Y.keys e := fun e he => by
    refine writes_congr (by simp) (fun i k k' hk hk' => ?_)
    rcases set_at hk with ⟨_, hk⟩ | ⟨rfl, rfl⟩
    · obtain rfl := Option.some.inj (hk.symm.trans hk')
      rfl
    · obtain rfl := Option.some.inj (hK.symm.trans hk')
      simp [writesAt, hK0]
      omega
  have hme : (Y.keys.set m { K with writes := Y.epoch + 1 })[m]? = some { K with writes := Y.epoch + 1 } := List.getElem?_set_self (by omega)
  have hW : writesOf (Y.keys.set m { K with writes := Y.epoch + 1 }) (Y.epoch + 1) = (m : Int) + 1 := by
    refine writes_unique hme (by simp [writesAt]; omega) (fun i k hi hk => ?_)
    have := (List.getElem?_eq_some_iff.1 hk).1
    simp at this
    omega
  refine ⟨⟨?_, ?_, ?_, ?_, ?_, ?_, ?_, ?_, ?_, ?_⟩, ?_, ?_, ?_, rfl, h.room, h.rooms, h.rev, h.floor, h.floor0, u.draws, h.len, ?_, h.ent, h.few, h.revs, ?_, u.all, fun q => by cases q⟩
  · show (X.keys.set m _).length = (Y.keys.set m _).length
    simp [h.keys.len]
  · show 1 ≤ (Y.keys.set m _).length ∧ (Y.keys.set m _).length ≤ 6
    simp
    exact h.keys.few
  · intro i p k hp hk
    rcases set_at hp with ⟨hi, hp⟩ | ⟨hi, rfl⟩
    · rcases set_at hk with ⟨_, hk⟩ | ⟨hk, _⟩
      · exact h.keys.same i p k hp hk
      · exact absurd hk hi
    · rcases set_at hk with ⟨hk, _⟩ | ⟨_, rfl⟩
      · exact absurd hi hk
      · exact ⟨hks.came, by show X.epoch + 1 = Y.epoch + 1; rw [h.ep.1], hks.size, hks.text, hks.gone⟩
  · intro k hk
    rcases set_at hk with ⟨_, hk⟩ | ⟨hk, _⟩
    · exact h.keys.first k hk
    · have := (h.keys.first K (by rw [hk]; exact hK)).2
      omega
  · intro i k hk
    show 1 ≤ k.came ∧ k.came ≤ Y.epoch + 1
    rcases set_at hk with ⟨_, hk⟩ | ⟨_, rfl⟩
    · have := h.keys.came i k hk; omega
    · have := h.keys.came m K hK
      show 1 ≤ K.came ∧ K.came ≤ Y.epoch + 1
      omega
  · intro i k hk
    show 0 ≤ k.writes ∧ k.writes ≤ Y.epoch + 1
    rcases set_at hk with ⟨_, hk⟩ | ⟨_, rfl⟩
    · have := h.keys.wr i k hk; omega
    · show 0 ≤ Y.epoch + 1 ∧ Y.epoch + 1 ≤ Y.epoch + 1; omega
  · intro i k hk hz0
    rcases set_at hk with ⟨hi, hk⟩ | ⟨_, rfl⟩
    · have := (h.keys.zero i k hk hz0).1; omega
    · have hz1 : Y.epoch + 1 = 0 := hz0
      omega
  · intro i j a c hij ha hc hcz
    rcases set_at ha with ⟨hi, ha⟩ | ⟨hi, _⟩
    · rcases set_at hc with ⟨_, hc⟩ | ⟨_, rfl⟩
      · exact h.keys.rise i j a c hij ha hc hcz
      · have := h.keys.wr i a ha
        show a.writes < Y.epoch + 1
        omega
    · have := (List.getElem?_eq_some_iff.1 hc).1
      have e : (Y.promote m K).keys.length = m + 1 := by show (Y.keys.set m _).length = _; simp [hm]
      omega
  · intro q
    cases q
  · intro i k hk hz0
    rcases set_at hk with ⟨_, hk⟩ | ⟨_, rfl⟩
    · exact h.keys.fresh i k hk hz0
    · exact hKg
  · intro j K' hj hK'
    replace hj : writesOf (Y.keys.set m { K with writes := Y.epoch + 1 }) (Y.epoch + 1) = (j : Int) + 1 := hj
    rw [hW] at hj
    rcases set_at hK' with ⟨hi, _⟩ | ⟨_, rfl⟩
    · omega
    · exact hKg
  · refine ⟨by show X.epoch + 1 = Y.epoch + 1; rw [h.ep.1], by show 1 ≤ Y.epoch + 1; omega, ?_, fun q => by cases q⟩
    show Y.epoch + 1 + 1 ≤ 2 * (((Y.keys.set m _).length : Nat) : Int)
    have := h.ep.2.2.2 hu
    simp
    omega
  · show (m : Int) + 1 = writesOf (Y.keys.set m { K with writes := Y.epoch + 1 }) (Y.epoch + 1)
    rw [hW]
  · intro i s hs
    obtain ⟨sn, uu, a1, a2, a3⟩ := h.srv i s hs
    refine ⟨sn, uu, a1, a2, a3.seen, ⟨a3.sn.1, by show sn ≤ Y.epoch + 1; have := a3.sn.2; omega⟩, a3.busy, fun hb => ?_⟩
    obtain ⟨e1, e2, e3, e4, e5, e6, e7⟩ := a3.op hb
    refine ⟨e1, e2, e3, e4, ⟨e5.1, by show uu.epoch ≤ Y.epoch + 1; omega⟩, e6, fun hg => ⟨(e7 hg).1, ?_⟩⟩
    show uu.e.key = writesOf (Y.keys.set m { K with writes := Y.epoch + 1 }) uu.epoch
    rw [old _ e5.2]; exact (e7 hg).2
  · intro k hk2 hg
    obtain ⟨a1, j, K', a2, a3, a4⟩ := h.eok k hk2 hg
    by_cases e : j = m
    · subst e
      obtain rfl := Option.some.inj (a3.symm.trans hK)
      exact ⟨a1, j, _, a2, hme, fun _ => hKg⟩
    · exact ⟨a1, j, K', a2, by show (Y.keys.set m _)[j]? = _; rw [List.getElem?_set_ne (fun q => e q.symm)]; exact a3, a4⟩
/-! Destroy. -/
def PS.destroy (X : PS) (j : Nat) (P : PKey) (t : Int) : PS := { X with keys := X.keys.set j { P with text := ⟨#[]⟩ }, turn := t }
theorem rel_destroy (h : Rel2 n X Y) {j : Nat} {P : PKey} {K : RKey} (hP : X.keys[j]? = some P) (hK : Y.keys[j]? = some K) (hb : badGate Y ((j : Int) + 1) = false) : Rel2 (n + 1) (X.destroy j P (Y.destroy j K).turn) (Y.destroy j K) := by
  unfold badGate at hb
  rw [Bool.or_eq_false_iff] at hb
  have hw : writesOf Y.keys Y.epoch ≠ (j : Int) + 1 := fun e => by
    have := hb.1
    rw [e] at this
    simp at this
  have hu : Y.turn = 3 := by simpa using hb.2
  have hks := h.keys.same j P K hP hK
  have hjl : j < Y.keys.length := (List.getElem?_eq_some_iff.1 hK).1
  have u := h.up
  have old : ∀ e : Int, writesOf (Y.keys.set j { K with gone := true }) e = writesOf Y.keys e := fun e => by
    refine writes_congr (by simp) (fun i k k' hk hk' => ?_)
    rcases set_at hk with ⟨_, hk⟩ | ⟨rfl, rfl⟩
    · obtain rfl := Option.some.inj (hk.symm.trans hk')
      rfl
    · obtain rfl := Option.some.inj (hK.symm.trans hk')
      rfl
  have ht1 : (Y.destroy j K).turn ≠ 1 := by
    show (if leftOf (Y.keys.set j { K with gone := true }) == 1 then (0 : Int) else Y.turn) ≠ 1
    split
    · omega
    · omega
  have noz : ∀ (i : Nat) (k : RKey), Y.keys[i]? = some k → k.writes ≠ 0 := fun i k hk hz => by
    have := (h.keys.zero i k hk hz).2
    omega
  refine ⟨⟨?_, ?_, ?_, ?_, ?_, ?_, ?_, ?_, ?_, ?_⟩, ?_, ⟨h.ep.1, h.ep.2.1, ?_, fun q => absurd q ht1⟩, ?_, rfl, h.room, h.rooms, h.rev, h.floor, h.floor0, u.draws, h.len, ?_, h.ent, h.few, h.revs, ?_, u.all, ?_⟩
  · show (X.keys.set j _).length = (Y.keys.set j _).length
    simp [h.keys.len]
  · show 1 ≤ (Y.keys.set j _).length ∧ (Y.keys.set j _).length ≤ 6
    simp
    exact h.keys.few
  · intro i p k hp hk
    rcases set_at hp with ⟨hi, hp⟩ | ⟨hi, rfl⟩
    · rcases set_at hk with ⟨_, hk⟩ | ⟨hk, _⟩
      · exact h.keys.same i p k hp hk
      · exact absurd hk hi
    · rcases set_at hk with ⟨hk, _⟩ | ⟨_, rfl⟩
      · exact absurd hi hk
      · exact ⟨hks.came, hks.wrote, hks.size, fun q => (by cases q), fun _ => rfl⟩
  · intro k hk
    rcases set_at hk with ⟨_, hk2⟩ | ⟨h0, rfl⟩
    · exact h.keys.first k hk2
    · exact h.keys.first K (by rw [h0]; exact hK)
  · intro i k hk
    rcases set_at hk with ⟨_, hk⟩ | ⟨_, rfl⟩
    · exact h.keys.came i k hk
    · exact h.keys.came j K hK
  · intro i k hk
    rcases set_at hk with ⟨_, hk⟩ | ⟨_, rfl⟩
    · exact h.keys.wr i k hk
    · exact h.keys.wr j K hK
  · intro i k hk hz0
    rcases set_at hk with ⟨_, hk⟩ | ⟨_, rfl⟩
    · exact absurd hz0 (noz i k hk)
    · exact absurd hz0 (noz j K hK)
  · intro i l a c hil ha hc hcz
    rcases set_at ha with ⟨_, ha2⟩ | ⟨hi2, hae⟩
    · rcases set_at hc with ⟨_, hc2⟩ | ⟨hl2, hce⟩
      · exact h.keys.rise i l a c hil ha2 hc2 hcz
      · have := h.keys.rise i j a K (by omega) ha2 hK (by rw [hce] at hcz; exact hcz)
        rw [hce]; exact this
    · rcases set_at hc with ⟨_, hc2⟩ | ⟨hl2, _⟩
      · have := h.keys.rise j l K c (by omega) hK hc2 hcz
        rw [hae]; exact this
      · omega
  · intro q
    exact absurd q ht1
  · intro i k hk hz0
    rcases set_at hk with ⟨_, hk⟩ | ⟨_, rfl⟩
    · exact absurd hz0 (noz i k hk)
    · exact absurd hz0 (noz j K hK)
  · intro l K' hl hK'
    replace hl : writesOf (Y.keys.set j { K with gone := true }) Y.epoch = (l : Int) + 1 := hl
    rw [old] at hl
    rcases set_at hK' with ⟨_, hK'⟩ | ⟨rfl, _⟩
    · exact h.live l K' hl hK'
    · exact absurd hl hw
  · show Y.epoch + 1 ≤ 2 * (((Y.keys.set j _).length : Nat) : Int)
    simp
    exact h.ep.2.2.1
  · show X.write = writesOf (Y.keys.set j { K with gone := true }) Y.epoch
    rw [old]; exact h.write
  · intro i s hs
    obtain ⟨sn, uu, a1, a2, a3⟩ := h.srv i s hs
    refine ⟨sn, uu, a1, a2, a3.seen, a3.sn, a3.busy, fun hbz => ?_⟩
    obtain ⟨e1, e2, e3, e4, e5, e6, e7⟩ := a3.op hbz
    refine ⟨e1, e2, e3, e4, e5, e6, fun hg => ⟨(e7 hg).1, ?_⟩⟩
    show uu.e.key = writesOf (Y.keys.set j { K with gone := true }) uu.epoch
    rw [old]; exact (e7 hg).2
  · intro k hk2 hg
    obtain ⟨a1, l, K', a2, a3, a4⟩ := h.eok k hk2 hg
    by_cases e : l = j
    · subst e
      refine ⟨a1, l, { K with gone := true }, a2, List.getElem?_set_self hjl, fun ho => ?_⟩
      exact absurd ((h.gated hu k hk2 ho hg).symm.trans a2) hw
    · exact ⟨a1, l, K', a2, by show (Y.keys.set j _)[l]? = _; rw [List.getElem?_set_ne (fun q => e q.symm)]; exact a3, a4⟩
  · intro _ k hk2 ho hg
    show k.e.key = writesOf (Y.keys.set j { K with gone := true }) Y.epoch
    rw [old]
    exact h.gated hu k hk2 ho hg
/-! A move of Migrate. -/
def PS.moved (X : PS) (e : Ent) : PS := { X with draws := X.draws + 1, rev := X.rev + 1, entries := X.entries ++ [e] }
theorem Rel2.keysOk (h : Rel2 n X Y) : KeysOk Y := fun k hk hg => by
  obtain ⟨a1, j, K, a2, a3, _⟩ := h.eok k hk hg
  have hj : j < Y.keys.length := (List.getElem?_eq_some_iff.1 a3).1
  obtain ⟨p, hp⟩ : ∃ p, X.keys[j]? = some p := ⟨_, List.getElem?_eq_getElem (by rw [h.keys.len]; exact hj)⟩
  exact ⟨a1, j, K, a2, a3, (h.keys.same j p K hp a3).size⟩
theorem rel_move (h : Rel2 n X Y) (hn : n ≤ 50000000) {j : Nat} {K : RKey} (hj : writesOf Y.keys Y.epoch = (j : Int) + 1) (hK : Y.keys[j]? = some K) (hf : (dueOf Y).found = true) (hu : fullOf Y = false) : Rel2 (n + 1) (X.moved (moveEnt Y K ((j : Int) + 1))) (Y.move K ((j : Int) + 1)) := by
  obtain ⟨d0, d1, d2⟩ := h.draws
  have hlen : ((keptOf Y.all).length : Int) < Y.room := by unfold fullOf at hu; simp at hu; exact hu
  have hKg := h.live j K hj hK
  have hT : K.text.size = 48 := by
    have hjl : j < Y.keys.length := (List.getElem?_eq_some_iff.1 hK).1
    obtain ⟨p, hp⟩ : ∃ p, X.keys[j]? = some p := ⟨_, List.getElem?_eq_getElem (by rw [h.keys.len]; exact hjl)⟩
    exact (h.keys.same j p K hp hK).size
  have hok := move_ok h.keysOk hK hT hf ⟨d1, by omega⟩
  refine ⟨h.keys, h.live, h.ep, h.write, h.turn, h.room, h.rooms, ?_, h.floor, h.floor0, ⟨?_, ?_, ?_⟩, h.len, h.srv, ?_, ?_, ?_, ?_, ?_, ?_⟩
  · show X.rev + 1 = (((Y.all ++ [_]).length : Nat) : Int)
    rw [h.rev, List.length_append]; rfl
  · show X.draws + 1 = Y.draws + 1
    rw [d0]
  · show 0 ≤ Y.draws + 1
    omega
  · show Y.draws + 1 ≤ ((n + 1 : Nat) : Int)
    omega
  · show X.entries ++ [moveEnt Y K ((j : Int) + 1)] = keptOf (Y.all ++ [⟨moveEnt Y K ((j : Int) + 1), false⟩])
    rw [keptOf_snoc, h.ent]
    rfl
  · show (((X.entries ++ [_]).length : Nat) : Int) ≤ Y.room
    rw [h.ent, List.length_append]
    show (((keptOf Y.all).length + 1 : Nat) : Int) ≤ Y.room
    omega
  · exact revs_snoc h.revs ⟨moveEnt Y K ((j : Int) + 1), false⟩ rfl
  · intro k hk hg
    rcases List.mem_append.1 hk with hk2 | hk2
    · exact h.eok k hk2 hg
    · obtain ⟨a1, _⟩ := hok k hk hg
      obtain rfl := List.mem_singleton.1 hk2
      exact ⟨a1, j, K, rfl, hK, fun _ => hKg⟩
  · show (Y.all ++ [_]).length ≤ n + 1
    rw [List.length_append]
    show Y.all.length + 1 ≤ n + 1
    have := h.all
    omega
  · intro ht k hk ho hg
    rcases List.mem_append.1 hk with hk2 | hk2
    · exact h.gated ht k hk2 ho hg
    · obtain rfl := List.mem_singleton.1 hk2
      exact hj.symm
end Go.Proofs.YtggbjffmclpmgaaGreatDoor
namespace Go.Proofs.YtggbjffmclpmgaaGreatDoor
open Go.RowKit

/-! Stage, Promote, Gate, Destroy on both sides, as soon as the program's are known. -/

variable {X : PS} {Y : RS} {n : Nat}
structure PStage (X : PS) (t : ByteArray) : Prop where
  arg : t.size ≠ 48 → PUni 38 [.string t] X (.tuple #[.int .i64 0, .int .i64 2]) X
  many : t.size = 48 → X.keys.length = 6 → PUni 38 [.string t] X (.tuple #[.int .i64 0, .int .i64 16]) X
  turn : t.size = 48 → X.keys.length < 6 → X.turn ≠ 0 → PUni 38 [.string t] X (.tuple #[.int .i64 0, .int .i64 17]) X
  yes : t.size = 48 → X.keys.length < 6 → X.turn = 0 → PUni 38 [.string t] X (.tuple #[.int .i64 ((X.keys.length : Int) + 1), .int .i64 0]) (X.stage t)
theorem stage_two (h : Rel2 n X Y) (t : ByteArray) (hP : PStage X t) : ∃ v e : Int, Pair2 38 39 [.string t] X Y n (.tuple #[.int .i64 v, .int .i64 e]) := by
  by_cases ht : t.size = 48
  · have h0 : ((t.size : Int) != 48) = false := by rw [bne_eq_false_iff_eq]; omega
    have hl := h.keys.len
    by_cases hk : Y.keys.length = 6
    · exact ⟨0, 16, X, Y, hP.many ht (by omega), r_same (fun w F b hR => Stage_many w t hR h0 hk), h.up⟩
    · have hk2 : Y.keys.length < 6 := by have := h.keys.few.2; omega
      by_cases hu : Y.turn = 0
      · refine ⟨(X.keys.length : Int) + 1, 0, X.stage t, Y.stage t, hP.yes ht (by omega) (by rw [h.turn]; exact hu), ?_, rel_stage h t ht hk2 hu⟩
        rw [hl]
        exact r_grow (fun w F b hR => Stage_yes w t hR h0 hk2 (by rw [hu]; rfl) ⟨by have := h.ep.2.1; omega, by have := h.ep.2.2.1; omega⟩)
      · exact ⟨0, 17, X, Y, hP.turn ht (by omega) (by rw [h.turn]; exact hu), r_same (fun w F b hR => Stage_turn w t hR h0 hk2 (by rw [bne_iff_ne]; exact hu)), h.up⟩
  · have h0 : ((t.size : Int) != 48) = true := by rw [bne_iff_ne]; omega
    exact ⟨0, 2, X, Y, hP.arg ht, r_same (fun w F b _ => Stage_arg w t h0), h.up⟩
structure PPromote (X : PS) : Prop where
  turn : X.turn ≠ 1 → PUni 40 [] X (.int .i64 17) X
  wait : X.turn = 1 → (∃ (i : Nat) (s : PSrv), X.servers[i]? = some s ∧ s.seen ≠ X.epoch) → PUni 40 [] X (.int .i64 18) X
  yes : X.turn = 1 → (∀ (i : Nat) (s : PSrv), X.servers[i]? = some s → s.seen = X.epoch) → ∀ (m : Nat) (P : PKey), X.keys.length = m + 1 → X.keys[m]? = some P → PUni 40 [] X (.int .i64 0) (X.promote m P)
theorem promote_two (h : Rel2 n X Y) (hP : PPromote X) : ∃ v : Int, Pair2 40 41 [] X Y n (.int .i64 v) := by
  by_cases hu : Y.turn = 1
  · obtain ⟨m, hm⟩ : ∃ m, Y.keys.length = m + 1 := ⟨Y.keys.length - 1, by have := h.keys.few.1; omega⟩
    have hl := h.keys.len
    obtain ⟨K, hK⟩ : ∃ K, Y.keys[m]? = some K := ⟨_, List.getElem?_eq_getElem (by omega)⟩
    obtain ⟨P, hPk⟩ : ∃ P, X.keys[m]? = some P := ⟨_, List.getElem?_eq_getElem (by omega)⟩
    have hr := fun (w : World) (F : Nat → Prop) (b : Nat) (hR : RIn w F b Y) => Promote_any w m K hR (by rw [hu]; rfl) h.len.2.2.1 hm (by have := h.keys.few.2; omega) hK ⟨by have := h.ep.2.1; omega, by have := h.ep.2.2.1; have := h.keys.few.2; omega⟩
    cases ha : allSeen Y
    · have hex : ∃ (i : Nat) (s : PSrv), X.servers[i]? = some s ∧ s.seen ≠ X.epoch := by
        obtain ⟨x, hx, hne⟩ := List.all_eq_false.1 ha
        obtain ⟨i, hi⟩ := List.getElem?_of_mem hx
        have hil : i < Y.seen.length := (List.getElem?_eq_some_iff.1 hi).1
        obtain ⟨s, hs⟩ : ∃ s, X.servers[i]? = some s := ⟨_, List.getElem?_eq_getElem (by rw [h.len.1]; exact hil)⟩
        obtain ⟨sn, uu, a1, _, a3⟩ := h.srv i s hs
        obtain rfl := Option.some.inj (hi.symm.trans a1)
        exact ⟨i, s, hs, by rw [a3.seen, h.ep.1]; simpa using hne⟩
      refine ⟨18, X, Y, hP.wait (by rw [h.turn]; exact hu) hex, r_low (fun w F b hR => (hr w F b hR).mono fun e w' q => ?_), h.up⟩
      rcases q with ⟨_, q1, q2⟩ | ⟨q, _⟩
      · exact ⟨q1, q2⟩
      · rw [ha] at q; cases q
    · have hall : ∀ (i : Nat) (s : PSrv), X.servers[i]? = some s → s.seen = X.epoch := fun i s hs => by
        obtain ⟨sn, uu, a1, _, a3⟩ := h.srv i s hs
        have := List.all_eq_true.1 ha sn (List.mem_of_getElem? a1)
        rw [a3.seen, h.ep.1]
        simpa using this
      refine ⟨0, _, _, hP.yes (by rw [h.turn]; exact hu) hall m P (by omega) hPk, r_kept (fun w F b hR => (hr w F b hR).mono fun e w' q => ?_), rel_promote h hu hm hPk hK⟩
      rcases q with ⟨q, _⟩ | ⟨_, q⟩
      · rw [ha] at q; cases q
      · exact q
  · exact ⟨17, X, Y, hP.turn (by rw [h.turn]; exact hu), r_same (fun w F b hR => Promote_turn w hR (by rw [bne_iff_ne]; exact hu)), h.up⟩
def pGoing (X : PS) : Bool := (X.turn == 2) || (X.turn == 3)
def pUsed (X : PS) : Bool := X.entries.any (fun e => !e.gone && (e.key != X.write))
structure PGate (X : PS) : Prop where
  turn : pGoing X = false → PUni 44 [] X (.int .i64 17) X
  used : pGoing X = true → pUsed X = true → PUni 44 [] X (.int .i64 19) X
  yes : pGoing X = true → pUsed X = false → PUni 44 [] X (.int .i64 0) (X.setTurn 3)
theorem gate_two (h : Rel2 n X Y) (hn : n ≤ 50000000) (hP : PGate X) : ∃ v : Int, Pair2 44 45 [] X Y n (.int .i64 v) := by
  have hg : pGoing X = goingOf Y := by unfold pGoing goingOf; rw [h.turn]
  have hu : pUsed X = usedOf Y := by unfold pUsed usedOf; rw [h.ent, h.write]
  have hA := h.all
  cases g : goingOf Y
  · exact ⟨17, X, Y, hP.turn (hg.trans g), r_same (fun w F b hR => Gate_turn w hR g), h.up⟩
  · have hr := fun (w : World) (F : Nat → Prop) (b : Nat) (hR : RIn w F b Y) => Gate_any w hR g h.keys.few.2 (by omega)
    cases uu : usedOf Y
    · refine ⟨0, X.setTurn 3, { Y with turn := 3 }, hP.yes (hg.trans g) (hu.trans uu), r_kept (fun w F b hR => ?_), rel_gate h g uu⟩
      have q := hr w F b hR
      unfold gateErr RS.gate at q
      rw [uu] at q
      exact q
    · refine ⟨19, X, Y, hP.used (hg.trans g) (hu.trans uu), r_kept (fun w F b hR => ?_), h.up⟩
      have q := hr w F b hR
      unfold gateErr RS.gate at q
      rw [uu] at q
      exact q
def pLeft (ks : List PKey) : Nat := ks.countP (fun k => !keyGone k)
structure PDestroy (X : PS) (k : Int) : Prop where
  none : k < 1 ∨ (X.keys.length : Int) < k → PUni 46 [.int .i64 k] X (.int .i64 12) X
  gone : ∀ (j : Nat) (P : PKey), k = (j : Int) + 1 → X.keys[j]? = some P → keyGone P = true → PUni 46 [.int .i64 k] X (.int .i64 14) X
  gate : ∀ (j : Nat) (P : PKey), k = (j : Int) + 1 → X.keys[j]? = some P → keyGone P = false → (k = X.write ∨ X.turn ≠ 3) → PUni 46 [.int .i64 k] X (.int .i64 20) X
  yes : ∀ (j : Nat) (P : PKey), k = (j : Int) + 1 → X.keys[j]? = some P → keyGone P = false → k ≠ X.write → X.turn = 3 → PUni 46 [.int .i64 k] X (.int .i64 0) (X.destroy j P (if pLeft (X.keys.set j { P with text := ⟨#[]⟩ }) == 1 then 0 else X.turn))
theorem KSame.alive {p : PKey} {k : RKey} (h : KSame p k) : keyGone p = k.gone := by
  cases hg : k.gone
  · exact keyGone_no (by rw [h.text hg]; exact h.size)
  · exact h.dead hg
theorem left_same : ∀ (ks : List PKey) (rs : List RKey), ks.length = rs.length → (∀ (i : Nat) (p : PKey) (k : RKey), ks[i]? = some p → rs[i]? = some k → keyGone p = k.gone) → pLeft ks = leftOf rs
  | [], [], _, _ => rfl
  | p :: r, k :: r', hl, hs => by
    have ih := left_same r r' (by simpa using hl) (fun i p k hp hk => hs (i + 1) p k (by simpa using hp) (by simpa using hk))
    have h0 := hs 0 p k rfl rfl
    unfold pLeft leftOf at *
    rw [List.countP_cons, List.countP_cons, ih, h0]
theorem destroy_two (h : Rel2 n X Y) (k : Int) (hP : PDestroy X k) : ∃ v : Int, Pair2 46 47 [.int .i64 k] X Y n (.int .i64 v) := by
  have hl := h.keys.len
  have hf := h.keys.few
  cases hno : noKey Y k
  · have hno2 : ¬ k < 1 ∧ ¬ (Y.keys.length : Int) < k := by unfold noKey at hno; simp at hno; omega
    obtain ⟨j, rfl⟩ : ∃ j : Nat, k = (j : Int) + 1 := ⟨(k - 1).toNat, by omega⟩
    obtain ⟨K, hK⟩ : ∃ K, Y.keys[j]? = some K := ⟨_, List.getElem?_eq_getElem (by omega)⟩
    obtain ⟨P, hPk⟩ : ∃ P, X.keys[j]? = some P := ⟨_, List.getElem?_eq_getElem (by omega)⟩
    have hks := h.keys.same j P K hPk hK
    have hj6 : j ≤ 6 := by omega
    cases hg : K.gone
    · have hgp : keyGone P = false := hks.alive.trans hg
      cases hb : badGate Y ((j : Int) + 1)
      · have hb2 := hb
        unfold badGate at hb2
        rw [Bool.or_eq_false_iff] at hb2
        have q1 : (j : Int) + 1 ≠ X.write := by rw [h.write]; simpa using hb2.1
        have q2 : X.turn = 3 := by rw [h.turn]; simpa using hb2.2
        have e : (if pLeft (X.keys.set j { P with text := ⟨#[]⟩ }) == 1 then (0 : Int) else X.turn) = (Y.destroy j K).turn := by
          show _ = (if leftOf (Y.keys.set j { K with gone := true }) == 1 then (0 : Int) else Y.turn)
          rw [h.turn, left_same (X.keys.set j { P with text := ⟨#[]⟩ }) (Y.keys.set j { K with gone := true }) (by simp [hl]) (fun i p k hp hk => ?_)]
          rcases set_at hp with ⟨hi, hp⟩ | ⟨hi, hpe⟩
          · rcases set_at hk with ⟨_, hk⟩ | ⟨hk, _⟩
            · exact (h.keys.same i p k hp hk).alive
            · exact absurd hk hi
          · rcases set_at hk with ⟨hk, _⟩ | ⟨_, hke⟩
            · exact absurd hi hk
            · rw [hpe, hke]
              exact beq_self_eq_true (⟨#[]⟩ : ByteArray).toList
        have hx := hP.yes j P rfl hPk hgp q1 q2
        rw [e] at hx
        exact ⟨0, _, _, hx, r_kept (fun w F b hR => Destroy_yes w j K hR hK hj6 hf.2 hg hb), rel_destroy h hPk hK hb⟩
      · refine ⟨20, X, Y, hP.gate j P rfl hPk hgp ?_, r_same (fun w F b hR => Destroy_gate w j K hR hK hj6 hf.2 hg hb), h.up⟩
        unfold badGate at hb
        rw [Bool.or_eq_true] at hb
        rcases hb with q | q
        · exact Or.inl (by rw [h.write]; simpa using q)
        · exact Or.inr (by rw [h.turn]; simpa using q)
    · exact ⟨14, X, Y, hP.gone j P rfl hPk (hks.alive.trans hg), r_same (fun w F b hR => Destroy_gone w j K hR hK hj6 hg), h.up⟩
  · refine ⟨12, X, Y, hP.none ?_, r_same (fun w F b hR => Destroy_none w k hR hno), h.up⟩
    unfold noKey at hno
    simp at hno
    omega
end Go.Proofs.YtggbjffmclpmgaaGreatDoor
namespace Go.Proofs.YtggbjffmclpmgaaGreatDoor
open Go.RowKit

/-! All that Turns asks of the two sides, as soon as the program's own contracts are known. -/

def Rel21 (n : Nat) (X : PS) (Y : RS) : Prop := Rel2 (21 * n) X Y
theorem pair21 {fx fr : Nat} {args : List Value} {X : PS} {Y : RS} {n : Nat} {v : Value} (h : Pair2 fx fr args X Y (21 * n) v) : PairR Rel21 fx fr args X Y n v := by
  obtain ⟨X', Y', a, b, c⟩ := h
  exact ⟨X', Y', a, b, c.mono (by omega)⟩
/-- What is still to be shown of the program. -/
structure PTurn : Prop where
  stage : ∀ (n : Nat) (X : PS) (Y : RS) (t : ByteArray), n ≤ 50000000 → Rel2 n X Y → t.size ≤ maxLen → PStage X t
  promote : ∀ (n : Nat) (X : PS) (Y : RS), n ≤ 50000000 → Rel2 n X Y → PPromote X
  gate : ∀ (n : Nat) (X : PS) (Y : RS), n ≤ 50000000 → Rel2 n X Y → PGate X
  destroy : ∀ (n : Nat) (X : PS) (Y : RS) (k : Int), n ≤ 50000000 → Rel2 n X Y → PDestroy X k
  migrate : ∀ (n : Nat) (X : PS) (Y : RS) (m : Int), n ≤ 2000000 → Rel21 n X Y → ∃ v e : Int, PairR Rel21 42 43 [.int .i64 m] X Y n (.tuple #[.int .i64 v, .int .i64 e])
theorem sides_of (hT : PTurn) : Sides Rel21 where
  refresh := fun n X Y s _ r => by
    obtain ⟨v, h⟩ := refresh_two r s
    exact ⟨v, pair21 h⟩
  crash := fun n X Y s _ r => by
    obtain ⟨v, h⟩ := crash_two r s
    exact ⟨v, pair21 h⟩
  begins := fun n X Y s q m p t hn r hp hq => by
    obtain ⟨v, h⟩ := begin_two r (by omega) s ⟨q, p, t, m⟩ hp hq
    exact ⟨v, pair21 h⟩
  commit := fun n X Y s hn r => by
    obtain ⟨v, e, h⟩ := commit_two r (by omega) s
    exact ⟨v, e, pair21 h⟩
  get := fun n X Y s p hn r => by
    obtain ⟨A, v, e, h⟩ := get_two r (by omega) s p
    exact ⟨A, v, e, pair21 h⟩
  getAt := fun n X Y s m p hn r => by
    obtain ⟨A, v, e, h⟩ := getAt_two r (by omega) s p m
    exact ⟨A, v, e, pair21 h⟩
  compact := fun n X Y m hn r => by
    obtain ⟨v, h⟩ := compact_two r (by omega) m
    exact ⟨v, pair21 h⟩
  stage := fun n X Y t hn r ht => by
    obtain ⟨v, e, h⟩ := stage_two r t (hT.stage _ X Y t (by omega) r ht)
    exact ⟨v, e, pair21 h⟩
  promote := fun n X Y hn r => by
    obtain ⟨v, h⟩ := promote_two r (hT.promote _ X Y (by omega) r)
    exact ⟨v, pair21 h⟩
  migrate := fun n X Y m hn r => hT.migrate n X Y m hn r
  gate := fun n X Y hn r => by
    obtain ⟨v, h⟩ := gate_two r (by omega) (hT.gate _ X Y (by omega) r)
    exact ⟨v, pair21 h⟩
  destroy := fun n X Y m hn r => by
    obtain ⟨v, h⟩ := destroy_two r m (hT.destroy _ X Y m (by omega) r)
    exact ⟨v, pair21 h⟩
  state := fun n X Y r => ⟨r.keys.few.2, r.rev.symm, r.floor.symm, r.ep.1.symm, r.write.symm, r.turn.symm⟩
  entries := fun n X Y hn r => ⟨r.ent.symm, by have := r.few; have := r.rooms; omega, by have := r.all; omega⟩
  up := fun n X Y r => Rel2.mono r (by omega)
theorem new21 (m : Nat) (room : Int) (key : ByteArray) (hc : cfgOk (m : Int) room key = true) : Rel21 0 (PS.new m room key) (RS.new m room key) := new_two m room key hc
end Go.Proofs.YtggbjffmclpmgaaGreatDoor
namespace Go.Proofs.YtggbjffmclpmgaaGreatDoor
open Go.RowKit

variable {F : Nat → Prop} {b : Nat} {Y : RS}

/-! Plant. -/
theorem RIn.allCell {w : World} (h : RIn w F b Y) (r : Nat) (k : RKept) (hk : Y.all[r]? = some k) : ∃ g cap, w.cell? ⟨b, 3, none⟩ = some (.slice (some ⟨g, 0, none⟩) Y.all.length cap) ∧ g < w.heap.size ∧ w.cell? ⟨g, r * 7 + 6, none⟩ = some (.bool k.out) ∧ w.cell? ⟨g, r * 7 + 5, none⟩ = some (.bool k.e.gone) ∧ w.rangeAt g (r * 7) k.e.cells := by
  obtain ⟨a, cap, hc, hel⟩ := h.all
  rw [List.length_map] at hc
  obtain ⟨g, rfl, hg, hcs, _⟩ := hel r k.cells (by rw [List.getElem?_map, hk]; rfl)
  exact ⟨g, cap, hc, hg, hcs 6 (by omega), hcs 5 (by omega), RKept.entry hcs⟩
theorem Plant_op (w : World) (name : ByteArray) (rev : Int) (hp : name.size ≤ maxLen) (hq : isPath name = false) :
    Calls Tryz.prog 49 #[.pointer (some ⟨b, 0, none⟩), .string name, .int .i64 rev] w fun e w' => e = .returned (.int .i64 7) ∧ w' = w := by
  have HP := hid hp
  have HQ := hid hq
  clear hp hq
  go_enter Tryz.func49, Tryz.ntmps49
  go_wp2_with (go_at_call 88; refine (path_any _ _ HP.out).mono ?_; rw [HQ.out]; rintro e y1 ⟨rfl, hy⟩; obtain rfl := hy.symm)
  go_ret
  exact ⟨rfl, rfl⟩
def outRev (Y : RS) (rev : Int) : Bool := decide (rev < 1) || decide ((Y.all.length : Int) < rev)
theorem Plant_rev (w : World) (name : ByteArray) (rev : Int) (h : RIn w F b Y) (hp : name.size ≤ maxLen) (hq : isPath name = true) (hr : outRev Y rev = true) :
    Calls Tryz.prog 49 #[.pointer (some ⟨b, 0, none⟩), .string name, .int .i64 rev] w fun e w' => e = .returned (.int .i64 12) ∧ w' = w := by
  obtain ⟨a, cap, hc, _⟩ := h.all
  rw [List.length_map] at hc
  unfold outRev at hr
  have HP := hid hp
  have HQ := hid hq
  clear hp hq h
  cases q : decide (rev < 1)
  · rw [q, Bool.false_or] at hr
    go_enter Tryz.func49, Tryz.ntmps49
    go_wp2_with (go_at_call 88; refine (path_any _ _ HP.out).mono ?_; rw [HQ.out]; rintro e y1 ⟨rfl, hy⟩; obtain rfl := hy.symm)
    go_ret
    exact ⟨rfl, rfl⟩
  · clear hr
    go_enter Tryz.func49, Tryz.ntmps49
    go_wp2_with (go_at_call 88; refine (path_any _ _ HP.out).mono ?_; rw [HQ.out]; rintro e y1 ⟨rfl, hy⟩; obtain rfl := hy.symm)
    go_ret
    exact ⟨rfl, rfl⟩
set_option maxRecDepth 100000 in
set_option maxHeartbeats 1000000 in
theorem Plant_none (w : World) (name : ByteArray) (r : Nat) (k : RKept) (h : RIn w F b Y) (hn : Y.all.length ≤ 100000000) (hp : name.size ≤ maxLen) (hq : isPath name = true) (hk : Y.all[r]? = some k) (ho : (k.out || k.e.gone) = true) :
    Calls Tryz.prog 49 #[.pointer (some ⟨b, 0, none⟩), .string name, .int .i64 ((r : Int) + 1)] w fun e w' => e = .returned (.int .i64 12) ∧ w' = w := by
  obtain ⟨g, cap, hc, hg, c6, c5, _⟩ := h.allCell r k hk
  have hl : r < Y.all.length := (List.getElem?_eq_some_iff.1 hk).1
  have q1 : decide ((r : Int) + 1 < 1) = false := by simp; omega
  have q2 : decide ((Y.all.length : Int) < (r : Int) + 1) = false := by simp; omega
  have rl : (r : Int) < (Y.all.length : Int) := by omega
  have HP := hid hp
  have HQ := hid hq
  clear hp hq h hk
  cases qo : k.out
  · rw [qo, Bool.false_or] at ho
    rw [qo] at c6
    rw [ho] at c5
    clear ho
    go_enter Tryz.func49, Tryz.ntmps49
    go_wp2_with (go_at_call 88; refine (path_any _ _ HP.out).mono ?_; rw [HQ.out]; rintro e y1 ⟨rfl, hy⟩; obtain rfl := hy.symm)
    go_ret
    exact ⟨rfl, rfl⟩
  · rw [qo] at c6
    clear ho
    go_enter Tryz.func49, Tryz.ntmps49
    go_wp2_with (go_at_call 88; refine (path_any _ _ HP.out).mono ?_; rw [HQ.out]; rintro e y1 ⟨rfl, hy⟩; obtain rfl := hy.symm)
    go_ret
    exact ⟨rfl, rfl⟩
def RS.plant (Y : RS) (name : ByteArray) (k : RKept) : RS := { Y with all := Y.all ++ [⟨{ k.e with path := name, rev := (Y.all.length : Int) + 1 }, false⟩], turn := if Y.turn == 3 then 2 else Y.turn }
set_option maxRecDepth 100000 in
set_option maxHeartbeats 1000000 in
theorem Plant_full (w : World) (name : ByteArray) (r : Nat) (k : RKept) (h : RIn w F b Y) (hn : Y.all.length ≤ 100000000) (hp : name.size ≤ maxLen) (hq : isPath name = true) (hk : Y.all[r]? = some k) (ho : k.out = false) (hgo : k.e.gone = false) (hf : fullOf Y = true) :
    Calls Tryz.prog 49 #[.pointer (some ⟨b, 0, none⟩), .string name, .int .i64 ((r : Int) + 1)] w fun e w' => e = .returned (.int .i64 11) ∧ Low w.heap.size w w' := by
  obtain ⟨g, cap, hc, hg, c6, c5, _⟩ := h.allCell r k hk
  have hl : r < Y.all.length := (List.getElem?_eq_some_iff.1 hk).1
  have q1 : decide ((r : Int) + 1 < 1) = false := by simp; omega
  have q2 : decide ((Y.all.length : Int) < (r : Int) + 1) = false := by simp; omega
  have rl : (r : Int) < (Y.all.length : Int) := by omega
  have HR := hid h
  have HP := hid hp
  have HQ := hid hq
  have HFU := hid hf
  rw [ho] at c6
  rw [hgo] at c5
  clear hp hq h hk ho hgo hf
  go_enter Tryz.func49, Tryz.ntmps49
  go_wp2_with (first | (go_at_call 88; refine (path_any _ _ HP.out).mono ?_; rw [HQ.out]; rintro e y1 ⟨rfl, hy⟩; obtain rfl := hy.symm) | (go_at_call 70; refine (full_any _ HR.out hn).mono ?_; rw [HFU.out]; rintro e y2 ⟨rfl, l2⟩; have L2 := hid l2; clear l2))
  go_ret
  exact ⟨rfl, L2.out⟩
set_option maxRecDepth 100000 in
set_option maxHeartbeats 1000000 in
theorem Plant_yes (w : World) (name : ByteArray) (r : Nat) (k : RKept) (h : RIn w F b Y) (hn : Y.all.length ≤ 50000000) (hp : name.size ≤ maxLen) (hq : isPath name = true) (hk : Y.all[r]? = some k) (ho : k.out = false) (hgo : k.e.gone = false) (hf : fullOf Y = false) :
    Calls Tryz.prog 49 #[.pointer (some ⟨b, 0, none⟩), .string name, .int .i64 ((r : Int) + 1)] w fun e w' => e = .returned (.int .i64 0) ∧ ∃ F', RIn w' F' b (Y.plant name k) ∧ Kept F w w' ∧ ∀ q, F' q → F q ∨ w.heap.size ≤ q := by
  obtain ⟨g, cap, hc, hg, c6, c5, _⟩ := h.allCell r k hk
  have hl : r < Y.all.length := (List.getElem?_eq_some_iff.1 hk).1
  have q1 : decide ((r : Int) + 1 < 1) = false := by simp; omega
  have q2 : decide ((Y.all.length : Int) < (r : Int) + 1) = false := by simp; omega
  have rl : (r : Int) < (Y.all.length : Int) := by omega
  have HR := hid h
  have HP := hid hp
  have HQ := hid hq
  have HFU := hid hf
  have HK := hid hk
  rw [ho] at c6
  rw [hgo] at c5
  clear hp hq h hk ho hgo hf
  go_enter Tryz.func49, Tryz.ntmps49
  go_upto_region 9 with (first | (go_at_call 88; refine (path_any _ _ HP.out).mono ?_; rw [HQ.out]; rintro e y1 ⟨rfl, hy⟩; obtain rfl := hy.symm) | (go_at_call 70; refine (full_any _ HR.out (by omega)).mono ?_; rw [HFU.out]; rintro e y2 ⟨rfl, l2⟩; have L2 := hid l2; clear l2))
  have R2 : Hid (RIn y2 F b Y) := HR.out.low L2.out
  clear hc hg c6 c5
  obtain ⟨g, cap, hc, hg, _, _, hrg⟩ := R2.out.allCell r k HK.out
  have HRG : Hid (y2.rangeAt g (r * 7) k.e.cells) := hrg
  clear hrg
  go_upto_region 10 with (first | ((with_reducible refine ld50 (.tmp 58) g (r * 7) k.e ?_ HRG.out ?_); rfl) | ((with_reducible refine st50 (.tmp 9) (.tmp 59) y2.heap.size Ent.zero k.e ?_ ?_ ?_ ?_); rfl; rfl; exact (Blk.new y2 50 Ent.zero.cells); intro W b4 k4 s4; have B4 := hid b4; have LW : Hid (Low y2.heap.size y2 W) := low_set ((Low.refl _ y2).alloc (Nat.le_refl _) _) k4 (Nat.le_refl _) (by simp); clear b4 k4 s4))
  have m0 : W.cell? ⟨y2.heap.size, 0, none⟩ = some (.string k.e.path) := B4.out.cell 0
  have f0 := B4.out.frozen 0
  have lM := B4.out.lt
  clear hc hg HRG
  go_upto_region 11 with fail
  go_name_world V hV
  obtain ⟨E, hE⟩ : ∃ E : Ent, E = { k.e with path := name } := ⟨_, rfl⟩
  have BV : Hid (Blk V y2.heap.size 50 E.cells) := by
    show Blk V _ _ _
    rw [← hV, hE]; exact B4.out.set 0 (.string name)
  have LV : Hid (Low y2.heap.size y2 V) := by
    show Low _ _ _
    rw [← hV]; exact LW.out.setCell (Nat.le_refl _) _
  have RV : Hid (RIn V F b Y) := R2.out.low LV.out
  have HEQ := hid hE
  clear hV hE m0 f0 lM
  go_upto_region 12 with (first | ((with_reducible refine ld50 (.tmp 9) y2.heap.size 0 E ?_ BV.out.whole ?_); rfl) | (go_at_call 71; refine (put_any _ E RV.out (by omega)).mono ?_; rintro e y5 ⟨rfl, r5, k5⟩; have R5 := hid r5; have K5 := hid k5; clear r5 k5))
  have KF : Hid (Kept F w y5) := (L2.out.kept.trans LV.out.kept (H := F) (fun _ f => f.elim) (fun _ _ f => f.elim)).trans K5.out (fun _ f => f) (fun _ _ f => f)
  have HFF : Hid (∀ q, grow F V y5 q → F q ∨ w.heap.size ≤ q) := fun q hq => hq.imp id (fun e => by have := L2.out.size; have := LV.out.size; omega)
  have c10 : y5.cell? ⟨b, 10, none⟩ = some (.int .i64 Y.turn) := R5.out.turn
  have f10 := R5.out.frozen 10
  have lb := R5.out.lt
  cases qt : (Y.turn == 3)
  · go_wp2_with fail
    go_ret
    refine ⟨rfl, _, ?_, KF.out, HFF.out⟩
    unfold RS.plant
    rw [qt]
    have := R5.out
    rw [HEQ.out] at this
    exact this
  · go_wp2_with fail
    go_ret
    refine ⟨rfl, grow F V y5, ?_, KF.out.trans ((setCell_kept y5 ⟨b, 10, none⟩ _).mono (G := F) (fun q _ e => by rw [show q = b from e]; exact HR.out.inF)) (fun _ f => f) (fun _ _ f => f), HFF.out⟩
    unfold RS.plant
    rw [qt]
    have := rin_setTurn R5.out 2
    rw [HEQ.out] at this
    exact this
end Go.Proofs.YtggbjffmclpmgaaGreatDoor
namespace Go.Proofs.YtggbjffmclpmgaaGreatDoor
open Go.RowKit

variable {F : Nat → Prop} {b : Nat} {Y : RS}

/-! Place. -/
def badPlace (pod node : Int) : Bool := (decide (pod < 0) || decide (8 ≤ pod)) || (decide (node < -1) || decide (4 ≤ node))
def RS.place (Y : RS) (pod : Nat) (node : Int) : RS := { Y with node := Y.node.set pod node }
theorem Place_arg (w : World) (pod node : Int) (h : badPlace pod node = true) :
    Calls Tryz.prog 51 #[.pointer (some ⟨b, 0, none⟩), .int .i64 pod, .int .i64 node] w fun e w' => e = .returned (.int .i64 2) ∧ w' = w := by
  unfold badPlace at h
  cases q1 : decide (pod < 0)
  · cases q2 : decide (8 ≤ pod)
    · cases q3 : decide (node < -1)
      · rw [q1, q2, q3, Bool.false_or, Bool.false_or, Bool.false_or] at h
        go_enter Tryz.func51, Tryz.ntmps51
        go_wp2
        go_ret
        exact ⟨rfl, rfl⟩
      · clear h
        go_enter Tryz.func51, Tryz.ntmps51
        go_wp2
        go_ret
        exact ⟨rfl, rfl⟩
    · clear h
      go_enter Tryz.func51, Tryz.ntmps51
      go_wp2
      go_ret
      exact ⟨rfl, rfl⟩
  · clear h
    go_enter Tryz.func51, Tryz.ntmps51
    go_wp2
    go_ret
    exact ⟨rfl, rfl⟩
theorem RIn.nodeCell {w : World} (h : RIn w F b Y) (i : Nat) (x : Int) (hx : Y.node[i]? = some x) : w.cell? ⟨b, 11 + i, none⟩ = some (.int .i64 x) := by
  obtain ⟨h8, vA, vK, vS, vO, vN, h⟩ := h
  rw [h.cell]
  have hi : i < Y.node.length := (List.getElem?_eq_some_iff.1 hx).1
  show (_ :: _ :: _ :: _ :: _ :: _ :: _ :: _ :: _ :: _ :: _ :: (Y.node.map (Value.int .i64) ++ [vN]))[11 + i]? = _
  rw [show 11 + i = i + 11 by omega]
  show (Y.node.map (Value.int .i64) ++ [vN])[i]? = _
  rw [List.getElem?_append_left (by simpa using hi), List.getElem?_map, hx]
  rfl
theorem Place_yes (w : World) (pod : Nat) (node : Int) (h : RIn w F b Y) (hp : pod < 8) (h1 : -1 ≤ node) (h2 : node < 4) :
    Calls Tryz.prog 51 #[.pointer (some ⟨b, 0, none⟩), .int .i64 (pod : Int), .int .i64 node] w fun e w' => e = .returned (.int .i64 0) ∧ RIn w' F b (Y.place pod node) ∧ Kept F w w' := by
  have q1 : decide ((pod : Int) < 0) = false := by simp
  have q2 : decide ((8 : Int) ≤ (pod : Int)) = false := by simp; omega
  have q3 : decide (node < -1) = false := by simp; omega
  have q4 : decide (4 ≤ node) = false := by simp; omega
  obtain ⟨x, hx⟩ : ∃ x, Y.node[pod]? = some x := ⟨_, List.getElem?_eq_getElem (by rw [h.1]; exact hp)⟩
  have c := h.nodeCell pod x hx
  have f := h.frozen (11 + pod)
  have lb := h.lt
  have il : (pod : Int) < 8 := by omega
  have HR := hid h
  clear h hx h1 h2
  go_enter Tryz.func51, Tryz.ntmps51
  go_wp2
  go_ret
  exact ⟨rfl, rin_setNode HR.out pod hp node, set_kept HR.out (11 + pod) _⟩
end Go.Proofs.YtggbjffmclpmgaaGreatDoor
