import Derived.Test.YtggbjffmclpmgaaGreatDoorTurGToTurI
import Derived.Test.YtggbjffmclpmgaaGreatDoorPMToPF
import Derived.Test.YtggbjffmclpmgaaGreatDoorPAToPH
namespace Go.Proofs.YtggbjffmclpmgaaGreatDoor
open Go.RowKit

variable {F : Nat → Prop} {b : Nat} {Y : RS}

/-! digit, Refer. -/
def digitOf (pod : Nat) : ByteArray := ⟨#[UInt8.ofNat (48 + pod)]⟩
set_option maxRecDepth 100000 in
set_option maxHeartbeats 1000000 in
theorem digit_any (w : World) (pod : Nat) (hp : pod < 8) :
    Calls Tryz.prog 89 #[.int .i64 (pod : Int)] w fun e w' => e = .returned (.string (digitOf pod)) ∧ Low w.heap.size w w' := by
  obtain ⟨y, hy⟩ : ∃ y : Nat, y = 48 + pod := ⟨_, rfl⟩
  have hcv := conv1 w y (by omega)
  have t1 : 48 + (pod : Int) = (y : Int) := by omega
  have y1 : y < 256 := by omega
  have HY := hid hy
  clear hy hp
  go_enter Tryz.func89, Tryz.ntmps89
  go_wp2_with fail
  go_ret
  exact ⟨by rw [digitOf, ← HY.out]; rfl, (Low.refl _ w).alloc (Nat.le_refl _) _⟩
def mineOf (pod : Nat) (p : ByteArray × ByteArray) : Bool := p.1.toList == (digitOf pod).toList
def restOf (l : List (ByteArray × ByteArray)) (pod : Nat) (name : ByteArray) : List (ByteArray × ByteArray) := l.filter (fun p => !(mineOf pod p && (p.2.toList == name.toList)))
def othersOf (l : List (ByteArray × ByteArray)) (pod : Nat) (name : ByteArray) : Nat := (restOf l pod name).countP (mineOf pod)
theorem rest_snoc (l : List (ByteArray × ByteArray)) (p : ByteArray × ByteArray) (pod : Nat) (name : ByteArray) : restOf (l ++ [p]) pod name = if mineOf pod p && (p.2.toList == name.toList) then restOf l pod name else restOf l pod name ++ [p] := by
  unfold restOf
  rw [List.filter_append]
  cases h1 : mineOf pod p <;> cases h2 : (p.2.toList == name.toList) <;> simp [h1, h2]
theorem rest_le (l : List (ByteArray × ByteArray)) (pod : Nat) (name : ByteArray) : (restOf l pod name).length ≤ l.length := List.length_filter_le _ _
theorem others_le (l : List (ByteArray × ByteArray)) (pod : Nat) (name : ByteArray) : othersOf l pod name ≤ l.length := Nat.le_trans List.countP_le_length (rest_le l pod name)
theorem others_snoc (l : List (ByteArray × ByteArray)) (p : ByteArray × ByteArray) (pod : Nat) (name : ByteArray) : othersOf (l ++ [p]) pod name = if mineOf pod p && !(p.2.toList == name.toList) then othersOf l pod name + 1 else othersOf l pod name := by
  unfold othersOf
  rw [rest_snoc]
  cases h1 : mineOf pod p <;> cases h2 : (p.2.toList == name.toList) <;> simp [h1, List.countP_append]
theorem RIn.needCell {w : World} (h : RIn w F b Y) (i : Nat) (p : ByteArray × ByteArray) (hx : Y.needs[i]? = some p) : ∃ g cap, w.cell? ⟨b, 19, none⟩ = some (.slice (some ⟨g, 0, none⟩) Y.needs.length cap) ∧ g < w.heap.size ∧ w.cell? ⟨g, i * 2, none⟩ = some (.string p.1) ∧ w.cell? ⟨g, i * 2 + 1, none⟩ = some (.string p.2) ∧ w.rangeAt g (i * 2) (two p) := by
  obtain ⟨a, cap, hc, hel⟩ := h.needs
  rw [List.length_map] at hc
  obtain ⟨g, rfl, hg, hcs, _⟩ := hel i (two p) (by rw [List.getElem?_map, hx]; rfl)
  exact ⟨g, cap, hc, hg, hcs 0 (by omega), hcs 1 (by omega), range_of hcs (fun j v e => ⟨(List.getElem?_eq_some_iff.1 e).1, e⟩)⟩
theorem sz109 (p : ByteArray × ByteArray) : (Tryz.prog.info? 109).map (·.size) = some (two p).length := show _ = some 2 by kernel_rfl
theorem info109 : (Tryz.prog.info? 109).map (fun i => (i.zero, i.size, i.bytes)) = some (some (.agg #[.string ⟨#[]⟩, .string ⟨#[]⟩]), 2, 32) := by kernel_rfl
theorem two_one (p : ByteArray × ByteArray) : ∀ v ∈ two p, v.oneCell' = true := by simp [two, Value.oneCell']
theorem ld109 {ops : Array Oper} {rest : List Oper} {d : Option Tmp} {t0 : TypeId} {pos : String} {after : Array Edge} {a : Go.Act} {w : World} {Q : Exit → Go.Act → World → Prop} (x : Operand) (b o : Nat) (p : ByteArray × ByteArray)
    (hx : a.eval x = .pointer (some ⟨b, o, none⟩)) (hc : w.rangeAt b o (two p)) (h : wpList Tryz.prog ops Q rest (a.put d (.agg (two p).toArray)) w) :
    wpList Tryz.prog ops Q ({ dst := d, op := .load 109 x, type := t0, pos := pos, after := after, guard := none } :: rest) a w :=
  ldAny 109 x b o (two p) _ hx hc Tryz.underlying109 rfl (sz109 p) h
def badRefer (pod : Int) (name : ByteArray) : Bool := (decide (pod < 0) || decide (8 ≤ pod)) || !isPath name
theorem Refer_arg (w : World) (pod : Int) (name : ByteArray) (on : Bool) (hp : name.size ≤ maxLen) (h : badRefer pod name = true) :
    Calls Tryz.prog 53 #[.pointer (some ⟨b, 0, none⟩), .int .i64 pod, .string name, .bool on] w fun e w' => e = .returned (.int .i64 2) ∧ w' = w := by
  unfold badRefer at h
  have HP := hid hp
  clear hp
  obtain ⟨pa, hpa⟩ : ∃ pa, pa = isPath name := ⟨_, rfl⟩
  rw [← hpa] at h
  have HPA := hid hpa
  clear hpa
  cases q1 : decide (pod < 0)
  · cases q2 : decide (8 ≤ pod)
    · rw [q1, q2, Bool.false_or, Bool.false_or] at h
      have h0 : pa = false := by simpa using h
      subst h0
      clear h
      go_enter Tryz.func53, Tryz.ntmps53
      go_wp2_with (go_at_call 88; refine (path_any _ _ HP.out).mono ?_; rw [← HPA.out]; rintro e y1 ⟨rfl, hy⟩; obtain rfl := hy.symm)
      go_ret
      exact ⟨rfl, rfl⟩
    · clear h
      go_enter Tryz.func53, Tryz.ntmps53
      go_wp2_with (go_at_call 88; refine (path_any _ _ HP.out).mono ?_; rw [← HPA.out]; rintro e y1 ⟨rfl, hy⟩; obtain rfl := hy.symm)
      go_ret
      exact ⟨rfl, rfl⟩
  · clear h
    go_enter Tryz.func53, Tryz.ntmps53
    go_wp2_with (go_at_call 88; refine (path_any _ _ HP.out).mono ?_; rw [← HPA.out]; rintro e y1 ⟨rfl, hy⟩; obtain rfl := hy.symm)
    go_ret
    exact ⟨rfl, rfl⟩
/-- What Refer leaves. -/
def RS.refer (Y : RS) (pod : Nat) (name : ByteArray) (on : Bool) : RS := { Y with needs := restOf Y.needs pod name ++ (if on then [(digitOf pod, name)] else []) }
theorem rin_setNeeds {w w1 : World} {v' : Value} {l : List (ByteArray × ByteArray)} (h : RIn w F b Y) (L : Low w.heap.size w w1) (ho : w1.ownsRow 0 109 2 v' l.length (l.flatMap two)) (hf : ∀ q, v'.ownBlock = some q → w.heap.size ≤ q) :
    RIn (w1.setCell ⟨b, 19, none⟩ v') (grow F w (w1.setCell ⟨b, 19, none⟩ v')) b { Y with needs := l } ∧ Kept F w (w1.setCell ⟨b, 19, none⟩ v') := by
  have hin := h.inF
  obtain ⟨h8, vA, vK, vS, vO, vN, hO⟩ := h
  have hvN : (Y.cells vA vK vS vO vN)[19]? = some vN := by
    show (_ :: _ :: _ :: _ :: _ :: _ :: _ :: _ :: _ :: _ :: _ :: (Y.node.map (Value.int .i64) ++ [vN]))[8 + 11]? = _
    show (Y.node.map (Value.int .i64) ++ [vN])[8]? = _
    rw [List.getElem?_append_right (by simp; omega)]
    simp [h8]
  have q1 := hO.rowNew 4 rfl hvN (L.kept.mono (fun _ _ f => f.elim)) ho (Or.inr hf) (Y.offs 4 rfl)
  refine ⟨⟨h8, vA, vK, vS, vO, v', ?_⟩, ?_⟩
  · have hC : (Y.cells vA vK vS vO vN).set 19 v' = ({ Y with needs := l } : RS).cells vA vK vS vO v' := by
      show (_ :: _ :: _ :: _ :: _ :: _ :: _ :: _ :: _ :: _ :: _ :: (Y.node.map (Value.int .i64) ++ [vN])).set (8 + 11) v' = _ :: _ :: _ :: _ :: _ :: _ :: _ :: _ :: _ :: _ :: _ :: (Y.node.map (Value.int .i64) ++ [v'])
      simp only [List.set_cons_succ]
      rw [List.set_append_right _ _ (by simp; omega)]
      simp [h8]
    refine (q1.cast hC rfl).more (fun k hk => ?_) (fun k hk => ?_)
    · rcases hk with hk | hk
      · exact Or.inl hk
      · exact Or.inr (by simpa using hk)
    · rcases hk with hk | hk
      · have := hO.below k hk
        have := L.size
        simp
        omega
      · exact hk.2
  · exact L.kept.trans (setCell_kept w1 ⟨b, 19, none⟩ v') (fun _ f => f.elim) (fun q _ e => by rw [show q = b from e]; exact hin)
set_option maxRecDepth 100000 in
set_option maxHeartbeats 1000000 in
theorem Refer_any (w : World) (pod : Nat) (name : ByteArray) (on : Bool) (h : RIn w F b Y) (hn : Y.needs.length ≤ 1000) (hp : name.size ≤ maxLen) (hq : isPath name = true) (hpod : pod < 8) :
    Calls Tryz.prog 53 #[.pointer (some ⟨b, 0, none⟩), .int .i64 (pod : Int), .string name, .bool on] w fun e w' => ((on && decide (8 ≤ othersOf Y.needs pod name)) = true ∧ e = .returned (.int .i64 16) ∧ Low w.heap.size w w') ∨
      ((on && decide (8 ≤ othersOf Y.needs pod name)) = false ∧ e = .returned (.int .i64 0) ∧ RIn w' (grow F w w') b (Y.refer pod name on) ∧ Kept F w w') := by
  have q1 : decide ((pod : Int) < 0) = false := by simp
  have q2 : decide ((8 : Int) ≤ (pod : Int)) = false := by simp; omega
  have HR := hid h
  have HP := hid hp
  have HQ := hid hq
  clear h hp hq
  go_enter Tryz.func53, Tryz.ntmps53
  go_wp2_with (go_at_call 88; refine (path_any _ _ HP.out).mono ?_; rw [HQ.out]; rintro e y1 ⟨rfl, hy⟩; obtain rfl := hy.symm)
  go_loopg [10, 11, 12] Y.needs.length (fun left v ov iv wr => ∃ i : Nat, left = Y.needs.length - i ∧ i ≤ Y.needs.length ∧ ov = .int .i64 (othersOf (Y.needs.take i) pod name : Int) ∧ iv = .int .i64 (i : Int) ∧ Hid (Low w.heap.size w wr ∧ wr.ownsRow 0 109 2 v (restOf (Y.needs.take i) pod name).length ((restOf (Y.needs.take i) pod name).flatMap two) ∧ ∀ k, v.ownBlock = some k → w.heap.size ≤ k))
  case atStart => exact ⟨0, rfl, Nat.zero_le _, rfl, rfl, Low.refl _ _, World.ownsRow_nil _ _ _ _, fun k hk => by cases hk⟩
  case round v =>
    obtain ⟨i, hgk, hi, rfl, rfl, HI⟩ := hrel
    have HGK := hid hgk
    clear hgk
    have RW : Hid (RIn wr F b Y) := HR.out.low HI.out.1
    by_cases h3 : i < Y.needs.length
    · have q3 : decide ((i : Int) < (Y.needs.length : Int)) = true := by simp; omega
      have il : (i : Int) < (Y.needs.length : Int) := by omega
      obtain ⟨p, hp2⟩ : ∃ p, Y.needs[i]? = some p := ⟨_, List.getElem?_eq_getElem h3⟩
      obtain ⟨g, cap, hc, hg, p0, p1, hrg⟩ := RW.out.needCell i p hp2
      have HRG := hid hrg
      have HT := hid (take_snoc hp2)
      have HS := hid (rest_snoc (Y.needs.take i) p pod name)
      have HO := hid (others_snoc (Y.needs.take i) p pod name)
      have lb := RW.out.lt
      have hob : othersOf (Y.needs.take i) pod name ≤ 1000 := Nat.le_trans (others_le _ _ _) (by simp; omega)
      obtain ⟨mi, hmi⟩ : ∃ mi, mi = mineOf pod p := ⟨_, rfl⟩
      have HMI : Hid ((p.1.toList == (digitOf pod).toList) = mi) := by show _ = _; rw [hmi]; rfl
      have HMI2 := hid hmi
      clear hrg hp2 hmi
      go_upto_region 9 with fail
      go_region_held3 (fun W' => W'.cell? ⟨b, 19, none⟩ = some (.slice (some ⟨g, 0, none⟩) Y.needs.length cap) ∧ W'.cell? ⟨g, i * 2, none⟩ = some (.string p.1)) (first | assumption | go_keep)
        (first | (go_at_call 89; refine (digit_any _ pod hpod).mono ?_; rintro e y1 ⟨rfl, l1⟩; have S1 : y1.cell? ⟨b, 19, none⟩ = some (.slice (some ⟨g, 0, none⟩) Y.needs.length cap) ∧ y1.cell? ⟨g, i * 2, none⟩ = some (.string p.1) := ⟨(l1.cell (by exact lb)).trans hc, (l1.cell (by exact hg)).trans p0⟩; have L1 : Hid (Low wr.heap.size wr y1) := (Low.refl _ wr).drew.trans l1; clear l1))
      rw [HMI.out]
      have LW : Hid (Low w.heap.size w y1) := HI.out.1.trans (L1.out.mono HI.out.1.size)
      have OW := hid (ownsRow_at HI.out.2.1 (fun k hk => L1.out.block k (HI.out.2.1.lt k hk).2))
      have RG1 : Hid (y1.rangeAt g (i * 2) (two p)) := fun j v e => (L1.out.cell hg).trans (HRG.out j v e)
      have d19 := S1.1
      have d1 : y1.cell? ⟨g, i * 2 + 1, none⟩ = some (.string p.2) := (L1.out.cell hg).trans p1
      have hsz : (restOf (Y.needs.take i) pod name).length + 1 ≤ 1000000000 := by have := rest_le (Y.needs.take i) pod name; simp at this; omega
      have HZ := hid hsz
      have h2 : (two p).length = 2 := rfl
      have HD1 := hid d1
      clear hsz S1 hc p0 p1
      cases qm : mi
      · clear d1
        go_wp2_with (first | ((with_reducible refine ld109 (.tmp 68) g (i * 2) p ?_ RG1.out ?_); rfl) | (at_builtin; refine wpList_append_mine _ rfl (.tmp 62) (.tmp 70) 66 rfl 109 _ 2 32 Tryz.underlying66 info109 rfl (by omega) _ _ _ rfl (OW.out.alloc _) ⟨y1.heap.size, 0, none⟩ 1 1 (two p) rfl rfl (news_new y1 (two p) 109) (two_one _) ⟨HZ.out, by omega⟩ ?_; intro v' w1 o1 k1 p1'; have O1 := hid o1; have K1 := hid k1; have P1 := hid p1'; clear o1 k1 p1'))
        go_roundg (Y.needs.length - (i + 1))
        case rel =>
          obtain ⟨l1, b1⟩ := append_low LW.out HI.out.2.2 K1.out P1.out
          refine ⟨i + 1, rfl, by omega, by rw [HT.out, HO.out, ← HMI2.out, qm]; rfl, by simp, l1, ?_, b1⟩
          rw [HT.out, HS.out, ← HMI2.out, qm, if_neg (by simp), List.length_append, flat_snoc]
          exact O1.out
        case measure => have := HGK.out; omega
      · cases qn : (p.2.toList == name.toList)
        · go_wp2_with (first | ((with_reducible refine ld109 (.tmp 68) g (i * 2) p ?_ RG1.out ?_); rfl) | (at_builtin; refine wpList_append_mine _ rfl (.tmp 62) (.tmp 70) 66 rfl 109 _ 2 32 Tryz.underlying66 info109 rfl (by omega) _ _ _ rfl (OW.out.alloc _) ⟨y1.heap.size, 0, none⟩ 1 1 (two p) rfl rfl (news_new y1 (two p) 109) (two_one _) ⟨HZ.out, by omega⟩ ?_; intro v' w1 o1 k1 p1'; have O1 := hid o1; have K1 := hid k1; have P1 := hid p1'; clear o1 k1 p1'))
          go_roundg (Y.needs.length - (i + 1))
          case rel =>
            obtain ⟨l1, b1⟩ := append_low LW.out HI.out.2.2 K1.out P1.out
            refine ⟨i + 1, rfl, by omega, by rw [HT.out, HO.out, ← HMI2.out, qm, qn]; simp, by simp, l1, ?_, b1⟩
            rw [HT.out, HS.out, ← HMI2.out, qm, qn, if_neg (by simp), List.length_append, flat_snoc]
            exact O1.out
          case measure => have := HGK.out; omega
        · go_wp2_with fail
          go_roundg (Y.needs.length - (i + 1))
          case rel =>
            refine ⟨i + 1, rfl, by omega, by rw [HT.out, HO.out, ← HMI2.out, qm, qn]; rfl, by simp, LW.out, ?_, HI.out.2.2⟩
            rw [HT.out, HS.out, ← HMI2.out, qm, qn]
            exact OW.out
          case measure => have := HGK.out; omega
    · have q3 : decide ((i : Int) < (Y.needs.length : Int)) = false := by simp; omega
      have HTK : Hid (Y.needs.take i = Y.needs) := List.take_of_length_le (by omega)
      obtain ⟨a5, cap5, hc5, _⟩ := RW.out.needs
      rw [List.length_map] at hc5
      have f19 := RW.out.frozen 19
      have lb := RW.out.lt
      have hob : othersOf (Y.needs.take i) pod name ≤ 1000 := Nat.le_trans (others_le _ _ _) (by simp; omega)
      obtain ⟨a10, cap10, hv10, _, _⟩ := ownsRow_view HI.out.2.1
      subst hv10
      cases qo : on
      · go_wp2_with fail
        go_ret
        have hI := HI.out
        rw [HTK.out] at hI
        obtain ⟨r1, k1⟩ := rin_setNeeds HR.out hI.1 hI.2.1 hI.2.2
        rw [HTK.out]
        refine Or.inr ⟨by rw [qo]; rfl, rfl, ?_, k1⟩
        unfold RS.refer
        rw [qo, if_neg (by simp), List.append_nil]
        exact r1
      · obtain ⟨ot, hot⟩ : ∃ ot, ot = othersOf (Y.needs.take i) pod name := ⟨_, rfl⟩
        have HOT : Hid (othersOf Y.needs pod name = ot) := by show _ = _; rw [hot, HTK.out]
        rw [← hot]
        rw [← hot] at hob
        clear hot
        cases q8 : decide (8 ≤ ot)
        · have q9 : decide ((8 : Int) ≤ (ot : Int)) = false := by simp at q8 ⊢; omega
          have h2 : (two (digitOf pod, name)).length = 2 := rfl
          have hsz : (restOf (Y.needs.take i) pod name).length + 1 ≤ 1000000000 := by have := rest_le (Y.needs.take i) pod name; simp at this; omega
          have HZ := hid hsz
          have HF19 := hid f19
          clear hsz
          go_wp2_with (first | (go_at_call 89; refine (digit_any _ pod hpod).mono ?_; rintro e y1 ⟨rfl, l1⟩; have L1 : Hid (Low w.heap.size w y1) := HI.out.1.trans (l1.mono HI.out.1.size); have OW := hid (ownsRow_at HI.out.2.1 (fun k hk => l1.block k (HI.out.2.1.lt k hk).2)); clear l1) | (at_builtin; refine wpList_append_mine _ rfl (.tmp 78) (.tmp 83) 66 rfl 109 _ 2 32 Tryz.underlying66 info109 rfl (by omega) _ _ _ rfl (OW.out.alloc _) ⟨y1.heap.size, 0, none⟩ 1 1 (two (digitOf pod, name)) rfl rfl (news_new y1 (two (digitOf pod, name)) 109) (two_one _) ⟨HZ.out, by omega⟩ ?_; intro v' w1 o1 k1 p1; obtain ⟨a11, cap11, rfl, _, _⟩ := ownsRow_view o1; obtain ⟨l2, b2⟩ := append_low L1.out HI.out.2.2 k1 p1; have RW1 := HR.out.low l2; obtain ⟨a6, cap6, hc6, _⟩ := RW1.needs; rw [List.length_map] at hc6; have f6 := RW1.frozen 19; have lb6 := RW1.lt; have O1 := hid o1; have LL2 := hid l2; have BB2 := hid b2; clear o1 k1 p1 l2 b2 RW1))
          go_ret
          refine Or.inr ⟨by rw [qo, HOT.out, q8]; rfl, rfl, ?_⟩
          have e1 : (restOf (Y.needs.take i) pod name).length + 1 = (restOf Y.needs pod name ++ [(digitOf pod, name)]).length := by rw [HTK.out]; simp
          have e2 : (restOf (Y.needs.take i) pod name).flatMap two ++ two (digitOf pod, name) = (restOf Y.needs pod name ++ [(digitOf pod, name)]).flatMap two := by rw [HTK.out, flat_snoc]
          have hO := O1.out
          rw [e1, e2] at hO
          obtain ⟨r1, k1⟩ := rin_setNeeds HR.out LL2.out hO (by rw [← e1]; exact BB2.out)
          rw [e1]
          refine ⟨?_, k1⟩
          unfold RS.refer
          rw [qo, if_pos rfl]
          exact r1
        · have q9 : decide ((8 : Int) ≤ (ot : Int)) = true := by simp at q8 ⊢; omega
          go_wp2_with fail
          go_ret
          exact Or.inl ⟨by rw [qo, HOT.out, q8]; rfl, rfl, HI.out.1⟩
end Go.Proofs.YtggbjffmclpmgaaGreatDoor
namespace Go.Proofs.YtggbjffmclpmgaaGreatDoor
open Go.RowKit

variable {F : Nat → Prop} {b : Nat} {Y : RS}

/-! Fetch. -/
/-- Every need is a pod's. -/
def NeedsOk (Y : RS) : Prop := ∀ q ∈ Y.needs, ∃ p, p < 8 ∧ q.1 = digitOf p
def podOf (s : ByteArray) : Nat := (s.data.toList.headD 48).toNat - 48
def wants (Y : RS) (node : Int) (name : ByteArray) (q : ByteArray × ByteArray) : Bool := (Y.node[podOf q.1]?.getD 0 == node) && (q.2.toList == name.toList)
def allowedOf (Y : RS) (node : Int) (name : ByteArray) : Bool := Y.needs.any (wants Y node name)
theorem podOf_digit (p : Nat) (hp : p < 8) : podOf (digitOf p) = p := by
  unfold podOf digitOf
  show (UInt8.ofNat (48 + p)).toNat - 48 = p
  rw [UInt8.toNat_ofNat']
  omega
theorem Fetch_srv (w : World) (s node : Int) (name : ByteArray) (h : RIn w F b Y) (hs : isSrv Y.seen.length s = false) :
    Calls Tryz.prog 35 #[.pointer (some ⟨b, 0, none⟩), .int .i64 s, .int .i64 node, .string name] w fun e w' => e = .returned (.tuple #[.string ⟨#[]⟩, .int .i64 4]) ∧ w' = w := by
  have HR := hid h
  have HS := hid hs
  clear h hs
  go_enter Tryz.func35, Tryz.ntmps35
  go_wp2_with (go_at_call 60; refine (server_any _ _ HR.out).mono ?_; rw [HS.out]; rintro e y1 ⟨rfl, hy⟩; obtain rfl := hy.symm)
  go_ret2
  exact ⟨rfl, rfl⟩
def badNode (node : Int) : Bool := decide (node < 0) || decide (4 ≤ node)
theorem Fetch_arg (w : World) (s node : Int) (name : ByteArray) (h : RIn w F b Y) (hs : isSrv Y.seen.length s = true) (hb : badNode node = true) :
    Calls Tryz.prog 35 #[.pointer (some ⟨b, 0, none⟩), .int .i64 s, .int .i64 node, .string name] w fun e w' => e = .returned (.tuple #[.string ⟨#[]⟩, .int .i64 2]) ∧ w' = w := by
  have HR := hid h
  have HS := hid hs
  unfold badNode at hb
  clear h hs
  cases q1 : decide (node < 0)
  · rw [q1, Bool.false_or] at hb
    go_enter Tryz.func35, Tryz.ntmps35
    go_wp2_with (go_at_call 60; refine (server_any _ _ HR.out).mono ?_; rw [HS.out]; rintro e y1 ⟨rfl, hy⟩; obtain rfl := hy.symm)
    go_ret2
    exact ⟨rfl, rfl⟩
  · clear hb
    go_enter Tryz.func35, Tryz.ntmps35
    go_wp2_with (go_at_call 60; refine (server_any _ _ HR.out).mono ?_; rw [HS.out]; rintro e y1 ⟨rfl, hy⟩; obtain rfl := hy.symm)
    go_ret2
    exact ⟨rfl, rfl⟩
set_option maxRecDepth 100000 in
set_option maxHeartbeats 1000000 in
theorem Fetch_any (w : World) (s node : Int) (name : ByteArray) (h : RIn w F b Y) (hs : isSrv Y.seen.length s = true) (hb : badNode node = false) (hn : Y.needs.length ≤ 1000) (hN : NeedsOk Y) (A : ByteArray) (B C : Int)
    (hG : Calls Tryz.prog 31 #[.pointer (some ⟨b, 0, none⟩), .int .i64 s, .string name] w fun e w' => e = .returned (.tuple #[.string A, .int .i64 B, .int .i64 C]) ∧ Low w.heap.size w w') :
    Calls Tryz.prog 35 #[.pointer (some ⟨b, 0, none⟩), .int .i64 s, .int .i64 node, .string name] w fun e w' => (allowedOf Y node name = false ∧ e = .returned (.tuple #[.string ⟨#[]⟩, .int .i64 21]) ∧ w' = w) ∨ (allowedOf Y node name = true ∧ e = .returned (.tuple #[.string A, .int .i64 C]) ∧ Low w.heap.size w w') := by
  have HR := hid h
  have HS := hid hs
  have HN := hid hN
  have HGE := hid hG
  unfold badNode at hb
  rw [Bool.or_eq_false_iff] at hb
  obtain ⟨q1, q2⟩ := hb
  obtain ⟨a5, cap5, hc5, _⟩ := h.needs
  rw [List.length_map] at hc5
  clear h hs hN hG
  go_enter Tryz.func35, Tryz.ntmps35
  go_wp2_with (go_at_call 60; refine (server_any _ _ HR.out).mono ?_; rw [HS.out]; rintro e y1 ⟨rfl, hy⟩; obtain rfl := hy.symm)
  go_loopg [11, 12] Y.needs.length (fun left av iv wr => ∃ i : Nat, left = Y.needs.length - i ∧ i ≤ Y.needs.length ∧ av = .bool ((Y.needs.take i).any (wants Y node name)) ∧ iv = .int .i64 (i : Int) ∧ w = wr)
  case atStart => exact ⟨0, rfl, Nat.zero_le _, rfl, rfl, rfl⟩
  case round =>
    obtain ⟨i, hgk, hi, rfl, rfl, rfl⟩ := hrel
    have HGK := hid hgk
    clear hgk
    obtain ⟨al, hal⟩ : ∃ al, al = (Y.needs.take i).any (wants Y node name) := ⟨_, rfl⟩
    rw [← hal]
    have HAL := hid hal
    clear hal
    by_cases h3 : i < Y.needs.length
    · have q3 : decide ((i : Int) < (Y.needs.length : Int)) = true := by simp; omega
      have il : (i : Int) < (Y.needs.length : Int) := by omega
      obtain ⟨q, hq2⟩ : ∃ q, Y.needs[i]? = some q := ⟨_, List.getElem?_eq_getElem h3⟩
      obtain ⟨p, hp8, hpq⟩ := HN.out q (List.mem_of_getElem? hq2)
      obtain ⟨g, cap, hc, hg, p0, p1, _⟩ := HR.out.needCell i q hq2
      obtain ⟨x, hx⟩ : ∃ x, Y.node[p]? = some x := ⟨_, List.getElem?_eq_getElem (by rw [HR.out.1]; exact hp8)⟩
      have cx := HR.out.nodeCell p x hx
      have HST : Hid ((Y.needs.take (i + 1)).any (wants Y node name) = (al || ((x == node) && (q.2.toList == name.toList)))) := by
        show _ = _
        rw [any_snoc _ i q _ hq2, ← HAL.out]
        unfold wants
        rw [hpq, podOf_digit p hp8, hx]; rfl
      obtain ⟨s0, hs0⟩ : ∃ s0, s0 = q.1 := ⟨_, rfl⟩
      rw [← hs0] at p0
      have hsz : s0.size = 1 := by rw [hs0, hpq]; rfl
      have hlt : 0 < s0.size := by omega
      have hby : ((s0[0]'hlt).toNat : Int) = 48 + (p : Int) := by
        subst hs0
        have : ∀ (t : ByteArray) (ht : t = digitOf p) (hh : 0 < t.size), ((t[0]'hh).toNat : Int) = 48 + (p : Int) := by
          intro t ht hh
          subst ht
          show ((UInt8.ofNat (48 + p)).toNat : Int) = _
          rw [UInt8.toNat_ofNat']
          omega
        exact this _ hpq hlt
      have pl : (p : Int) < 8 := by omega
      clear hq2 hpq hx hs0 hc5
      cases qa : al
      · cases qx : (x == node)
        · go_wp2_with fail
          go_roundg (Y.needs.length - (i + 1))
          case rel => exact ⟨i + 1, rfl, by omega, by rw [HST.out, qa, qx]; rfl, by simp, rfl⟩
          case measure => have := HGK.out; omega
        · go_wp2_with fail
          go_roundg (Y.needs.length - (i + 1))
          case rel => exact ⟨i + 1, rfl, by omega, by rw [HST.out, qa, qx, Bool.false_or, Bool.true_and], by simp, rfl⟩
          case measure => have := HGK.out; omega
      · go_wp2_with fail
        go_roundg (Y.needs.length - (i + 1))
        case rel => exact ⟨i + 1, rfl, by omega, by rw [HST.out, qa]; rfl, by simp, rfl⟩
        case measure => have := HGK.out; omega
    · have q3 : decide ((i : Int) < (Y.needs.length : Int)) = false := by simp; omega
      have HAA : Hid (allowedOf Y node name = al) := by
        show _ = _
        unfold allowedOf
        rw [HAL.out, List.take_of_length_le (by omega)]
      cases qa : al
      · go_wp2_with fail
        go_ret2
        exact Or.inl ⟨by rw [HAA.out]; exact qa, rfl, rfl⟩
      · go_wp2_with (go_at_call 31; refine HGE.out.mono ?_; rintro e y2 ⟨rfl, l2⟩; have L2 := hid l2; clear l2)
        go_ret2
        exact Or.inr ⟨by rw [HAA.out]; exact qa, rfl, L2.out⟩
end Go.Proofs.YtggbjffmclpmgaaGreatDoor
namespace Go.Proofs.YtggbjffmclpmgaaGreatDoor
open Go.RowKit

/-! The order of paths is that of Go's strings. -/
theorem before_less : ∀ (a c : List UInt8), beforeL a c = Op.bytesLess a c
  | [], [] => rfl
  | _ :: _, [] => rfl
  | [], _ :: _ => rfl
  | x :: xs, y :: ys => by
    have ih := before_less xs ys
    show (if x != y then decide (x < y) else beforeL xs ys) = (decide (x < y) || (x == y && Op.bytesLess xs ys))
    rw [ih]
    by_cases e : x = y
    · subst e
      have : ¬ x < x := by rw [UInt8.lt_iff_toNat_lt]; omega
      simp [this]
    · simp [e]
theorem before_string (a c : ByteArray) : beforeOf a c = Op.bytesLess a.toList c.toList := by
  unfold beforeOf
  rw [before_less, ByteArray.toList_eq, ByteArray.toList_eq]
end Go.Proofs.YtggbjffmclpmgaaGreatDoor
namespace Go.Proofs.YtggbjffmclpmgaaGreatDoor
open Go.RowKit

/-! What Migrate moves next: the least path that is due. -/
theorem u8_eq {x y : UInt8} (h : x.toNat = y.toNat) : x = y := UInt8.toNat_inj.1 h
theorem before_step (x y : UInt8) (xs ys : List UInt8) : beforeL (x :: xs) (y :: ys) = (decide (x.toNat < y.toNat) || (decide (x.toNat = y.toNat) && beforeL xs ys)) := by
  rw [before_cons]
  by_cases e : x.toNat = y.toNat
  · have h1 : ((x.toNat : Int) != (y.toNat : Int)) = false := by rw [bne_eq_false_iff_eq]; omega
    have h2 : decide (x.toNat < y.toNat) = false := by simp; omega
    rw [h1, h2, decide_eq_true e]
    simp
  · have h1 : ((x.toNat : Int) != (y.toNat : Int)) = true := by rw [bne_iff_ne]; omega
    rw [h1, decide_eq_false e]
    simp
theorem before_trans : ∀ (a b c : List UInt8), beforeL a b = true → beforeL b c = true → beforeL a c = true
  | [], [], _, h1, _ => by cases h1
  | _ :: _, [], _, h1, _ => by cases h1
  | [], _ :: _, [], _, h2 => by cases h2
  | _ :: _, _ :: _, [], _, h2 => by cases h2
  | [], _ :: _, _ :: _, _, _ => rfl
  | x :: xs, y :: ys, z :: zs, h1, h2 => by
    have ih := before_trans xs ys zs
    rw [before_step, Bool.or_eq_true, Bool.and_eq_true, decide_eq_true_eq, decide_eq_true_eq] at h1 h2 ⊢
    rcases h1 with h1 | h1
    · rcases h2 with h2 | h2
      · left; omega
      · left; omega
    · rcases h2 with h2 | h2
      · left; omega
      · right; exact ⟨by omega, ih h1.2 h2.2⟩
theorem before_irrefl : ∀ (a : List UInt8), beforeL a a = false
  | [] => rfl
  | x :: xs => by
    rw [before_step, before_irrefl xs]
    simp
theorem before_total : ∀ (a b : List UInt8), beforeL a b = false → beforeL b a = false → a = b
  | [], [], _, _ => rfl
  | [], _ :: _, h, _ => by cases h
  | _ :: _, [], _, h => by cases h
  | x :: xs, y :: ys, h1, h2 => by
    rw [before_step, Bool.or_eq_false_iff, decide_eq_false_iff_not] at h1 h2
    have e : x.toNat = y.toNat := by omega
    have a1 := h1.2
    have a2 := h2.2
    rw [decide_eq_true e, Bool.true_and] at a1
    rw [decide_eq_true e.symm, Bool.true_and] at a2
    rw [u8_eq e, before_total xs ys a1 a2]
/-- The newest entry of x's path may be moved; its secret is s. -/
structure Moves (Y : RS) (m : Int) (x : Ent) (E : Ent) (s : ByteArray) : Prop where
  newest : E = (lastOf Y.all x.path).getD Ent.zero
  there : E.gone = false
  old : E.key ≠ m
  opens : openedOf (keyAt Y.keys E.key) E Y.epoch = (s, 0)
structure DueSpec (Y : RS) (m : Int) (l : List Ent) (d : Due) : Prop where
  no : d.found = false → ∀ x ∈ l, ∀ E s, ¬ Moves Y m x E s
  yes : d.found = true → ∃ x ∈ l, ∃ E, Moves Y m x E d.text ∧ E.path = d.name
  least : d.found = true → ∀ x ∈ l, ∀ E s, Moves Y m x E s → beforeOf E.path d.name = false
theorem due_spec (Y : RS) (m : Int) (l : List Ent) : DueSpec Y m l (l.foldl (dueStep Y m) due0) := by
  refine snoc_ind (P := fun l => DueSpec Y m l (l.foldl (dueStep Y m) due0)) ?_ ?_ l
  · exact ⟨fun _ x hx => (by simp at hx), fun h => (by cases h), fun h => (by cases h)⟩
  · intro l x ih
    rw [List.foldl_append]
    show DueSpec Y m (l ++ [x]) (dueStep Y m (l.foldl (dueStep Y m) due0) x)
    obtain ⟨d, hd⟩ : ∃ d, d = l.foldl (dueStep Y m) due0 := ⟨_, rfl⟩
    rw [← hd] at ih ⊢
    obtain ⟨E, hE⟩ : ∃ E, E = (lastOf Y.all x.path).getD Ent.zero := ⟨_, rfl⟩
    unfold dueStep
    rw [← hE]
    -- where x does not move, nothing changes
    have same : (∀ s, ¬ Moves Y m x E s) → DueSpec Y m (l ++ [x]) d := fun hno => by
      have hx : ∀ E' s, ¬ Moves Y m x E' s := fun E' s q => by
        have e : E' = E := q.newest.trans hE.symm
        subst e
        exact hno s q
      refine ⟨fun h y hy E' s q => ?_, fun h => ?_, fun h y hy E' s q => ?_⟩
      · rcases List.mem_append.1 hy with hy | hy
        · exact ih.no h y hy E' s q
        · obtain rfl := List.mem_singleton.1 hy; exact hx E' s q
      · obtain ⟨y, hy, r⟩ := ih.yes h
        exact ⟨y, List.mem_append_left _ hy, r⟩
      · rcases List.mem_append.1 hy with hy | hy
        · exact ih.least h y hy E' s q
        · obtain rfl := List.mem_singleton.1 hy; exact absurd q (hx E' s)
    by_cases hskip : (E.gone || (E.key == m)) = true
    · rw [if_pos hskip]
      refine same (fun s q => ?_)
      rw [Bool.or_eq_true] at hskip
      rcases hskip with r | r
      · rw [q.there] at r; cases r
      · exact q.old (by simpa using r)
    · rw [if_neg hskip]
      have hs1 : E.gone = false ∧ E.key ≠ m := by
        rw [Bool.not_eq_true, Bool.or_eq_false_iff] at hskip
        exact ⟨hskip.1, by simpa using hskip.2⟩
      obtain ⟨O, hO⟩ : ∃ O, O = openedOf (keyAt Y.keys E.key) E Y.epoch := ⟨_, rfl⟩
      rw [← hO]
      unfold dueNew
      by_cases h0 : O.2 = 0
      · have hm : Moves Y m x E O.1 := ⟨hE, hs1.1, hs1.2, by rw [← hO, ← h0]⟩
        have hz : (O.2 == 0) = true := by rw [h0]; rfl
        rw [hz, Bool.true_and]
        by_cases hn : (!d.found || beforeOf E.path d.name) = true
        · rw [if_pos hn]
          refine ⟨fun h => (by cases h), fun _ => ⟨x, by simp, E, hm, rfl⟩, fun _ y hy E' s q => ?_⟩
          show beforeOf E'.path E.path = false
          rcases List.mem_append.1 hy with hy | hy
          · cases hf : d.found
            · exact absurd q (ih.no hf y hy E' s)
            · rw [hf] at hn
              have hb : beforeOf E.path d.name = true := by simpa using hn
              have hl := ih.least hf y hy E' s q
              cases hq : beforeOf E'.path E.path
              · rfl
              · have := before_trans _ _ _ hq hb
                unfold beforeOf at hl
                rw [this] at hl
                cases hl
          · obtain rfl := List.mem_singleton.1 hy
            have e : E' = E := q.newest.trans hE.symm
            subst e
            exact before_irrefl _
        · rw [if_neg hn]
          rw [Bool.not_eq_true, Bool.or_eq_false_iff] at hn
          have hf : d.found = true := by simpa using hn.1
          refine ⟨fun h => (by rw [hf] at h; cases h), fun h => ?_, fun h y hy E' s q => ?_⟩
          · obtain ⟨y, hy, r⟩ := ih.yes h
            exact ⟨y, List.mem_append_left _ hy, r⟩
          · rcases List.mem_append.1 hy with hy | hy
            · exact ih.least h y hy E' s q
            · obtain rfl := List.mem_singleton.1 hy
              have e : E' = E := q.newest.trans hE.symm
              subst e
              exact hn.2
      · have hz : (O.2 == 0) = false := by rw [beq_eq_false_iff_ne]; exact h0
        rw [hz, Bool.false_and, if_neg (by simp)]
        refine same (fun s q => ?_)
        have := q.opens
        rw [← hO] at this
        exact h0 (by rw [this])
/-- Two that fit are one. -/
theorem due_unique {Y : RS} {m : Int} {l : List Ent} {d d' : Due} (h : DueSpec Y m l d) (h' : DueSpec Y m l d') (hf : d.found = true) (hf' : d'.found = true) : d.name = d'.name := by
  obtain ⟨x, hx, E, q, e⟩ := h.yes hf
  obtain ⟨x', hx', E', q', e'⟩ := h'.yes hf'
  have a1 := h.least hf x' hx' E' _ q'
  have a2 := h'.least hf' x hx E _ q
  rw [e'] at a1
  rw [e] at a2
  have := before_total _ _ a2 a1
  exact bytes_ext this
theorem last_path {l : List RKept} {p q : ByteArray} (h : p.toList = q.toList) : lastOf l p = lastOf l q := by
  unfold lastOf
  rw [h]
/-- So there is but one answer: the document's due is any that fits. -/
theorem due_only {Y : RS} {m : Int} {d d' : Due} (h : DueSpec Y m (keptOf Y.all) d) (h' : DueSpec Y m (keptOf Y.all) d') (hf : d.found = true) (hf' : d'.found = true) : d.name = d'.name ∧ d.text = d'.text := by
  have hn := due_unique h h' hf hf'
  refine ⟨hn, ?_⟩
  obtain ⟨x, hx, E, q, e⟩ := h.yes hf
  obtain ⟨x', hx', E', q', e'⟩ := h'.yes hf'
  obtain ⟨k, _, hk⟩ := last_some hx
  obtain ⟨k', _, hk'⟩ := last_some hx'
  have a : E = k.e := by rw [q.newest, hk]; rfl
  have a' : E' = k'.e := by rw [q'.newest, hk']; rfl
  obtain ⟨_, _, _, _, p1⟩ := lastOf_mem hk
  obtain ⟨_, _, _, _, p2⟩ := lastOf_mem hk'
  have b : x.path.toList = x'.path.toList := by
    rw [← p1, ← p2, ← a, ← a', e, e', hn]
  have c : E = E' := by rw [q.newest, q'.newest, last_path b]
  have o := q.opens
  rw [c, q'.opens] at o
  exact (congrArg Prod.fst o).symm
theorem dueOf_spec (Y : RS) : DueSpec Y (writesOf Y.keys Y.epoch) (keptOf Y.all) (dueOf Y) := due_spec Y _ _
end Go.Proofs.YtggbjffmclpmgaaGreatDoor
namespace Go.Proofs.YtggbjffmclpmgaaGreatDoor
open Go.RowKit

variable {F : Nat → Prop} {b : Nat} {X : PS}

/-! Turning the key: the program's small functions. -/
theorem info56 : (Tryz.prog.info? 56).map (fun i => (i.zero, i.size, i.bytes)) = some (some (.agg #[.string ⟨#[]⟩, .int .i64 0, .int .i64 0]), 3, 32) := by kernel_rfl
theorem xin_rowK {w : World} (h : XIn w F b X) : ∃ a cap, w.cell? ⟨b, 7, none⟩ = some (.slice a X.keys.length cap) ∧ w.ownsRow 0 56 3 (.slice a X.keys.length cap) X.keys.length (X.keys.flatMap PKey.cells) ∧ (Value.slice a X.keys.length cap).ownBlock ≠ some b := by
  obtain ⟨vK, vS, vE, hO⟩ := h
  obtain ⟨v, hv, ho, _⟩ := hO.row 0 rfl
  have hn := hO.apart 0 rfl hv
  obtain ⟨a, cap, rfl, _, _⟩ := ownsRow_view ho
  exact ⟨a, cap, by rw [hO.cell]; exact hv, ho, hn⟩
theorem xin_appK {w w1 : World} {v v' : Value} {o : Obj} (h : XIn w F b X) (hv : w.cell? ⟨b, 7, none⟩ = some v) (k : Kept (fun q => v.ownBlock = some q) (w.alloc o) w1) (K : PKey) (ho : w1.ownsRow 0 56 3 v' (X.keys.length + 1) (X.keys.flatMap PKey.cells ++ K.cells)) (P : v'.ownBlock = v.ownBlock ∨ v'.ownBlock = some (w.alloc o).heap.size) :
    XIn (w1.setCell ⟨b, 7, none⟩ v') (grow F w (w1.setCell ⟨b, 7, none⟩ v')) b { X with keys := X.keys ++ [K] } ∧ Kept F w (w1.setCell ⟨b, 7, none⟩ v') := by
  obtain ⟨vK, vS, vE, hO⟩ := h
  obtain rfl : vK = v := Option.some.inj ((hO.cell 7).symm.trans hv)
  obtain ⟨q1, q2⟩ := hO.appended (Low.refl _ w) 0 rfl rfl k ho P (X.offs 0 rfl)
  exact ⟨⟨v', vS, vE, q1.cast rfl (by simp [PS.rows])⟩, q2⟩
theorem xin_keyFull {w : World} {i : Nat} {K : PKey} (h : XIn w F b X) (hk : X.keys[i]? = some K) : ∃ g cap, w.cell? ⟨b, 7, none⟩ = some (.slice (some ⟨g, 0, none⟩) X.keys.length cap) ∧ g < w.heap.size ∧ (∀ j, j < 3 → w.cell? ⟨g, i * 3 + j, none⟩ = K.cells[j]?) ∧ ∀ j, w.frozen? ⟨g, j, none⟩ = false := by
  obtain ⟨a, cap, hc, hel⟩ := xin_keys h
  rw [List.length_map] at hc
  obtain ⟨g, rfl, hg, hcs, hf⟩ := hel i K.cells (by rw [List.getElem?_map, hk]; rfl)
  exact ⟨g, cap, hc, hg, hcs, hf⟩
theorem xin_setWrote {w : World} (h : XIn w F b X) {g cap : Nat} (hc : w.cell? ⟨b, 7, none⟩ = some (.slice (some ⟨g, 0, none⟩) X.keys.length cap)) (i : Nat) (P : PKey) (hP : X.keys[i]? = some P) (v : Int) :
    XIn (w.setCell ⟨g, i * 3 + 2, none⟩ (.int .i64 v)) F b { X with keys := X.keys.set i { P with wrote := v } } ∧ Kept F w (w.setCell ⟨g, i * 3 + 2, none⟩ (.int .i64 v)) := by
  obtain ⟨vK, vS, vE, hO⟩ := h
  obtain rfl : vK = _ := Option.some.inj ((hO.cell 7).symm.trans hc)
  obtain ⟨q1, q2⟩ := own_cellSet hO 0 PKey.len rfl rfl i P { P with wrote := v } hP 2 (by omega) (.int .i64 v) rfl
  exact ⟨⟨_, vS, vE, q1.cast rfl (by simp [PS.rows])⟩, q2⟩
theorem xin_setText {w : World} (h : XIn w F b X) {g cap : Nat} (hc : w.cell? ⟨b, 7, none⟩ = some (.slice (some ⟨g, 0, none⟩) X.keys.length cap)) (i : Nat) (P : PKey) (hP : X.keys[i]? = some P) (v : ByteArray) :
    XIn (w.setCell ⟨g, i * 3, none⟩ (.string v)) F b { X with keys := X.keys.set i { P with text := v } } ∧ Kept F w (w.setCell ⟨g, i * 3, none⟩ (.string v)) := by
  obtain ⟨vK, vS, vE, hO⟩ := h
  obtain rfl : vK = _ := Option.some.inj ((hO.cell 7).symm.trans hc)
  obtain ⟨q1, q2⟩ := own_cellSet hO 0 PKey.len rfl rfl i P { P with text := v } hP 0 (by omega) (.string v) rfl
  exact ⟨⟨_, vS, vE, q1.cast rfl (by simp [PS.rows])⟩, q2⟩
theorem xset_kept {w : World} (h : XIn w F b X) (i : Nat) (v : Value) : Kept F w (w.setCell ⟨b, i, none⟩ v) := (setCell_kept w ⟨b, i, none⟩ v).mono (fun q _ e => by rw [show q = b from e]; exact h.inF)
/-- The table of package seal is none of a coffer's blocks. -/
theorem xin_apart0 {w : World} (h : XIn w F b X) (hF : Fours w) (hk : 1 ≤ X.keys.length) (hs : 1 ≤ X.servers.length) (he : 1 ≤ X.entries.length) : XIn w (fun k => F k ∧ k ≠ 0) b X := by
  obtain ⟨vK, vS, vE, hO⟩ := h
  have hb0 : b ≠ 0 := by
    rintro rfl
    have c := hO.cell 7
    rw [hF.t7] at c
    obtain ⟨v, hv, ho, _⟩ := hO.row 0 rfl
    obtain ⟨a, cap, rfl, _, _⟩ := ownsRow_view ho
    have e : (X.cells vK vS vE)[7]? = some (.slice a X.keys.length cap) := hv
    rw [e] at c
    cases c
  obtain ⟨τ, t0, hr⟩ := hO.rows
  have no : ∀ (j : Nat) (r : Row), X.rows[j]? = some r → ∀ v, w.ownsRow 0 r.e r.size v r.n r.xs → v.ownBlock ≠ some 0 := by
    intro j r hj v ho e
    obtain ⟨a, cap, rfl, hcap, hg⟩ := ownsRow_view ho
    have hcases : j = 0 ∨ j = 1 ∨ j = 2 := by have := (List.getElem?_eq_some_iff.1 hj).1; simp [PS.rows] at this; omega
    rcases hcases with rfl | rfl | rfl
    · obtain rfl := (Option.some.inj hj).symm
      obtain ⟨g, rfl, _, hcs, _⟩ := hg (by show 0 < X.keys.length; omega)
      obtain rfl : g = 0 := Option.some.inj e
      obtain ⟨k, r, hkr⟩ : ∃ k r, X.keys = k :: r := by cases hq : X.keys with
        | nil => rw [hq] at hk; cases hk
        | cons k r => exact ⟨k, r, rfl⟩
      have c := hcs 0 (by show 0 < X.keys.length * 3; omega)
      rw [hF.t0] at c
      have c2 : some (Value.int .i64 0) = (X.keys.flatMap PKey.cells)[0]? := c
      rw [hkr] at c2
      cases c2
    · obtain rfl := (Option.some.inj hj).symm
      obtain ⟨g, rfl, _, hcs, _⟩ := hg (by show 0 < X.servers.length; omega)
      obtain rfl : g = 0 := Option.some.inj e
      obtain ⟨k, r, hkr⟩ : ∃ k r, X.servers = k :: r := by cases hq : X.servers with
        | nil => rw [hq] at hs; cases hs
        | cons k r => exact ⟨k, r, rfl⟩
      have c := hcs 1 (by show 1 < X.servers.length * 10; omega)
      rw [hF.t1] at c
      have c2 : some (Value.int .i64 4) = (X.servers.flatMap PSrv.cells)[1]? := c
      rw [hkr] at c2
      cases c2
    · obtain rfl := (Option.some.inj hj).symm
      obtain ⟨g, rfl, _, hcs, _⟩ := hg (by show 0 < X.entries.length; omega)
      obtain rfl : g = 0 := Option.some.inj e
      obtain ⟨k, r, hkr⟩ : ∃ k r, X.entries = k :: r := by cases hq : X.entries with
        | nil => rw [hq] at he; cases he
        | cons k r => exact ⟨k, r, rfl⟩
      have c := hcs 0 (by show 0 < X.entries.length * 6; omega)
      rw [hF.t0] at c
      have c2 : some (Value.int .i64 0) = (X.entries.flatMap Ent.cells)[0]? := c
      rw [hkr] at c2
      cases c2
  refine ⟨vK, vS, vE, hO.blk, ⟨hO.inF, hb0⟩, fun k hk => hO.below k hk.1, τ, t0, fun j r hj => ?_⟩
  obtain ⟨v, hv, ho, hq⟩ := hr j r hj
  exact ⟨v, hv, ho, fun k e => ⟨⟨(hq k e).1, fun e0 => no j r hj v ho (by rw [e, e0])⟩, (hq k e).2⟩⟩
theorem Fours.kept {w w' : World} {G : Nat → Prop} (h : Fours w) (h1 : 1 ≤ w.heap.size) (k : Kept G w w') (h0 : ¬ G 0) : Fours w' :=
  h.later ⟨k.os, k.output, k.size, fun i hi => by
    obtain rfl : i = 0 := by omega
    exact k.block 0 (by omega) h0⟩
def pProm (X : PS) : Bool := (X.turn == 2) || (X.turn == 3)
theorem isPromoted_any (w : World) (h : XIn w F b X) :
    Calls Tryz.prog 79 #[.pointer (some ⟨b, 0, none⟩)] w fun e w' => e = .returned (.bool (pProm X)) ∧ w' = w := by
  have c := xin_turn h
  clear h
  cases q : (X.turn == 2)
  all_goals
    go_enter Tryz.func79, Tryz.ntmps79
    go_wp2
    go_ret
    exact ⟨by simp [pProm, q], rfl⟩
def pOld (X : PS) (e : Ent) : Bool := !e.gone && (e.key != X.write)
set_option maxRecDepth 100000 in
theorem isOld_any (w : World) (e : Ent) (h : XIn w F b X) :
    Calls Tryz.prog 85 #[.pointer (some ⟨b, 0, none⟩), .agg #[.string e.path, .int .i64 e.rev, .int .i64 e.key, .int .i64 e.draw, .string e.sealed, .bool e.gone]] w fun r w' => r = .returned (.bool (pOld X e)) ∧ Low w.heap.size w w' := by
  have HR := hid h
  clear h
  go_enter Tryz.func85, Tryz.ntmps85
  go_upto_region 1 with fail
  go_name_world W hW
  have hB : Blk W w.heap.size 50 e.cells := by rw [← hW]; exact Blk.new w 50 e.cells
  have hX : XIn W F b X := by rw [← hW]; exact HR.out.alloc _
  have LW : Hid (Low w.heap.size w W) := by
    show Low _ _ _
    rw [← hW]; exact (Low.refl _ w).alloc (Nat.le_refl _) _
  have e2 : W.cell? ⟨w.heap.size, 2, none⟩ = some (.int .i64 e.key) := hB.cell 2
  have e5 : W.cell? ⟨w.heap.size, 5, none⟩ = some (.bool e.gone) := hB.cell 5
  have c3 := xin_write hX
  have lb := hX.lt
  have lN := hB.lt
  clear hW hB hX
  cases qg : e.gone
  all_goals
    rw [qg] at e5
    go_region
    all_goals go_wp2_with fail
    all_goals go_ret
    all_goals exact ⟨by simp [pOld, qg], LW.out.drew⟩
def pSeen (X : PS) : Bool := X.servers.all (fun s => !decide (s.seen < X.epoch))
theorem pall_snoc {α : Type} (l : List α) (i : Nat) (x : α) (p : α → Bool) (h : l[i]? = some x) : (l.take (i + 1)).all p = ((l.take i).all p && p x) := by
  rw [take_snoc h, List.all_append]; simp
set_option maxRecDepth 100000 in
set_option maxHeartbeats 1000000 in
theorem allHaveSeen_any (w : World) (h : XIn w F b X) (hs : X.servers.length ≤ 4) :
    Calls Tryz.prog 77 #[.pointer (some ⟨b, 0, none⟩)] w fun e w' => e = .returned (.bool (pSeen X)) ∧ Low w.heap.size w w' := by
  have HR := hid h
  clear h
  go_enter Tryz.func77, Tryz.ntmps77
  go_wp2_with fail
  go_loopg [3] X.servers.length (fun left iv wr => ∃ i : Nat, left = X.servers.length - i ∧ i ≤ X.servers.length ∧ iv = .int .i64 (i : Int) ∧ Hid ((X.servers.take i).all (fun s => !decide (s.seen < X.epoch)) = true) ∧ Hid (Low w.heap.size w wr))
  case atStart => exact ⟨0, rfl, Nat.zero_le _, rfl, by show _ = _; simp, Low.refl _ _⟩
  case round =>
    obtain ⟨i, hgk, hi, rfl, HI, HL⟩ := hrel
    have HGK := hid hgk
    have R1 : Hid (XIn wr F b X) := HR.out.low HL.out
    clear hgk
    have lb := R1.out.lt
    have c2 := xin_epoch R1.out
    by_cases h3 : i < X.servers.length
    · have q1 : decide ((i : Int) < (X.servers.length : Int)) = true := by simp; omega
      have il : (i : Int) < (X.servers.length : Int) := by omega
      obtain ⟨x, hx⟩ : ∃ x, X.servers[i]? = some x := ⟨_, List.getElem?_eq_getElem h3⟩
      obtain ⟨g, cap, hc, hg, hcs, _⟩ := xin_srvAt R1.out hx
      have c0 : wr.cell? ⟨g, i * 10, none⟩ = some (.int .i64 x.seen) := hcs 0 (by omega)
      have HX := hid hx
      clear hx hcs
      cases qx : decide (x.seen < X.epoch)
      · go_upto_region 4 with fail
        go_region
        all_goals go_wp2_with fail
        all_goals
          go_roundg (X.servers.length - (i + 1))
          case rel => exact ⟨i + 1, rfl, by omega, by simp, by show _ = _; rw [pall_snoc _ i _ _ HX.out, HI.out, qx]; rfl, HL.out.drew⟩
          case measure => have := HGK.out; omega
      · go_upto_region 4 with fail
        go_region
        all_goals go_wp2_with fail
        all_goals
          go_ret
          refine ⟨?_, HL.out.drew⟩
          have : pSeen X = false := List.all_eq_false.2 ⟨x, List.mem_of_getElem? HX.out, by rw [qx]; simp⟩
          rw [this]
          rfl
    · have q1 : decide ((i : Int) < (X.servers.length : Int)) = false := by simp; omega
      obtain ⟨a5, cap5, hc5, _⟩ := xin_servers R1.out
      rw [List.length_map] at hc5
      have hall : Hid (pSeen X = true) := by
        show pSeen X = true
        unfold pSeen
        have := HI.out
        rwa [List.take_of_length_le (by omega)] at this
      go_wp2_with fail
      go_ret
      exact ⟨by rw [hall.out]; rfl, HL.out⟩
def PS.takeOver (X : PS) (n : Nat) (P : PKey) : PS := { X with keys := X.keys.set n { P with wrote := X.epoch }, write := (n : Int) + 1 }
set_option maxRecDepth 100000 in
set_option maxHeartbeats 1000000 in
theorem takeOver_any (w : World) (n : Nat) (P : PKey) (h : XIn w F b X) (hn : X.keys.length = n + 1) (hn6 : n ≤ 6) (hP : X.keys[n]? = some P) :
    Calls Tryz.prog 78 #[.pointer (some ⟨b, 0, none⟩)] w fun e w' => e = .returned (.tuple #[]) ∧ XIn w' F b (X.takeOver n P) ∧ Kept F w w' := by
  obtain ⟨g, cap, hc, hg, hcs, hf⟩ := xin_keyFull h hP
  obtain ⟨r1, k1⟩ := xin_setWrote h hc n P hP X.epoch
  have e2 : w.cell? ⟨g, n * 3 + 2, none⟩ = some (.int .i64 P.wrote) := hcs 2 (by omega)
  have f2 := hf (n * 3 + 2)
  have d2 := xin_epoch h
  have lb := h.lt
  have d3 := xin_write r1
  have f3 := r1.frozen 3
  have R1 := hid r1
  have K1 := hid k1
  have hc2 : w.cell? ⟨b, 7, none⟩ = some (.slice (some ⟨g, 0, none⟩) ((n : Int) + 1).toNat cap) := by rw [hc, hn]; rfl
  have ix : wrap64 ((X.keys.length : Int) - 1) = (n : Int) := by unfold wrap64; omega
  have ix2 : IntKind.i64.wrap ((X.keys.length : Int) - 1) = (n : Int) := by rw [IntKind.wrap_i64]; omega
  have nl : (n : Int) < (X.keys.length : Int) := by omega
  have HN : Hid ((X.keys.length : Int) = (n : Int) + 1) := by show _ = _; omega
  clear h hcs hf r1 k1 hP hc2 hn
  go_enter Tryz.func78, Tryz.ntmps78
  go_upto_region 1 with fail
  go_region
  all_goals go_wp2_with fail
  all_goals
    go_end0
    refine ⟨rfl, ?_, ?_⟩
    · have := (xin_set_write R1.out (X.keys.length : Int)).drew
      unfold PS.takeOver
      rw [← HN.out]
      exact this
    · exact (K1.out.trans (xset_kept R1.out 3 _) (fun _ f => f) (fun _ _ f => f)).drew
set_option maxRecDepth 100000 in
set_option maxHeartbeats 1000000 in
theorem come_any (w : World) (text : ByteArray) (h : XIn w F b X) (hk : X.keys.length < 6) :
    Calls Tryz.prog 76 #[.pointer (some ⟨b, 0, none⟩), .string text] w fun e w' => e = .returned (.int .i64 ((X.keys.length : Int) + 1)) ∧ XIn w' (grow F w w') b { X with keys := X.keys ++ [⟨text, X.epoch, 0⟩] } ∧ Kept F w w' := by
  obtain ⟨a, cap, c7, o7, n7⟩ := xin_rowK h
  have c2 := xin_epoch h
  have lb := h.lt
  have HR := hid h
  have O7 := hid o7
  have N7 := hid n7
  have C7 := hid c7
  have F7 := hid (h.frozen 7)
  have LB := hid lb
  clear h o7 n7
  go_enter Tryz.func76, Tryz.ntmps76
  go_upto_region 1 with fail
  go_region_law ((refine step_append_mine _ rfl (.tmp 9) (.tmp 17) 57 rfl 56 _ 3 32 Tryz.underlying57 info56 rfl (by omega) (.slice a X.keys.length cap) X.keys.length (X.keys.flatMap PKey.cells) ?_ ?_ ⟨w.heap.size, 0, none⟩ 1 1 (PKey.mk text X.epoch 0).cells ?_ rfl ?_ (PKey.one _) ⟨by omega, by omega⟩ ?_; rfl; exact (World.ownsRow.alloc (w := w) O7.out _); rfl; exact (news_new w (PKey.mk text X.epoch 0).cells 56); intro v' w1 o1 k1 p1; obtain ⟨a', cap', rfl, _, _⟩ := ownsRow_view o1; have O1 := hid o1; have K1 := hid k1.of_drew; have P1 := hid p1; have c7w := kept_cell K1.out LB.out N7.out C7.out; have f7w := kept_frozen K1.out LB.out N7.out F7.out; clear o1 k1 p1))
  all_goals go_wp2_with fail
  all_goals go_ret
  all_goals
    obtain ⟨r1, r2⟩ := xin_appK HR.out C7.out K1.out (PKey.mk text X.epoch 0) O1.out P1.out
    exact ⟨by simp, r1, r2⟩
end Go.Proofs.YtggbjffmclpmgaaGreatDoor
