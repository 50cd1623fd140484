import Derived.Test.YtggbjffmclpmgaaGreatDoorTurJToPQ
import Derived.Test.YtggbjffmclpmgaaGreatDoorTurGToTurI
import Derived.Test.YtggbjffmclpmgaaGreatDoorPUToPR
namespace Go.Proofs.YtggbjffmclpmgaaGreatDoor
open Go.RowKit

variable {F : Nat → Prop} {b : Nat} {X : PS}

/-! Destroy. -/
def pOther (m : Int) (k : PKey × Nat) : Bool := ((k.2 : Int) + 1 != m) && !keyGone k.1
def pOldLeft (ks : List PKey) (m : Int) : Bool := ks.zipIdx.any (pOther m)
theorem pOldLeft_yes {ks : List PKey} {m : Int} {i : Nat} {k : PKey} (h : ks[i]? = some k) (hp : pOther m (k, i) = true) : pOldLeft ks m = true := List.any_eq_true.2 ⟨(k, i), List.mem_zipIdx_iff_getElem?.2 h, hp⟩
theorem pOldLeft_no {ks : List PKey} {m : Int} (h : ∀ (i : Nat) (k : PKey), ks[i]? = some k → pOther m (k, i) = false) : pOldLeft ks m = false := by
  unfold pOldLeft
  rw [List.any_eq_false]
  rintro ⟨k, i⟩ hk
  rw [h i k (List.mem_zipIdx_iff_getElem?.1 hk)]
  simp
theorem pOldLeft_false {ks : List PKey} {m : Int} (h : pOldLeft ks m = false) {i : Nat} {k : PKey} (hk : ks[i]? = some k) : pOther m (k, i) = false := by
  unfold pOldLeft at h
  have := List.any_eq_false.1 h (k, i) (List.mem_zipIdx_iff_getElem?.2 hk)
  simpa using this
set_option maxRecDepth 100000 in
set_option maxHeartbeats 1000000 in
theorem oldKeyLeft_any (w : World) (h : XIn w F b X) (hk : X.keys.length ≤ 6) :
    Calls Tryz.prog 87 #[.pointer (some ⟨b, 0, none⟩)] w fun e w' => e = .returned (.bool (pOldLeft X.keys X.write)) ∧ Low w.heap.size w w' := by
  have HR := hid h
  clear h
  go_enter Tryz.func87, Tryz.ntmps87
  go_wp2_with fail
  go_loopg [3] X.keys.length (fun left iv wr => ∃ i : Nat, left = X.keys.length - i ∧ i ≤ X.keys.length ∧ iv = .int .i64 (i : Int) ∧ Hid (∀ (j : Nat) (k : PKey), j < i → X.keys[j]? = some k → pOther X.write (k, j) = false) ∧ Hid (Low w.heap.size w wr))
  case atStart => exact ⟨0, rfl, Nat.zero_le _, rfl, (fun j k hj => by omega), Low.refl _ _⟩
  case round =>
    obtain ⟨i, hgk, hi, rfl, HI, HL⟩ := hrel
    have HGK := hid hgk
    have R1 : Hid (XIn wr F b X) := HR.out.low HL.out
    clear hgk
    have lb := R1.out.lt
    by_cases h3 : i < X.keys.length
    · have q1 : decide ((i : Int) < (X.keys.length : Int)) = true := by simp; omega
      have il : (i : Int) < (X.keys.length : Int) := by omega
      obtain ⟨x, hx⟩ : ∃ x, X.keys[i]? = some x := ⟨_, List.getElem?_eq_getElem h3⟩
      obtain ⟨g, cap, hc, hg, hcs, _⟩ := xin_keyFull R1.out hx
      have k0 : wr.cell? ⟨g, i * 3, none⟩ = some (.string x.text) := hcs 0 (by omega)
      have k1 : wr.cell? ⟨g, i * 3 + 1, none⟩ = some (.int .i64 x.came) := hcs 1 (by omega)
      have k2 : wr.cell? ⟨g, i * 3 + 2, none⟩ = some (.int .i64 x.wrote) := hcs 2 (by omega)
      have c3 := xin_write R1.out
      have HX := hid hx
      obtain ⟨m, hm⟩ : ∃ m, m = X.write := ⟨_, rfl⟩
      rw [← hm] at c3
      have HM := hid hm
      obtain ⟨o, ho⟩ : ∃ o, o = keyGone x := ⟨_, rfl⟩
      have HO := hid ho
      clear hx hcs ho hm
      cases qm : ((i : Int) + 1 != m)
      · go_wp2_with fail
        go_roundg (X.keys.length - (i + 1))
        case rel =>
          refine ⟨i + 1, rfl, by omega, by simp, (fun j k hj hjk => ?_), HL.out⟩
          by_cases e : j = i
          · subst e
            unfold pOther
            rw [← HM.out, qm]; rfl
          · exact HI.out j k (by omega) hjk
        case measure => have := HGK.out; omega
      · cases qx : o
        · go_wp2_with (go_at_call 86; refine (destroyed_any _ x).mono ?_; rw [← HO.out, qx]; rintro e y2 ⟨rfl, l2⟩; have L2 : Hid (Low w.heap.size w y2) := HL.out.trans (l2.mono HL.out.size); clear l2)
          go_ret
          exact ⟨by rw [pOldLeft_yes HX.out (by unfold pOther; rw [← HM.out, ← HO.out, qm, qx]; rfl)]; rfl, L2.out⟩
        · go_wp2_with (go_at_call 86; refine (destroyed_any _ x).mono ?_; rw [← HO.out, qx]; rintro e y2 ⟨rfl, l2⟩; have L2 : Hid (Low w.heap.size w y2) := HL.out.trans (l2.mono HL.out.size); clear l2)
          go_roundg (X.keys.length - (i + 1))
          case rel =>
            refine ⟨i + 1, rfl, by omega, by simp, (fun j k hj hjk => ?_), L2.out⟩
            by_cases e : j = i
            · subst e
              obtain rfl := Option.some.inj (HX.out.symm.trans hjk)
              unfold pOther
              rw [← HM.out, ← HO.out, qm, qx]; rfl
            · exact HI.out j k (by omega) hjk
          case measure => have := HGK.out; omega
    · have q1 : decide ((i : Int) < (X.keys.length : Int)) = false := by simp; omega
      obtain ⟨a, cap, c7, _⟩ := xin_rowK R1.out
      go_wp2_with fail
      go_ret
      refine ⟨?_, HL.out⟩
      rw [pOldLeft_no (fun j k hjk => HI.out j k (by have := (List.getElem?_eq_some_iff.1 hjk).1; omega) hjk)]
      rfl
theorem pDestroy_none (w : World) (k : Int) (h : XIn w F b X) (hk : k < 1 ∨ (X.keys.length : Int) < k) :
    Calls Tryz.prog 46 #[.pointer (some ⟨b, 0, none⟩), .int .i64 k] w fun e w' => e = .returned (.int .i64 12) ∧ w' = w := by
  obtain ⟨a, cap, c7, _⟩ := xin_rowK h
  clear h
  cases q : decide (k < 1)
  · have q2 : decide ((X.keys.length : Int) < k) = true := by simp at q; simp; omega
    clear hk
    go_enter Tryz.func46, Tryz.ntmps46
    go_wp2
    go_ret
    exact ⟨rfl, rfl⟩
  · clear hk
    go_enter Tryz.func46, Tryz.ntmps46
    go_wp2
    go_ret
    exact ⟨rfl, rfl⟩
set_option maxRecDepth 100000 in
theorem pDestroy_gone (w : World) (j : Nat) (P : PKey) (h : XIn w F b X) (hP : X.keys[j]? = some P) (hj : j ≤ 6) (hg : keyGone P = true) :
    Calls Tryz.prog 46 #[.pointer (some ⟨b, 0, none⟩), .int .i64 ((j : Int) + 1)] w fun e w' => e = .returned (.int .i64 14) ∧ Low w.heap.size w w' := by
  obtain ⟨g, cap, hc, hg1, hcs, hf⟩ := xin_keyFull h hP
  have hl : j < X.keys.length := (List.getElem?_eq_some_iff.1 hP).1
  have HC : Hid (w.rangeAt g (j * 3) P.cells) := range_of hcs (fun _ _ e => ⟨(List.getElem?_eq_some_iff.1 e).1, e⟩)
  have q1 : decide ((j : Int) + 1 < 1) = false := by simp; omega
  have q2 : decide ((X.keys.length : Int) < (j : Int) + 1) = false := by simp; omega
  have jl : (j : Int) < (X.keys.length : Int) := by omega
  have hz : (j : Int) + 1 - 1 = (j : Int) := by omega
  have HG := hid hg
  clear h hP hl hg hcs hf
  go_enter Tryz.func46, Tryz.ntmps46
  go_wp2_with (first | ((with_reducible refine ld56 (.tmp 22) g (j * 3) P ?_ HC.out ?_); rfl) | (go_at_call 86; refine (destroyed_any _ P).mono ?_; rw [HG.out]; rintro e y2 ⟨rfl, l2⟩; have L2 := hid l2; clear l2))
  go_ret
  exact ⟨rfl, L2.out⟩
set_option maxRecDepth 100000 in
theorem pDestroy_gate (w : World) (j : Nat) (P : PKey) (h : XIn w F b X) (hP : X.keys[j]? = some P) (hj : j ≤ 6) (hg : keyGone P = false) (hb : (((j : Int) + 1 == X.write) || (X.turn != 3)) = true) :
    Calls Tryz.prog 46 #[.pointer (some ⟨b, 0, none⟩), .int .i64 ((j : Int) + 1)] w fun e w' => e = .returned (.int .i64 20) ∧ Low w.heap.size w w' := by
  obtain ⟨g, cap, hc, hg1, hcs, hf⟩ := xin_keyFull h hP
  have hl : j < X.keys.length := (List.getElem?_eq_some_iff.1 hP).1
  have HC : Hid (w.rangeAt g (j * 3) P.cells) := range_of hcs (fun _ _ e => ⟨(List.getElem?_eq_some_iff.1 e).1, e⟩)
  have q1 : decide ((j : Int) + 1 < 1) = false := by simp; omega
  have q2 : decide ((X.keys.length : Int) < (j : Int) + 1) = false := by simp; omega
  have jl : (j : Int) < (X.keys.length : Int) := by omega
  have hz : (j : Int) + 1 - 1 = (j : Int) := by omega
  have HG := hid hg
  have HR := hid h
  clear h hP hl hg hcs hf
  cases q3 : ((j : Int) + 1 == X.write)
  · have q4 : (X.turn != 3) = true := by rw [q3, Bool.false_or] at hb; exact hb
    clear hb
    go_enter Tryz.func46, Tryz.ntmps46
    go_wp2_with (first | ((with_reducible refine ld56 (.tmp 22) g (j * 3) P ?_ HC.out ?_); rfl) | (go_at_call 86; refine (destroyed_any _ P).mono ?_; rw [HG.out]; rintro e y2 ⟨rfl, l2⟩; have L2 := hid l2; have c3 := xin_write (HR.out.low l2); have c4 := xin_turn (HR.out.low l2); clear l2))
    go_ret
    exact ⟨rfl, L2.out⟩
  · clear hb
    go_enter Tryz.func46, Tryz.ntmps46
    go_wp2_with (first | ((with_reducible refine ld56 (.tmp 22) g (j * 3) P ?_ HC.out ?_); rfl) | (go_at_call 86; refine (destroyed_any _ P).mono ?_; rw [HG.out]; rintro e y2 ⟨rfl, l2⟩; have L2 := hid l2; have c3 := xin_write (HR.out.low l2); have c4 := xin_turn (HR.out.low l2); clear l2))
    go_ret
    exact ⟨rfl, L2.out⟩
def PS.destroyP (X : PS) (j : Nat) (P : PKey) (t : Int) : PS := { X with keys := X.keys.set j { P with text := ⟨#[]⟩ }, turn := t }
set_option maxRecDepth 100000 in
set_option maxHeartbeats 1000000 in
theorem pDestroy_yes (w : World) (j : Nat) (P : PKey) (h : XIn w F b X) (hP : X.keys[j]? = some P) (hj : j ≤ 6) (hk6 : X.keys.length ≤ 6) (hg : keyGone P = false) (hb : (((j : Int) + 1 == X.write) || (X.turn != 3)) = false) :
    Calls Tryz.prog 46 #[.pointer (some ⟨b, 0, none⟩), .int .i64 ((j : Int) + 1)] w fun e w' => e = .returned (.int .i64 0) ∧ XIn w' F b (X.destroyP j P (if pOldLeft (X.keys.set j { P with text := ⟨#[]⟩ }) X.write then X.turn else 0)) ∧ Kept F w w' := by
  obtain ⟨g, cap, hc, hg1, hcs, hf⟩ := xin_keyFull h hP
  have hl : j < X.keys.length := (List.getElem?_eq_some_iff.1 hP).1
  have HC : Hid (w.rangeAt g (j * 3) P.cells) := range_of hcs (fun _ _ e => ⟨(List.getElem?_eq_some_iff.1 e).1, e⟩)
  have q1 : decide ((j : Int) + 1 < 1) = false := by simp; omega
  have q2 : decide ((X.keys.length : Int) < (j : Int) + 1) = false := by simp; omega
  have jl : (j : Int) < (X.keys.length : Int) := by omega
  have hz : (j : Int) + 1 - 1 = (j : Int) := by omega
  have HG := hid hg
  have HR := hid h
  have HP := hid hP
  have HCC := hid hc
  rw [Bool.or_eq_false_iff] at hb
  obtain ⟨q3, q4⟩ := hb
  obtain ⟨ks, hks⟩ : ∃ ks, ks = X.keys.set j { P with text := ⟨#[]⟩ } := ⟨_, rfl⟩
  have HKS := hid hks
  have HL6 : Hid (ks.length ≤ 6) := by show _ ≤ _; rw [hks]; simpa using hk6
  obtain ⟨lf, hlf⟩ : ∃ lf, lf = pOldLeft ks X.write := ⟨_, rfl⟩
  have HLF := hid hlf
  rw [← hks, ← hlf]
  clear h hP hl hg hcs hf hks hlf
  go_enter Tryz.func46, Tryz.ntmps46
  go_upto_region 7 with (first | ((with_reducible refine ld56 (.tmp 22) g (j * 3) P ?_ HC.out ?_); rfl) | (go_at_call 86; refine (destroyed_any _ P).mono ?_; rw [HG.out]; rintro e y2 ⟨rfl, l2⟩; have L2 := hid l2; have R2 := hid (HR.out.low l2); have c3 := xin_write R2.out; have c4 := xin_turn R2.out; clear l2))
  clear hc c3 c4 hg1
  obtain ⟨g2, cap2, hc, hg1, hcs, hf⟩ := xin_keyFull R2.out HP.out
  obtain ⟨r1, k1⟩ := xin_setText R2.out hc j P HP.out ⟨#[]⟩
  have e0 : y2.cell? ⟨g2, j * 3, none⟩ = some (.string P.text) := hcs 0 (by omega)
  have f0 := hf (j * 3)
  have lb := R2.out.lt
  have R1 := hid r1
  have K1 := hid k1
  clear hcs hf r1 k1
  go_upto_region 8 with fail
  go_name_world W hW
  have RW : Hid (XIn W F b { X with keys := ks }) := by
    show XIn W F b _
    rw [← hW, HKS.out]; exact R1.out
  have KW : Hid (Kept F w W) := by
    show Kept F w W
    rw [← hW]; exact L2.out.kept.trans K1.out (fun _ f => f.elim) (fun _ _ f => f)
  clear hW R1 K1 hc e0 f0 hg1
  cases ql : lf
  · go_upto_region 9 with (go_at_call 87; refine (oldKeyLeft_any (X := { X with keys := ks }) _ RW.out HL6.out).mono ?_; rw [show pOldLeft ({ X with keys := ks } : PS).keys ({ X with keys := ks } : PS).write = false from (HLF.out.symm.trans ql)]; rintro e y3 ⟨rfl, l3⟩; have L3 := hid l3; have R3 := hid (RW.out.low l3); clear l3)
    have c4 := xin_turn R3.out
    have f4 := R3.out.frozen 4
    have lb3 := R3.out.lt
    go_wp2_with fail
    go_ret
    refine ⟨rfl, ?_, ?_⟩
    · have := xin_set_turn R3.out 0
      unfold PS.destroyP
      rw [← HKS.out]
      exact this
    · exact (KW.out.trans L3.out.kept (H := F) (fun _ f => f) (fun _ _ f => f.elim)).trans (xset_kept R3.out 4 _) (fun _ f => f) (fun _ _ f => f)
  · go_wp2_with (go_at_call 87; refine (oldKeyLeft_any (X := { X with keys := ks }) _ RW.out HL6.out).mono ?_; rw [show pOldLeft ({ X with keys := ks } : PS).keys ({ X with keys := ks } : PS).write = true from (HLF.out.symm.trans ql)]; rintro e y3 ⟨rfl, l3⟩; have L3 := hid l3; have R3 := hid (RW.out.low l3); clear l3)
    go_ret
    refine ⟨rfl, ?_, KW.out.trans L3.out.kept (fun _ f => f) (fun _ _ f => f.elim)⟩
    unfold PS.destroyP
    rw [← HKS.out]
    exact R3.out
end Go.Proofs.YtggbjffmclpmgaaGreatDoor
namespace Go.Proofs.YtggbjffmclpmgaaGreatDoor
open Go.RowKit

/-! What Turns asks of the program. -/

variable {X : PS} {Y : RS} {n : Nat}
theorem left_one {ks : List PKey} {j : Nat} {k : PKey} (hk : ks[j]? = some k) (hg : keyGone k = false) : (pLeft ks == 1) = !pOldLeft ks ((j : Int) + 1) := by
  obtain ⟨hjl, hje⟩ := List.getElem?_eq_some_iff.1 hk
  have hsp : ks = ks.take j ++ k :: ks.drop (j + 1) := by
    conv => lhs; rw [← List.take_append_drop j ks, List.drop_eq_getElem_cons hjl, hje]
  have hct : pLeft ks = (ks.take j).countP (fun k => !keyGone k) + ((ks.drop (j + 1)).countP (fun k => !keyGone k) + 1) := by
    unfold pLeft
    conv => lhs; rw [hsp]
    rw [List.countP_append, List.countP_cons]
    simp [hg]
  have at1 : ∀ (i : Nat) (a : PKey), (ks.take j)[i]? = some a → i < j ∧ ks[i]? = some a := fun i a h => by
    have h1 := (List.getElem?_eq_some_iff.1 h).1
    rw [List.length_take] at h1
    have h2 : i < j := by omega
    rw [List.getElem?_take_of_lt h2] at h
    exact ⟨h2, h⟩
  cases ho : pOldLeft ks ((j : Int) + 1)
  · have z1 : (ks.take j).countP (fun k => !keyGone k) = 0 := List.countP_eq_zero.2 (fun a ha => by
      obtain ⟨i, hi⟩ := List.getElem?_of_mem ha
      obtain ⟨h1, h2⟩ := at1 i a hi
      have := pOldLeft_false ho h2
      unfold pOther at this
      have hne : ((i : Int) + 1 != (j : Int) + 1) = true := by rw [bne_iff_ne]; omega
      rw [hne, Bool.true_and] at this
      simpa using this)
    have z2 : (ks.drop (j + 1)).countP (fun k => !keyGone k) = 0 := List.countP_eq_zero.2 (fun a ha => by
      obtain ⟨i, hi⟩ := List.getElem?_of_mem ha
      rw [List.getElem?_drop] at hi
      have := pOldLeft_false ho hi
      unfold pOther at this
      have hne : (((j + 1 + i : Nat) : Int) + 1 != (j : Int) + 1) = true := by rw [bne_iff_ne]; omega
      rw [hne, Bool.true_and] at this
      simpa using this)
    rw [hct, z1, z2]
    rfl
  · unfold pOldLeft at ho
    obtain ⟨⟨a, i⟩, hm, hp⟩ := List.any_eq_true.1 ho
    have hi := List.mem_zipIdx_iff_getElem?.1 hm
    have hi : ks[i]? = some a := hi
    unfold pOther at hp
    rw [Bool.and_eq_true] at hp
    obtain ⟨hp1, hp2⟩ := hp
    have hp1 : (i : Int) + 1 ≠ (j : Int) + 1 := by simpa using hp1
    have hp2 : (!keyGone a) = true := hp2
    have hpos : 0 < (ks.take j).countP (fun k => !keyGone k) ∨ 0 < (ks.drop (j + 1)).countP (fun k => !keyGone k) := by
      by_cases hlt : i < j
      · left
        refine List.countP_pos_iff.2 ⟨a, ?_, hp2⟩
        exact List.mem_of_getElem? (i := i) (by rw [List.getElem?_take_of_lt hlt]; exact hi)
      · right
        refine List.countP_pos_iff.2 ⟨a, ?_, hp2⟩
        exact List.mem_of_getElem? (i := i - (j + 1)) (by rw [List.getElem?_drop, show j + 1 + (i - (j + 1)) = i by omega]; exact hi)
    show (pLeft ks == 1) = false
    rw [beq_eq_false_iff_ne, hct]
    omega
theorem Rel2.ep12 (h : Rel2 n X Y) : 0 ≤ X.epoch ∧ X.epoch ≤ 1000000 := by
  have a := h.ep
  have c := h.keys.few.2
  rw [a.1]
  omega
theorem seen_all (hall : ∀ (i : Nat) (s : PSrv), X.servers[i]? = some s → s.seen = X.epoch) : pSeen X = true := by
  unfold pSeen
  rw [List.all_eq_true]
  intro s hs
  obtain ⟨i, hi⟩ := List.getElem?_of_mem hs
  rw [hall i s hi]
  simp
theorem seen_not (h : Rel2 n X Y) (hex : ∃ (i : Nat) (s : PSrv), X.servers[i]? = some s ∧ s.seen ≠ X.epoch) : pSeen X = false := by
  obtain ⟨i, s, hs, hne⟩ := hex
  unfold pSeen
  rw [List.all_eq_false]
  refine ⟨s, List.mem_of_getElem? hs, ?_⟩
  obtain ⟨sn, u, _, _, a⟩ := h.srv i s hs
  have := a.sn.2
  rw [← a.seen, ← h.ep.1] at this
  simp
  omega
/-- A step of Migrate keeps what it asks. -/
def GoodMove (X : PS) (n : Nat) (i : Nat) (Z : PS) : Prop := ∃ Y : RS, Rel2 (n + i) Z Y ∧ Z.keys = X.keys ∧ Z.write = X.write
theorem good_ok (hn : n ≤ 49000000) (i : Nat) (Z : PS) (hi : i ≤ 20) (h : GoodMove X n i Z) : MOk X Z := by
  obtain ⟨Y, h, hk, hw⟩ := h
  refine ⟨hk, hw, by have := h.few; have := h.rooms; omega, fun x hx hg => ?_, ?_, ?_, fun hf => ?_⟩
  · obtain ⟨j, P, e, _⟩ := h.ekey hx hg
    exact ⟨j, P, e⟩
  · have := h.draws
    rw [this.1]
    omega
  · have := h.all
    rw [h.rev]
    omega
  · obtain ⟨e, e2⟩ := first_due h
    have hfd : (dueOf Y).found = true := by rw [← e, bne_iff_ne]; exact hf
    obtain ⟨a1, a2⟩ := e2 hfd
    have hd := due_ok h.keysOk hfd
    rw [a1, a2]
    exact ⟨hd.name, hd.text⟩
theorem PUni.migrate (h : Rel2 n X Y) (hn : n ≤ 49000000) (N : Nat) (hN : N ≤ 20) (hg : pGoing X = true) {j : Nat} {p : PKey} {K : RKey} (hw : X.write = (j : Int) + 1) (hwy : writesOf Y.keys Y.epoch = (j : Int) + 1) (hp : X.keys[j]? = some p) (hK : Y.keys[j]? = some K) (ht : p.text = K.text) (hs : K.text.size = 48) :
    PUni 42 [.int .i64 (N : Int)] X (.tuple #[.int .i64 ((pMoves K.text ((j : Int) + 1) N X).2.1 : Int), .int .i64 (pMoves K.text ((j : Int) + 1) N X).2.2]) (pMoves K.text ((j : Int) + 1) N X).1 := by
  intro w F b hX hF h1
  have hj6 : j ≤ 6 := by have := (List.getElem?_eq_some_iff.1 hK).1; have := h.keys.few.2; omega
  have key := fun (F1 : Nat → Prop) (hX1 : XIn w F1 b X) (h0 : ¬ F1 0 ∨ ((pFirst X).e.rev != 0) = false) => pMigrate_any (F := F1) w N j p (fun i Z => i ≤ 20 ∧ GoodMove X n i Z) hX1 h0 hN hg hp hj6 (by rw [ht]; exact hs) hw hF h1 ⟨by omega, Y, h, rfl, rfl⟩ (fun i Z hZ => good_ok hn i Z hZ.1 hZ.2) (fun i Z hZ hi hf hu => by
    obtain ⟨hi20, Y', h', hk', hw'⟩ := hZ
    refine ⟨by omega, ?_⟩
    obtain ⟨e, _⟩ := first_due h'
    have hfd : (dueOf Y').found = true := by rw [← e]; exact hf
    obtain ⟨j2, p2, K2, b1, b2, b3, b4, b5, _, b7, _⟩ := h'.writer
    have hjj : j2 = j := by rw [hw', hw] at b1; omega
    subst hjj
    have hpp : p2 = p := by rw [hk'] at b3; exact Option.some.inj (b3.symm.trans hp)
    have htt : K2.text = p.text := by rw [← hpp]; exact (b5.text b7).symm
    have hr := rel_move h' (by omega) b2 b4 hfd (by rw [← pFull_same h']; exact hu)
    rw [← pmove_same h' K2 _ hfd, htt] at hr
    exact ⟨_, hr, hk', hw'⟩)
  by_cases he : X.entries.length = 0
  · have q := key F hX (Or.inr (by
      have : X.entries = [] := List.length_eq_zero_iff.1 he
      unfold pFirst
      rw [this]
      rfl))
    rw [ht] at q
    exact q
  · have q := key (fun k => F k ∧ k ≠ 0) (xin_apart0 hX hF (by rw [h.keys.len]; exact h.keys.few.1) (by rw [h.len.1]; exact h.len.2.2.2) (by omega)) (Or.inl (fun c => c.2 rfl))
    rw [ht] at q
    refine q.mono fun e w' c => ?_
    obtain ⟨c1, F', c2, c3, c4⟩ := c
    exact ⟨c1, F', c2, c3.mono (fun _ _ f => f.1), fun k hk => (c4 k hk).imp (fun f => f.1) id⟩
theorem migrate_two (hn : n ≤ 2000000) (h : Rel21 n X Y) (m : Int) : ∃ v e : Int, PairR Rel21 42 43 [.int .i64 m] X Y n (.tuple #[.int .i64 v, .int .i64 e]) := by
  have h2 : Rel2 (21 * n) X Y := h
  have hup : Rel21 (n + 1) X Y := Rel2.mono h (by omega)
  cases hb : badMove m
  · cases hg : goingOf Y
    · have hgx : pProm X = false := by unfold pProm; rw [h2.turn]; exact hg
      exact ⟨0, 17, X, Y, p_same (fun w F b hX => pMigrate_turn w m hX hb hgx), r_same (fun w F b hR => Migrate_turn w m hR hb hg), hup⟩
    · have hgx : pGoing X = true := by unfold pGoing; rw [h2.turn]; exact hg
      have hm : 0 ≤ m ∧ m ≤ 20 := by
        unfold badMove at hb
        rw [Bool.or_eq_false_iff] at hb
        have q1 : ¬ m < 0 := by simpa using hb.1
        have q2 : ¬ 20 < m := by simpa using hb.2
        omega
      obtain ⟨N, rfl⟩ : ∃ N : Nat, m = (N : Int) := ⟨m.toNat, by omega⟩
      obtain ⟨j, p, K, b1, b2, b3, b4, b5, _, b7, _⟩ := h2.writer
      have ht := b5.text b7
      obtain ⟨s1, s2⟩ := moves_same N (21 * n) X Y h2 (by omega) j K b2 b4
      refine ⟨((moves K ((j : Int) + 1) N Y).2.1 : Int), (moves K ((j : Int) + 1) N Y).2.2, (pMoves K.text ((j : Int) + 1) N X).1, (moves K ((j : Int) + 1) N Y).1, ?_, ?_, Rel2.mono s2 (by omega)⟩
      · rw [← s1]
        exact PUni.migrate h2 (by omega) N (by omega) hgx b1 b2 b3 b4 ht b5.size
      · intro w F b hR
        exact Migrate_any w N K j hR (by omega) hg h2.keys.few.2 (by have := h2.all; omega) h2.keysOk b4 b5.size b2 ⟨h2.draws.2.1, by have := h2.draws.2.2; omega⟩
  · exact ⟨0, 2, X, Y, p_same (fun w F b _ => pMigrate_arg w m hb), r_same (fun w F b _ => Migrate_arg w m hb), hup⟩
theorem pturn : PTurn where
  stage := fun n X Y t hn h ht =>
    ⟨fun h1 => p_same (fun w F b _ => pStage_arg w t (by simpa using h1)),
     fun h1 h2 => p_same (fun w F b hX => pStage_many w t hX (by simpa using h1) h2),
     fun h1 h2 h3 => p_same (fun w F b hX => pStage_turn w t hX (by simpa using h1) h2 (by rw [bne_iff_ne]; exact h3)),
     fun h1 h2 h3 => p_grow (fun w F b hX => pStage_yes w t hX (by simpa using h1) h2 (by rw [h3]; rfl) h.ep12)⟩
  promote := fun n X Y hn h =>
    ⟨fun h1 => p_same (fun w F b hX => pPromote_turn w hX (by rw [bne_iff_ne]; exact h1)),
     fun h1 hex => p_low (fun w F b hX _ _ => pPromote_wait w hX (by rw [h1]; rfl) (by rw [h.len.1]; exact h.len.2.2.1) (seen_not h hex)),
     fun h1 hall m P hm hP => p_kept (fun w F b hX _ _ => pPromote_yes w m P hX (by rw [h1]; rfl) (by rw [h.len.1]; exact h.len.2.2.1) (seen_all hall) hm (by have := h.keys.few.2; have := h.keys.len; omega) hP h.ep12)⟩
  gate := fun n X Y hn h =>
    ⟨fun h1 => p_same (fun w F b hX => pGate_turn w hX h1),
     fun h1 h2 => p_low (fun w F b hX _ _ => (pGate_any w hX h1 (by have := h.few; have := h.rooms; omega)).mono fun e w' q => by
       rcases q with ⟨_, q⟩ | ⟨q, _⟩
       · exact q
       · exact absurd (h2.symm.trans q) (by simp)),
     fun h1 h2 => p_kept (fun w F b hX _ _ => (pGate_any w hX h1 (by have := h.few; have := h.rooms; omega)).mono fun e w' q => by
       rcases q with ⟨q, _⟩ | ⟨_, q⟩
       · exact absurd (h2.symm.trans q) (by simp)
       · exact q)⟩
  destroy := fun n X Y k hn h => by
    have hl := h.keys.len
    have hf := h.keys.few
    have j6 : ∀ (j : Nat) (P : PKey), X.keys[j]? = some P → j ≤ 6 := fun j P hP => by have := (List.getElem?_eq_some_iff.1 hP).1; omega
    refine ⟨fun h1 => p_same (fun w F b hX => pDestroy_none w k hX h1), fun j P hj hP hg => ?_, fun j P hj hP hg hb => ?_, fun j P hj hP hg hw ht => ?_⟩
    · subst hj
      exact p_low (fun w F b hX _ _ => pDestroy_gone w j P hX hP (j6 j P hP) hg)
    · subst hj
      exact p_low (fun w F b hX _ _ => pDestroy_gate w j P hX hP (j6 j P hP) hg (by
        rw [Bool.or_eq_true]
        rcases hb with q | q
        · left; rw [q]; simp
        · right; rw [bne_iff_ne]; exact q))
    · subst hj
      obtain ⟨jm, p, K, b1, b2, b3, b4, b5, _, b7, _⟩ := h.writer
      have hne : j ≠ jm := fun e => hw (by rw [b1, e])
      have hkm : (X.keys.set j { P with text := ⟨#[]⟩ })[jm]? = some p := by rw [List.getElem?_set_ne hne]; exact b3
      have hgp : keyGone p = false := b5.alive.trans b7
      have e := left_one hkm hgp
      have ht2 : (if pLeft (X.keys.set j { P with text := ⟨#[]⟩ }) == 1 then (0 : Int) else X.turn) = (if pOldLeft (X.keys.set j { P with text := ⟨#[]⟩ }) X.write then X.turn else 0) := by
        rw [e, b1]
        cases pOldLeft (X.keys.set j { P with text := ⟨#[]⟩ }) ((jm : Int) + 1) <;> rfl
      rw [ht2]
      exact p_kept (fun w F b hX _ _ => pDestroy_yes w j P hX hP (j6 j P hP) (by omega) hg (by
        rw [Bool.or_eq_false_iff]
        exact ⟨by rw [beq_eq_false_iff_ne]; exact hw, by rw [ht]; rfl⟩))
  migrate := fun n X Y m hn h => migrate_two hn h m
end Go.Proofs.YtggbjffmclpmgaaGreatDoor
