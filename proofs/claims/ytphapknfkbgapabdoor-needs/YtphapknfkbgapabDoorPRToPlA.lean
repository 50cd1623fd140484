import Derived.Test.YtphapknfkbgapabDoorPQToTelK
import Derived.Test.YtphapknfkbgapabDoorPPToTelJ
namespace Go.Proofs.YtphapknfkbgapabDoor
open Go.RowKit

variable {F : Nat → Prop} {b : Nat} {X : PS}

/-! Stage. -/
def PS.stageP (X : PS) (t : ByteArray) : PS := { X with epoch := X.epoch + 1, keys := X.keys ++ [⟨t, X.epoch + 1, 0⟩], turn := 1 }
theorem pStage_arg (w : World) (t : ByteArray) (ht : (t.size == 48) = false) :
    Calls Tryd.prog 60 #[.pointer (some ⟨b, 0, none⟩), .string t] w fun e w' => e = .returned (.tuple #[.int .i64 0, .int .i64 2]) ∧ w' = w := by
  have HT := hid ht
  clear ht
  go_enter Tryd.func60, Tryd.ntmps60
  go_wp2_with (go_at_call 31; refine (isKey_any _ _).mono ?_; rw [HT.out]; rintro e y1 ⟨rfl, hy⟩; obtain rfl := hy.symm)
  go_ret2
  exact ⟨rfl, rfl⟩
theorem pStage_many (w : World) (t : ByteArray) (h : XIn w F b X) (ht : (t.size == 48) = true) (hk : X.keys.length = 6) :
    Calls Tryd.prog 60 #[.pointer (some ⟨b, 0, none⟩), .string t] w fun e w' => e = .returned (.tuple #[.int .i64 0, .int .i64 16]) ∧ w' = w := by
  obtain ⟨a, cap, c7, _⟩ := xin_rowK h
  have HT := hid ht
  have q1 : decide ((6 : Int) ≤ (X.keys.length : Int)) = true := by simp; omega
  clear ht h hk
  go_enter Tryd.func60, Tryd.ntmps60
  go_wp2_with (go_at_call 31; refine (isKey_any _ _).mono ?_; rw [HT.out]; rintro e y1 ⟨rfl, hy⟩; obtain rfl := hy.symm)
  go_ret2
  exact ⟨rfl, rfl⟩
theorem pStage_turn (w : World) (t : ByteArray) (h : XIn w F b X) (ht : (t.size == 48) = true) (hk : X.keys.length < 6) (hu : (X.turn != 0) = true) :
    Calls Tryd.prog 60 #[.pointer (some ⟨b, 0, none⟩), .string t] w fun e w' => e = .returned (.tuple #[.int .i64 0, .int .i64 17]) ∧ w' = w := by
  obtain ⟨a, cap, c7, _⟩ := xin_rowK h
  have c4 := xin_turn h
  have HT := hid ht
  have q1 : decide ((6 : Int) ≤ (X.keys.length : Int)) = false := by simp; omega
  clear ht h hk
  go_enter Tryd.func60, Tryd.ntmps60
  go_wp2_with (go_at_call 31; refine (isKey_any _ _).mono ?_; rw [HT.out]; rintro e y1 ⟨rfl, hy⟩; obtain rfl := hy.symm)
  go_ret2
  exact ⟨rfl, rfl⟩
set_option maxRecDepth 100000 in
set_option maxHeartbeats 1000000 in
theorem pStage_yes (w : World) (t : ByteArray) (h : XIn w F b X) (ht : (t.size == 48) = true) (hk : X.keys.length < 6) (hu : (X.turn != 0) = false) (he : 0 ≤ X.epoch ∧ X.epoch ≤ 1000000) :
    Calls Tryd.prog 60 #[.pointer (some ⟨b, 0, none⟩), .string t] w fun e w' => e = .returned (.tuple #[.int .i64 ((X.keys.length : Int) + 1), .int .i64 0]) ∧ XIn w' (grow F w w') b (X.stageP t) ∧ Kept F w w' := by
  obtain ⟨a, cap, c7, _⟩ := xin_rowK h
  have c4 := xin_turn h
  have c2 := xin_epoch h
  have f2 := h.frozen 2
  have r1 := xin_set_epoch h (X.epoch + 1)
  have d4 := xin_turn r1
  have f4 := r1.frozen 4
  have lb := h.lt
  have r2 := xin_set_turn r1 1
  have k1 := xset_kept h 2 (.int .i64 (X.epoch + 1))
  have k2 := xset_kept r1 4 (.int .i64 1)
  have R2 := hid r2
  have K2 : Hid (Kept F w ((w.setCell ⟨b, 2, none⟩ (.int .i64 (X.epoch + 1))).setCell ⟨b, 4, none⟩ (.int .i64 1))) := k1.trans k2 (fun _ f => f) (fun _ _ f => f)
  have HT := hid ht
  have HK := hid hk
  have q1 : decide ((6 : Int) ≤ (X.keys.length : Int)) = false := by simp; omega
  obtain ⟨he0, he1⟩ := he
  clear ht h hk r1 r2 k1 k2
  go_enter Tryd.func60, Tryd.ntmps60
  go_upto_region 9 with (go_at_call 31; refine (isKey_any _ _).mono ?_; rw [HT.out]; rintro e y1 ⟨rfl, hy⟩; obtain rfl := hy.symm)
  go_name_world W hW
  have RW : Hid (XIn W F b { X with epoch := X.epoch + 1, turn := 1 }) := by
    show XIn W F b _
    rw [← hW]; exact R2.out
  have KW : Hid (Kept F w W) := by
    show Kept F w W
    rw [← hW]; exact K2.out
  clear hW R2 K2 c7 c4 c2 f2 d4 f4
  go_wp2_with (go_at_call 81; refine (come_any (X := { X with epoch := X.epoch + 1, turn := 1 }) _ t RW.out HK.out).mono ?_; rintro e y2 ⟨rfl, r3, k3⟩; have R3 := hid r3; have K3 := hid k3; clear r3 k3)
  go_ret2
  have s1 := KW.out.size
  refine ⟨rfl, ?_, KW.out.trans K3.out (fun _ f => f) (fun _ _ f => f)⟩
  exact XIn.more R3.out (fun k hk => hk.elim Or.inl (fun hk => Or.inr ⟨by omega, hk.2⟩)) (fun k hk => hk.elim (fun hk => XIn.below R3.out k (Or.inl hk)) (fun hk => hk.2))
/-! Promote. -/
def PS.promoteP (X : PS) (m : Nat) (P : PKey) : PS := { X with epoch := X.epoch + 1, keys := X.keys.set m { P with wrote := X.epoch + 1 }, write := (m : Int) + 1, turn := 2 }
theorem pPromote_turn (w : World) (h : XIn w F b X) (hu : (X.turn != 1) = true) :
    Calls Tryd.prog 42 #[.pointer (some ⟨b, 0, none⟩)] w fun e w' => e = .returned (.int .i64 17) ∧ w' = w := by
  have c4 := xin_turn h
  clear h
  go_enter Tryd.func42, Tryd.ntmps42
  go_wp2
  go_ret
  exact ⟨rfl, rfl⟩
theorem pPromote_wait (w : World) (h : XIn w F b X) (hu : (X.turn != 1) = false) (hs : X.servers.length ≤ 4) (hp : pSeen X = false) :
    Calls Tryd.prog 42 #[.pointer (some ⟨b, 0, none⟩)] w fun e w' => e = .returned (.int .i64 18) ∧ Low w.heap.size w w' := by
  have c4 := xin_turn h
  have HR := hid h
  have HP := hid hp
  clear h hp
  go_enter Tryd.func42, Tryd.ntmps42
  go_wp2_with (go_at_call 61; refine (allHaveSeen_any _ HR.out hs).mono ?_; rw [HP.out]; rintro e y1 ⟨rfl, l1⟩; have L1 := hid l1; clear l1)
  go_ret
  exact ⟨rfl, L1.out⟩
set_option maxRecDepth 100000 in
set_option maxHeartbeats 1000000 in
theorem pPromote_yes (w : World) (m : Nat) (P : PKey) (h : XIn w F b X) (hu : (X.turn != 1) = false) (hs : X.servers.length ≤ 4) (hp : pSeen X = true) (hm : X.keys.length = m + 1) (hm6 : m ≤ 6) (hP : X.keys[m]? = some P) (he : 0 ≤ X.epoch ∧ X.epoch ≤ 1000000) :
    Calls Tryd.prog 42 #[.pointer (some ⟨b, 0, none⟩)] w fun e w' => e = .returned (.int .i64 0) ∧ XIn w' F b (X.promoteP m P) ∧ Kept F w w' := by
  have c4 := xin_turn h
  have HR := hid h
  have HP := hid hp
  have HM := hid hm
  have HPP := hid hP
  obtain ⟨he0, he1⟩ := he
  clear h hp hm hP
  go_enter Tryd.func42, Tryd.ntmps42
  go_upto_region 5 with (go_at_call 61; refine (allHaveSeen_any _ HR.out hs).mono ?_; rw [HP.out]; rintro e y1 ⟨rfl, l1⟩; have L1 := hid l1; clear l1)
  have h1 := HR.out.low L1.out
  have c2 := xin_epoch h1
  have f2 := h1.frozen 2
  have r1 := xin_set_epoch h1 (X.epoch + 1)
  have d4 := xin_turn r1
  have f4 := r1.frozen 4
  have lb := h1.lt
  have r2 := xin_set_turn r1 2
  have k1 := xset_kept h1 2 (.int .i64 (X.epoch + 1))
  have k2 := xset_kept r1 4 (.int .i64 2)
  have R2 := hid r2
  have K2 : Hid (Kept F w ((y1.setCell ⟨b, 2, none⟩ (.int .i64 (X.epoch + 1))).setCell ⟨b, 4, none⟩ (.int .i64 2))) := (L1.out.kept.trans k1 (H := F) (fun _ f => f.elim) (fun _ _ f => f)).trans k2 (fun _ f => f) (fun _ _ f => f)
  clear c4 h1 r1 r2 k1 k2
  go_upto_region 7 with fail
  go_name_world W hW
  have RW : Hid (XIn W F b { X with epoch := X.epoch + 1, turn := 2 }) := by
    show XIn W F b _
    rw [← hW]; exact R2.out
  have KW : Hid (Kept F w W) := by
    show Kept F w W
    rw [← hW]; exact K2.out
  clear hW R2 K2 c2 f2 d4 f4
  go_wp2_with (go_at_call 62; refine (takeOver_any (X := { X with epoch := X.epoch + 1, turn := 2 }) _ m P RW.out HM.out hm6 HPP.out).mono ?_; rintro e y2 ⟨rfl, r3, k3⟩; have R3 := hid r3; have K3 := hid k3; clear r3 k3)
  go_ret
  exact ⟨rfl, R3.out, KW.out.trans K3.out (fun _ f => f) (fun _ _ f => f)⟩
/-! Gate. -/
def PS.setTurnP (X : PS) (t : Int) : PS := { X with turn := t }
theorem pGate_turn (w : World) (h : XIn w F b X) (hg : pProm X = false) :
    Calls Tryd.prog 44 #[.pointer (some ⟨b, 0, none⟩)] w fun e w' => e = .returned (.int .i64 17) ∧ w' = w := by
  have HR := hid h
  have HG := hid hg
  clear h hg
  go_enter Tryd.func44, Tryd.ntmps44
  go_wp2_with (go_at_call 64; refine (isPromoted_any _ HR.out).mono ?_; rw [HG.out]; rintro e y1 ⟨rfl, hy⟩; obtain rfl := hy.symm)
  go_ret
  exact ⟨rfl, rfl⟩
theorem pany_snoc {α : Type} (l : List α) (i : Nat) (x : α) (p : α → Bool) (h : l[i]? = some x) : (l.take (i + 1)).any p = ((l.take i).any p || p x) := by
  rw [take_snoc h, List.any_append]; simp
set_option maxRecDepth 100000 in
set_option maxHeartbeats 1000000 in
theorem pGate_any (w : World) (h : XIn w F b X) (hg : pProm X = true) (hn : X.entries.length ≤ 1000) :
    Calls Tryd.prog 44 #[.pointer (some ⟨b, 0, none⟩)] w fun e w' => (X.entries.any (pOld X) = true ∧ e = .returned (.int .i64 19) ∧ Low w.heap.size w w') ∨ (X.entries.any (pOld X) = false ∧ e = .returned (.int .i64 0) ∧ XIn w' F b (X.setTurnP 3) ∧ Kept F w w') := by
  have HR := hid h
  have HG := hid hg
  clear h hg
  go_enter Tryd.func44, Tryd.ntmps44
  go_wp2_with (go_at_call 64; refine (isPromoted_any _ HR.out).mono ?_; rw [HG.out]; rintro e y1 ⟨rfl, hy⟩; obtain rfl := hy.symm)
  go_loopg [3] X.entries.length (fun left iv wr => ∃ i : Nat, left = X.entries.length - i ∧ i ≤ X.entries.length ∧ iv = .int .i64 (i : Int) ∧ Hid ((X.entries.take i).any (pOld X) = false) ∧ Hid (Low w.heap.size w wr))
  case atStart => exact ⟨0, rfl, Nat.zero_le _, rfl, by show _ = _; simp, Low.refl _ _⟩
  case round =>
    obtain ⟨i, hgk, hi, rfl, HI, HL⟩ := hrel
    have HGK := hid hgk
    have R1 : Hid (XIn wr F b X) := HR.out.low HL.out
    clear hgk
    have lb := R1.out.lt
    by_cases h3 : i < X.entries.length
    · have q1 : decide ((i : Int) < (X.entries.length : Int)) = true := by simp; omega
      have il : (i : Int) < (X.entries.length : Int) := by omega
      obtain ⟨x, hx⟩ : ∃ x, X.entries[i]? = some x := ⟨_, List.getElem?_eq_getElem h3⟩
      obtain ⟨a, cap, hc, hel⟩ := xin_entries R1.out
      rw [List.length_map] at hc
      obtain ⟨g, rfl, hg, hcs, _⟩ := hel i x.cells (by rw [List.getElem?_map, hx]; rfl)
      have HC : Hid (wr.rangeAt g (i * 6) x.cells) := range_of hcs (fun _ _ e => ⟨(List.getElem?_eq_some_iff.1 e).1, e⟩)
      have HX := hid hx
      obtain ⟨o, ho⟩ : ∃ o, o = pOld X x := ⟨_, rfl⟩
      have HO := hid ho
      clear hx hcs hel ho
      cases qx : o
      · go_wp2_with (first | ((with_reducible refine ld50 (.tmp 22) g (i * 6) x ?_ HC.out ?_); rfl) | (go_at_call 65; refine (isOld_any _ x R1.out).mono ?_; rw [← HO.out, qx]; rintro e y2 ⟨rfl, l2⟩; have L2 : Hid (Low w.heap.size w y2) := HL.out.trans (l2.mono HL.out.size); clear l2))
        go_roundg (X.entries.length - (i + 1))
        case rel => exact ⟨i + 1, rfl, by omega, by simp, by show _ = _; rw [pany_snoc _ i _ _ HX.out, HI.out, ← HO.out, qx]; rfl, L2.out⟩
        case measure => have := HGK.out; omega
      · go_wp2_with (first | ((with_reducible refine ld50 (.tmp 22) g (i * 6) x ?_ HC.out ?_); rfl) | (go_at_call 65; refine (isOld_any _ x R1.out).mono ?_; rw [← HO.out, qx]; rintro e y2 ⟨rfl, l2⟩; have L2 : Hid (Low w.heap.size w y2) := HL.out.trans (l2.mono HL.out.size); clear l2))
        go_ret
        exact Or.inl ⟨List.any_eq_true.2 ⟨x, List.mem_of_getElem? HX.out, by rw [← HO.out, qx]⟩, rfl, L2.out⟩
    · have q1 : decide ((i : Int) < (X.entries.length : Int)) = false := by simp; omega
      obtain ⟨a, cap, hc, _⟩ := xin_entries R1.out
      rw [List.length_map] at hc
      have hu : Hid (X.entries.any (pOld X) = false) := by
        show _ = false
        have := HI.out
        rwa [List.take_of_length_le (by omega)] at this
      have c4 := xin_turn R1.out
      have f4 := R1.out.frozen 4
      go_wp2_with fail
      go_ret
      refine Or.inr ⟨hu.out, rfl, xin_set_turn R1.out 3, ?_⟩
      exact HL.out.kept.trans (xset_kept R1.out 4 _) (fun _ f => f.elim) (fun _ _ f => f)
end Go.Proofs.YtphapknfkbgapabDoor
namespace Go.Proofs.YtphapknfkbgapabDoor
open Go.RowKit

variable {F : Nat → Prop} {b : Nat} {X : PS}

/-! Destroy. -/
def pOther (m : Int) (k : PKey × Nat) : Bool := ((k.2 : Int) + 1 != m) && !keyGone k.1
def pOldLeft (ks : List PKey) (m : Int) : Bool := ks.zipIdx.any (pOther m)
theorem pOldLeft_yes {ks : List PKey} {m : Int} {i : Nat} {k : PKey} (h : ks[i]? = some k) (hp : pOther m (k, i) = true) : pOldLeft ks m = true := List.any_eq_true.2 ⟨(k, i), List.mem_zipIdx_iff_getElem?.2 h, hp⟩
theorem pOldLeft_no {ks : List PKey} {m : Int} (h : ∀ (i : Nat) (k : PKey), ks[i]? = some k → pOther m (k, i) = false) : pOldLeft ks m = false := by
  unfold pOldLeft
  rw [List.any_eq_false]
  rintro ⟨k, i⟩ hk
  rw [h i k (List.mem_zipIdx_iff_getElem?.1 hk)]
  simp
theorem pOldLeft_false {ks : List PKey} {m : Int} (h : pOldLeft ks m = false) {i : Nat} {k : PKey} (hk : ks[i]? = some k) : pOther m (k, i) = false := by
  unfold pOldLeft at h
  have := List.any_eq_false.1 h (k, i) (List.mem_zipIdx_iff_getElem?.2 hk)
  simpa using this
set_option maxRecDepth 100000 in
set_option maxHeartbeats 1000000 in
theorem oldKeyLeft_any (w : World) (h : XIn w F b X) (hk : X.keys.length ≤ 6) :
    Calls Tryd.prog 67 #[.pointer (some ⟨b, 0, none⟩)] w fun e w' => e = .returned (.bool (pOldLeft X.keys X.write)) ∧ Low w.heap.size w w' := by
  have HR := hid h
  clear h
  go_enter Tryd.func67, Tryd.ntmps67
  go_wp2_with fail
  go_loopg [3] X.keys.length (fun left iv wr => ∃ i : Nat, left = X.keys.length - i ∧ i ≤ X.keys.length ∧ iv = .int .i64 (i : Int) ∧ Hid (∀ (j : Nat) (k : PKey), j < i → X.keys[j]? = some k → pOther X.write (k, j) = false) ∧ Hid (Low w.heap.size w wr))
  case atStart => exact ⟨0, rfl, Nat.zero_le _, rfl, (fun j k hj => by omega), Low.refl _ _⟩
  case round =>
    obtain ⟨i, hgk, hi, rfl, HI, HL⟩ := hrel
    have HGK := hid hgk
    have R1 : Hid (XIn wr F b X) := HR.out.low HL.out
    clear hgk
    have lb := R1.out.lt
    by_cases h3 : i < X.keys.length
    · have q1 : decide ((i : Int) < (X.keys.length : Int)) = true := by simp; omega
      have il : (i : Int) < (X.keys.length : Int) := by omega
      obtain ⟨x, hx⟩ : ∃ x, X.keys[i]? = some x := ⟨_, List.getElem?_eq_getElem h3⟩
      obtain ⟨g, cap, hc, hg, hcs, _⟩ := xin_keyFull R1.out hx
      have k0 : wr.cell? ⟨g, i * 3, none⟩ = some (.string x.text) := hcs 0 (by omega)
      have k1 : wr.cell? ⟨g, i * 3 + 1, none⟩ = some (.int .i64 x.came) := hcs 1 (by omega)
      have k2 : wr.cell? ⟨g, i * 3 + 2, none⟩ = some (.int .i64 x.wrote) := hcs 2 (by omega)
      have c3 := xin_write R1.out
      have HX := hid hx
      obtain ⟨m, hm⟩ : ∃ m, m = X.write := ⟨_, rfl⟩
      rw [← hm] at c3
      have HM := hid hm
      obtain ⟨o, ho⟩ : ∃ o, o = keyGone x := ⟨_, rfl⟩
      have HO := hid ho
      clear hx hcs ho hm
      cases qm : ((i : Int) + 1 != m)
      · go_wp2_with fail
        go_roundg (X.keys.length - (i + 1))
        case rel =>
          refine ⟨i + 1, rfl, by omega, by simp, (fun j k hj hjk => ?_), HL.out⟩
          by_cases e : j = i
          · subst e
            unfold pOther
            rw [← HM.out, qm]; rfl
          · exact HI.out j k (by omega) hjk
        case measure => have := HGK.out; omega
      · cases qx : o
        · go_wp2_with (go_at_call 66; refine (destroyed_any _ x).mono ?_; rw [← HO.out, qx]; rintro e y2 ⟨rfl, l2⟩; have L2 : Hid (Low w.heap.size w y2) := HL.out.trans (l2.mono HL.out.size); clear l2)
          go_ret
          exact ⟨by rw [pOldLeft_yes HX.out (by unfold pOther; rw [← HM.out, ← HO.out, qm, qx]; rfl)]; rfl, L2.out⟩
        · go_wp2_with (go_at_call 66; refine (destroyed_any _ x).mono ?_; rw [← HO.out, qx]; rintro e y2 ⟨rfl, l2⟩; have L2 : Hid (Low w.heap.size w y2) := HL.out.trans (l2.mono HL.out.size); clear l2)
          go_roundg (X.keys.length - (i + 1))
          case rel =>
            refine ⟨i + 1, rfl, by omega, by simp, (fun j k hj hjk => ?_), L2.out⟩
            by_cases e : j = i
            · subst e
              obtain rfl := Option.some.inj (HX.out.symm.trans hjk)
              unfold pOther
              rw [← HM.out, ← HO.out, qm, qx]; rfl
            · exact HI.out j k (by omega) hjk
          case measure => have := HGK.out; omega
    · have q1 : decide ((i : Int) < (X.keys.length : Int)) = false := by simp; omega
      obtain ⟨a, cap, c7, _⟩ := xin_rowK R1.out
      go_wp2_with fail
      go_ret
      refine ⟨?_, HL.out⟩
      rw [pOldLeft_no (fun j k hjk => HI.out j k (by have := (List.getElem?_eq_some_iff.1 hjk).1; omega) hjk)]
      rfl
theorem pDestroy_none (w : World) (k : Int) (h : XIn w F b X) (hk : k < 1 ∨ (X.keys.length : Int) < k) :
    Calls Tryd.prog 45 #[.pointer (some ⟨b, 0, none⟩), .int .i64 k] w fun e w' => e = .returned (.int .i64 12) ∧ w' = w := by
  obtain ⟨a, cap, c7, _⟩ := xin_rowK h
  clear h
  cases q : decide (k < 1)
  · have q2 : decide ((X.keys.length : Int) < k) = true := by simp at q; simp; omega
    clear hk
    go_enter Tryd.func45, Tryd.ntmps45
    go_wp2
    go_ret
    exact ⟨rfl, rfl⟩
  · clear hk
    go_enter Tryd.func45, Tryd.ntmps45
    go_wp2
    go_ret
    exact ⟨rfl, rfl⟩
set_option maxRecDepth 100000 in
theorem pDestroy_gone (w : World) (j : Nat) (P : PKey) (h : XIn w F b X) (hP : X.keys[j]? = some P) (hj : j ≤ 6) (hg : keyGone P = true) :
    Calls Tryd.prog 45 #[.pointer (some ⟨b, 0, none⟩), .int .i64 ((j : Int) + 1)] w fun e w' => e = .returned (.int .i64 14) ∧ Low w.heap.size w w' := by
  obtain ⟨g, cap, hc, hg1, hcs, hf⟩ := xin_keyFull h hP
  have hl : j < X.keys.length := (List.getElem?_eq_some_iff.1 hP).1
  have HC : Hid (w.rangeAt g (j * 3) P.cells) := range_of hcs (fun _ _ e => ⟨(List.getElem?_eq_some_iff.1 e).1, e⟩)
  have q1 : decide ((j : Int) + 1 < 1) = false := by simp; omega
  have q2 : decide ((X.keys.length : Int) < (j : Int) + 1) = false := by simp; omega
  have jl : (j : Int) < (X.keys.length : Int) := by omega
  have hz : (j : Int) + 1 - 1 = (j : Int) := by omega
  have HG := hid hg
  clear h hP hl hg hcs hf
  go_enter Tryd.func45, Tryd.ntmps45
  go_wp2_with (first | ((with_reducible refine ld56 (.tmp 22) g (j * 3) P ?_ HC.out ?_); rfl) | (go_at_call 66; refine (destroyed_any _ P).mono ?_; rw [HG.out]; rintro e y2 ⟨rfl, l2⟩; have L2 := hid l2; clear l2))
  go_ret
  exact ⟨rfl, L2.out⟩
set_option maxRecDepth 100000 in
theorem pDestroy_gate (w : World) (j : Nat) (P : PKey) (h : XIn w F b X) (hP : X.keys[j]? = some P) (hj : j ≤ 6) (hg : keyGone P = false) (hb : (((j : Int) + 1 == X.write) || (X.turn != 3)) = true) :
    Calls Tryd.prog 45 #[.pointer (some ⟨b, 0, none⟩), .int .i64 ((j : Int) + 1)] w fun e w' => e = .returned (.int .i64 20) ∧ Low w.heap.size w w' := by
  obtain ⟨g, cap, hc, hg1, hcs, hf⟩ := xin_keyFull h hP
  have hl : j < X.keys.length := (List.getElem?_eq_some_iff.1 hP).1
  have HC : Hid (w.rangeAt g (j * 3) P.cells) := range_of hcs (fun _ _ e => ⟨(List.getElem?_eq_some_iff.1 e).1, e⟩)
  have q1 : decide ((j : Int) + 1 < 1) = false := by simp; omega
  have q2 : decide ((X.keys.length : Int) < (j : Int) + 1) = false := by simp; omega
  have jl : (j : Int) < (X.keys.length : Int) := by omega
  have hz : (j : Int) + 1 - 1 = (j : Int) := by omega
  have HG := hid hg
  have HR := hid h
  clear h hP hl hg hcs hf
  cases q3 : ((j : Int) + 1 == X.write)
  · have q4 : (X.turn != 3) = true := by rw [q3, Bool.false_or] at hb; exact hb
    clear hb
    go_enter Tryd.func45, Tryd.ntmps45
    go_wp2_with (first | ((with_reducible refine ld56 (.tmp 22) g (j * 3) P ?_ HC.out ?_); rfl) | (go_at_call 66; refine (destroyed_any _ P).mono ?_; rw [HG.out]; rintro e y2 ⟨rfl, l2⟩; have L2 := hid l2; have c3 := xin_write (HR.out.low l2); have c4 := xin_turn (HR.out.low l2); clear l2))
    go_ret
    exact ⟨rfl, L2.out⟩
  · clear hb
    go_enter Tryd.func45, Tryd.ntmps45
    go_wp2_with (first | ((with_reducible refine ld56 (.tmp 22) g (j * 3) P ?_ HC.out ?_); rfl) | (go_at_call 66; refine (destroyed_any _ P).mono ?_; rw [HG.out]; rintro e y2 ⟨rfl, l2⟩; have L2 := hid l2; have c3 := xin_write (HR.out.low l2); have c4 := xin_turn (HR.out.low l2); clear l2))
    go_ret
    exact ⟨rfl, L2.out⟩
def PS.destroyP (X : PS) (j : Nat) (P : PKey) (t : Int) : PS := { X with keys := X.keys.set j { P with text := ⟨#[]⟩ }, turn := t }
set_option maxRecDepth 100000 in
set_option maxHeartbeats 1000000 in
theorem pDestroy_yes (w : World) (j : Nat) (P : PKey) (h : XIn w F b X) (hP : X.keys[j]? = some P) (hj : j ≤ 6) (hk6 : X.keys.length ≤ 6) (hg : keyGone P = false) (hb : (((j : Int) + 1 == X.write) || (X.turn != 3)) = false) :
    Calls Tryd.prog 45 #[.pointer (some ⟨b, 0, none⟩), .int .i64 ((j : Int) + 1)] w fun e w' => e = .returned (.int .i64 0) ∧ XIn w' F b (X.destroyP j P (if pOldLeft (X.keys.set j { P with text := ⟨#[]⟩ }) X.write then X.turn else 0)) ∧ Kept F w w' := by
  obtain ⟨g, cap, hc, hg1, hcs, hf⟩ := xin_keyFull h hP
  have hl : j < X.keys.length := (List.getElem?_eq_some_iff.1 hP).1
  have HC : Hid (w.rangeAt g (j * 3) P.cells) := range_of hcs (fun _ _ e => ⟨(List.getElem?_eq_some_iff.1 e).1, e⟩)
  have q1 : decide ((j : Int) + 1 < 1) = false := by simp; omega
  have q2 : decide ((X.keys.length : Int) < (j : Int) + 1) = false := by simp; omega
  have jl : (j : Int) < (X.keys.length : Int) := by omega
  have hz : (j : Int) + 1 - 1 = (j : Int) := by omega
  have HG := hid hg
  have HR := hid h
  have HP := hid hP
  have HCC := hid hc
  rw [Bool.or_eq_false_iff] at hb
  obtain ⟨q3, q4⟩ := hb
  obtain ⟨ks, hks⟩ : ∃ ks, ks = X.keys.set j { P with text := ⟨#[]⟩ } := ⟨_, rfl⟩
  have HKS := hid hks
  have HL6 : Hid (ks.length ≤ 6) := by show _ ≤ _; rw [hks]; simpa using hk6
  obtain ⟨lf, hlf⟩ : ∃ lf, lf = pOldLeft ks X.write := ⟨_, rfl⟩
  have HLF := hid hlf
  rw [← hks, ← hlf]
  clear h hP hl hg hcs hf hks hlf
  go_enter Tryd.func45, Tryd.ntmps45
  go_upto_region 7 with (first | ((with_reducible refine ld56 (.tmp 22) g (j * 3) P ?_ HC.out ?_); rfl) | (go_at_call 66; refine (destroyed_any _ P).mono ?_; rw [HG.out]; rintro e y2 ⟨rfl, l2⟩; have L2 := hid l2; have R2 := hid (HR.out.low l2); have c3 := xin_write R2.out; have c4 := xin_turn R2.out; clear l2))
  clear hc c3 c4 hg1
  obtain ⟨g2, cap2, hc, hg1, hcs, hf⟩ := xin_keyFull R2.out HP.out
  obtain ⟨r1, k1⟩ := xin_setText R2.out hc j P HP.out ⟨#[]⟩
  have e0 : y2.cell? ⟨g2, j * 3, none⟩ = some (.string P.text) := hcs 0 (by omega)
  have f0 := hf (j * 3)
  have lb := R2.out.lt
  have R1 := hid r1
  have K1 := hid k1
  clear hcs hf r1 k1
  go_upto_region 8 with fail
  go_name_world W hW
  have RW : Hid (XIn W F b { X with keys := ks }) := by
    show XIn W F b _
    rw [← hW, HKS.out]; exact R1.out
  have KW : Hid (Kept F w W) := by
    show Kept F w W
    rw [← hW]; exact L2.out.kept.trans K1.out (fun _ f => f.elim) (fun _ _ f => f)
  clear hW R1 K1 hc e0 f0 hg1
  cases ql : lf
  · go_upto_region 9 with (go_at_call 67; refine (oldKeyLeft_any (X := { X with keys := ks }) _ RW.out HL6.out).mono ?_; rw [show pOldLeft ({ X with keys := ks } : PS).keys ({ X with keys := ks } : PS).write = false from (HLF.out.symm.trans ql)]; rintro e y3 ⟨rfl, l3⟩; have L3 := hid l3; have R3 := hid (RW.out.low l3); clear l3)
    have c4 := xin_turn R3.out
    have f4 := R3.out.frozen 4
    have lb3 := R3.out.lt
    go_wp2_with fail
    go_ret
    refine ⟨rfl, ?_, ?_⟩
    · have := xin_set_turn R3.out 0
      unfold PS.destroyP
      rw [← HKS.out]
      exact this
    · exact (KW.out.trans L3.out.kept (H := F) (fun _ f => f) (fun _ _ f => f.elim)).trans (xset_kept R3.out 4 _) (fun _ f => f) (fun _ _ f => f)
  · go_wp2_with (go_at_call 67; refine (oldKeyLeft_any (X := { X with keys := ks }) _ RW.out HL6.out).mono ?_; rw [show pOldLeft ({ X with keys := ks } : PS).keys ({ X with keys := ks } : PS).write = true from (HLF.out.symm.trans ql)]; rintro e y3 ⟨rfl, l3⟩; have L3 := hid l3; have R3 := hid (RW.out.low l3); clear l3)
    go_ret
    refine ⟨rfl, ?_, KW.out.trans L3.out.kept (fun _ f => f) (fun _ _ f => f.elim)⟩
    unfold PS.destroyP
    rw [← HKS.out]
    exact R3.out
end Go.Proofs.YtphapknfkbgapabDoor
namespace Go.Proofs.YtphapknfkbgapabDoor
open Go.RowKit

/-! What Turns asks of the program. -/

variable {X : PS} {Y : RS} {n : Nat}
theorem left_one {ks : List PKey} {j : Nat} {k : PKey} (hk : ks[j]? = some k) (hg : keyGone k = false) : (pLeft ks == 1) = !pOldLeft ks ((j : Int) + 1) := by
  obtain ⟨hjl, hje⟩ := List.getElem?_eq_some_iff.1 hk
  have hsp : ks = ks.take j ++ k :: ks.drop (j + 1) := by
    conv => lhs; rw [← List.take_append_drop j ks, List.drop_eq_getElem_cons hjl, hje]
  have hct : pLeft ks = (ks.take j).countP (fun k => !keyGone k) + ((ks.drop (j + 1)).countP (fun k => !keyGone k) + 1) := by
    unfold pLeft
    conv => lhs; rw [hsp]
    rw [List.countP_append, List.countP_cons]
    simp [hg]
  have at1 : ∀ (i : Nat) (a : PKey), (ks.take j)[i]? = some a → i < j ∧ ks[i]? = some a := fun i a h => by
    have h1 := (List.getElem?_eq_some_iff.1 h).1
    rw [List.length_take] at h1
    have h2 : i < j := by omega
    rw [List.getElem?_take_of_lt h2] at h
    exact ⟨h2, h⟩
  cases ho : pOldLeft ks ((j : Int) + 1)
  · have z1 : (ks.take j).countP (fun k => !keyGone k) = 0 := List.countP_eq_zero.2 (fun a ha => by
      obtain ⟨i, hi⟩ := List.getElem?_of_mem ha
      obtain ⟨h1, h2⟩ := at1 i a hi
      have := pOldLeft_false ho h2
      unfold pOther at this
      have hne : ((i : Int) + 1 != (j : Int) + 1) = true := by rw [bne_iff_ne]; omega
      rw [hne, Bool.true_and] at this
      simpa using this)
    have z2 : (ks.drop (j + 1)).countP (fun k => !keyGone k) = 0 := List.countP_eq_zero.2 (fun a ha => by
      obtain ⟨i, hi⟩ := List.getElem?_of_mem ha
      rw [List.getElem?_drop] at hi
      have := pOldLeft_false ho hi
      unfold pOther at this
      have hne : (((j + 1 + i : Nat) : Int) + 1 != (j : Int) + 1) = true := by rw [bne_iff_ne]; omega
      rw [hne, Bool.true_and] at this
      simpa using this)
    rw [hct, z1, z2]
    rfl
  · unfold pOldLeft at ho
    obtain ⟨⟨a, i⟩, hm, hp⟩ := List.any_eq_true.1 ho
    have hi := List.mem_zipIdx_iff_getElem?.1 hm
    have hi : ks[i]? = some a := hi
    unfold pOther at hp
    rw [Bool.and_eq_true] at hp
    obtain ⟨hp1, hp2⟩ := hp
    have hp1 : (i : Int) + 1 ≠ (j : Int) + 1 := by simpa using hp1
    have hp2 : (!keyGone a) = true := hp2
    have hpos : 0 < (ks.take j).countP (fun k => !keyGone k) ∨ 0 < (ks.drop (j + 1)).countP (fun k => !keyGone k) := by
      by_cases hlt : i < j
      · left
        refine List.countP_pos_iff.2 ⟨a, ?_, hp2⟩
        exact List.mem_of_getElem? (i := i) (by rw [List.getElem?_take_of_lt hlt]; exact hi)
      · right
        refine List.countP_pos_iff.2 ⟨a, ?_, hp2⟩
        exact List.mem_of_getElem? (i := i - (j + 1)) (by rw [List.getElem?_drop, show j + 1 + (i - (j + 1)) = i by omega]; exact hi)
    show (pLeft ks == 1) = false
    rw [beq_eq_false_iff_ne, hct]
    omega
theorem Rel2.ep12 (h : Rel2 n X Y) : 0 ≤ X.epoch ∧ X.epoch ≤ 1000000 := by
  have a := h.ep
  have c := h.keys.few.2
  rw [a.1]
  omega
theorem seen_all (hall : ∀ (i : Nat) (s : PSrv), X.servers[i]? = some s → s.seen = X.epoch) : pSeen X = true := by
  unfold pSeen
  rw [List.all_eq_true]
  intro s hs
  obtain ⟨i, hi⟩ := List.getElem?_of_mem hs
  rw [hall i s hi]
  simp
theorem seen_not (h : Rel2 n X Y) (hex : ∃ (i : Nat) (s : PSrv), X.servers[i]? = some s ∧ s.seen ≠ X.epoch) : pSeen X = false := by
  obtain ⟨i, s, hs, hne⟩ := hex
  unfold pSeen
  rw [List.all_eq_false]
  refine ⟨s, List.mem_of_getElem? hs, ?_⟩
  obtain ⟨sn, u, _, _, a⟩ := h.srv i s hs
  have := a.sn.2
  rw [← a.seen, ← h.ep.1] at this
  simp
  omega
/-- A step of Migrate keeps what it asks. -/
def GoodMove (X : PS) (n : Nat) (i : Nat) (Z : PS) : Prop := ∃ Y : RS, Rel2 (n + i) Z Y ∧ Z.keys = X.keys ∧ Z.write = X.write
theorem good_ok (hn : n ≤ 49000000000000) (i : Nat) (Z : PS) (hi : i ≤ 20) (h : GoodMove X n i Z) : MOk X Z := by
  obtain ⟨Y, h, hk, hw⟩ := h
  refine ⟨hk, hw, by have := h.few; have := h.rooms; omega, fun x hx hg => ?_, ?_, ?_, fun hf => ?_⟩
  · obtain ⟨j, P, e, _⟩ := h.ekey hx hg
    exact ⟨j, P, e⟩
  · have := h.draws
    rw [this.1]
    omega
  · have := h.all
    rw [h.rev]
    omega
  · obtain ⟨e, e2⟩ := first_due h
    have hfd : (dueOf Y).found = true := by rw [← e, bne_iff_ne]; exact hf
    obtain ⟨a1, a2⟩ := e2 hfd
    have hd := due_ok h.keysOk hfd
    rw [a1, a2]
    exact ⟨hd.name, hd.text⟩
theorem PUni.migrate (h : Rel2 n X Y) (hn : n ≤ 49000000000000) (N : Nat) (hN : N ≤ 20) (hg : pGoing X = true) {j : Nat} {p : PKey} {K : RKey} (hw : X.write = (j : Int) + 1) (hwy : writesOf Y.keys Y.epoch = (j : Int) + 1) (hp : X.keys[j]? = some p) (hK : Y.keys[j]? = some K) (ht : p.text = K.text) (hs : K.text.size = 48) :
    PUni 63 [.int .i64 (N : Int)] X (.tuple #[.int .i64 ((pMoves K.text ((j : Int) + 1) N X).2.1 : Int), .int .i64 (pMoves K.text ((j : Int) + 1) N X).2.2]) (pMoves K.text ((j : Int) + 1) N X).1 := by
  intro w F b hX hF h1
  have hj6 : j ≤ 6 := by have := (List.getElem?_eq_some_iff.1 hK).1; have := h.keys.few.2; omega
  have key := fun (F1 : Nat → Prop) (hX1 : XIn w F1 b X) (h0 : ¬ F1 0 ∨ ((pFirst X).e.rev != 0) = false) => pMigrate_any (F := F1) w N j p (fun i Z => i ≤ 20 ∧ GoodMove X n i Z) hX1 h0 hN hg hp hj6 (by rw [ht]; exact hs) hw hF h1 ⟨by omega, Y, h, rfl, rfl⟩ (fun i Z hZ => good_ok hn i Z hZ.1 hZ.2) (fun i Z hZ hi hf hu => by
    obtain ⟨hi20, Y', h', hk', hw'⟩ := hZ
    refine ⟨by omega, ?_⟩
    obtain ⟨e, _⟩ := first_due h'
    have hfd : (dueOf Y').found = true := by rw [← e]; exact hf
    obtain ⟨j2, p2, K2, b1, b2, b3, b4, b5, _, b7, _⟩ := h'.writer
    have hjj : j2 = j := by rw [hw', hw] at b1; omega
    subst hjj
    have hpp : p2 = p := by rw [hk'] at b3; exact Option.some.inj (b3.symm.trans hp)
    have htt : K2.text = p.text := by rw [← hpp]; exact (b5.text b7).symm
    have hr := rel_move h' (by omega) b2 b4 hfd (by rw [← pFull_same h']; exact hu)
    rw [← pmove_same h' K2 _ hfd, htt] at hr
    exact ⟨_, hr, hk', hw'⟩)
  by_cases he : X.entries.length = 0
  · have q := key F hX (Or.inr (by
      have : X.entries = [] := List.length_eq_zero_iff.1 he
      unfold pFirst
      rw [this]
      rfl))
    rw [ht] at q
    exact q
  · have q := key (fun k => F k ∧ k ≠ 0) (xin_apart0 hX hF (by rw [h.keys.len]; exact h.keys.few.1) (by rw [h.len.1]; exact h.len.2.2.2) (by omega)) (Or.inl (fun c => c.2 rfl))
    rw [ht] at q
    refine q.mono fun e w' c => ?_
    obtain ⟨c1, F', c2, c3, c4⟩ := c
    exact ⟨c1, F', c2, c3.mono (fun _ _ f => f.1), fun k hk => (c4 k hk).imp (fun f => f.1) id⟩
theorem pstage_holds (h : Rel2 n X Y) (t : ByteArray) : PStage X t :=
    ⟨fun h1 => p_same (fun w F b _ => pStage_arg w t (by simpa using h1)),
     fun h1 h2 => p_same (fun w F b hX => pStage_many w t hX (by simpa using h1) h2),
     fun h1 h2 h3 => p_same (fun w F b hX => pStage_turn w t hX (by simpa using h1) h2 (by rw [bne_iff_ne]; exact h3)),
     fun h1 h2 h3 => p_grow (fun w F b hX => pStage_yes w t hX (by simpa using h1) h2 (by rw [h3]; rfl) h.ep12)⟩
theorem ppromote_holds (h : Rel2 n X Y) : PPromote X :=
    ⟨fun h1 => p_same (fun w F b hX => pPromote_turn w hX (by rw [bne_iff_ne]; exact h1)),
     fun h1 hex => p_low (fun w F b hX _ _ => pPromote_wait w hX (by rw [h1]; rfl) (by rw [h.len.1]; exact h.len.2.2.1) (seen_not h hex)),
     fun h1 hall m P hm hP => p_kept (fun w F b hX _ _ => pPromote_yes w m P hX (by rw [h1]; rfl) (by rw [h.len.1]; exact h.len.2.2.1) (seen_all hall) hm (by have := h.keys.few.2; have := h.keys.len; omega) hP h.ep12)⟩
theorem pgate_holds (h : Rel2 n X Y) : PGate X :=
    ⟨fun h1 => p_same (fun w F b hX => pGate_turn w hX h1),
     fun h1 h2 => p_low (fun w F b hX _ _ => (pGate_any w hX h1 (by have := h.few; have := h.rooms; omega)).mono fun e w' q => by
       rcases q with ⟨_, q⟩ | ⟨q, _⟩
       · exact q
       · exact absurd (h2.symm.trans q) (by simp)),
     fun h1 h2 => p_kept (fun w F b hX _ _ => (pGate_any w hX h1 (by have := h.few; have := h.rooms; omega)).mono fun e w' q => by
       rcases q with ⟨q, _⟩ | ⟨_, q⟩
       · exact absurd (h2.symm.trans q) (by simp)
       · exact q)⟩
theorem pdestroy_holds (h : Rel2 n X Y) (k : Int) : PDestroy X k := by
  have hl := h.keys.len
  have hf := h.keys.few
  have j6 : ∀ (j : Nat) (P : PKey), X.keys[j]? = some P → j ≤ 6 := fun j P hP => by have := (List.getElem?_eq_some_iff.1 hP).1; omega
  refine ⟨fun h1 => p_same (fun w F b hX => pDestroy_none w k hX h1), fun j P hj hP hg => ?_, fun j P hj hP hg hb => ?_, fun j P hj hP hg hw ht => ?_⟩
  · subst hj
    exact p_low (fun w F b hX _ _ => pDestroy_gone w j P hX hP (j6 j P hP) hg)
  · subst hj
    exact p_low (fun w F b hX _ _ => pDestroy_gate w j P hX hP (j6 j P hP) hg (by
      rw [Bool.or_eq_true]
      rcases hb with q | q
      · left; rw [q]; simp
      · right; rw [bne_iff_ne]; exact q))
  · subst hj
    obtain ⟨jm, p, K, b1, b2, b3, b4, b5, _, b7, _⟩ := h.writer
    have hne : j ≠ jm := fun e => hw (by rw [b1, e])
    have hkm : (X.keys.set j { P with text := ⟨#[]⟩ })[jm]? = some p := by rw [List.getElem?_set_ne hne]; exact b3
    have hgp : keyGone p = false := b5.alive.trans b7
    have e := left_one hkm hgp
    have ht2 : (if pLeft (X.keys.set j { P with text := ⟨#[]⟩ }) == 1 then (0 : Int) else X.turn) = (if pOldLeft (X.keys.set j { P with text := ⟨#[]⟩ }) X.write then X.turn else 0) := by
      rw [e, b1]
      cases pOldLeft (X.keys.set j { P with text := ⟨#[]⟩ }) ((jm : Int) + 1) <;> rfl
    rw [ht2]
    exact p_kept (fun w F b hX _ _ => pDestroy_yes w j P hX hP (j6 j P hP) (by omega) hg (by
      rw [Bool.or_eq_false_iff]
      exact ⟨by rw [beq_eq_false_iff_ne]; exact hw, by rw [ht]; rfl⟩))
end Go.Proofs.YtphapknfkbgapabDoor
namespace Go.Proofs.YtphapknfkbgapabDoor
open Go.RowKit

/-! What a caller knows of a coffer (the player), against the document's coffer Y: plain data. -/

structure Dd where
  path : ByteArray
  text : ByteArray
  gone : Bool
def Dd.zero : Dd := ⟨⟨#[]⟩, ⟨#[]⟩, false⟩
/-- The newest deed of a path, and its revision (0: there is none). -/
def NewD (ds : List Dd) (p : ByteArray) (r : Nat) (d : Dd) : Prop :=
  (r = 0 ∧ d = Dd.zero ∧ ∀ (i : Nat) (c : Dd), ds[i]? = some c → c.path ≠ p) ∨
  (∃ i, r = i + 1 ∧ ds[i]? = some d ∧ d.path = p ∧ ∀ (k : Nat) (c : Dd), i < k → ds[k]? = some c → c.path ≠ p)
theorem newD_unique {ds : List Dd} {p : ByteArray} {r r' : Nat} {d d' : Dd} (h : NewD ds p r d) (h' : NewD ds p r' d') : r = r' ∧ d = d' := by
  rcases h with ⟨rfl, rfl, h⟩ | ⟨i, rfl, hi, hp, h⟩
  · rcases h' with ⟨rfl, rfl, _⟩ | ⟨j, rfl, hj, hq, _⟩
    · exact ⟨rfl, rfl⟩
    · exact absurd hq (h j d' hj)
  · rcases h' with ⟨rfl, rfl, h'⟩ | ⟨j, rfl, hj, hq, h'⟩
    · exact absurd hp (h' i d hi)
    · have e : i = j := by
        rcases Nat.lt_trichotomy i j with q | q | q
        · exact absurd hq (h j d' q hj)
        · exact q
        · exact absurd hp (h' i d q hi)
      subst e
      exact ⟨rfl, Option.some.inj (hi.symm.trans hj)⟩
theorem newD_ex (p : ByteArray) (ds : List Dd) : ∃ r d, NewD ds p r d := by
  refine snoc_ind (P := fun ds => ∃ r d, NewD ds p r d) ?_ ?_ ds
  · exact ⟨0, Dd.zero, Or.inl ⟨rfl, rfl, fun i c h => by simp at h⟩⟩
  · intro l x ih
    by_cases e : x.path = p
    · refine ⟨l.length + 1, x, Or.inr ⟨l.length, rfl, by simp, e, fun k c hk hc => ?_⟩⟩
      have := (List.getElem?_eq_some_iff.1 hc).1
      simp at this
      omega
    · obtain ⟨r, d, h⟩ := ih
      rcases h with ⟨rfl, rfl, h⟩ | ⟨i, rfl, hi, hp, h⟩
      · refine ⟨0, Dd.zero, Or.inl ⟨rfl, rfl, fun i c hc => ?_⟩⟩
        rcases snoc_at hc with hc | ⟨_, rfl⟩
        · exact h i c hc
        · exact e
      · refine ⟨i + 1, d, Or.inr ⟨i, rfl, by rw [List.getElem?_append_left (List.getElem?_eq_some_iff.1 hi).1]; exact hi, hp, fun k c hk hc => ?_⟩⟩
        rcases snoc_at hc with hc | ⟨_, rfl⟩
        · exact h k c hk hc
        · exact e
theorem path_beq {a c : ByteArray} : (a.toList == c.toList) = true ↔ a = c := by
  constructor
  · intro h
    exact toList_inj (by simpa using h)
  · rintro rfl
    simp
theorem path_bne {a c : ByteArray} (h : a ≠ c) : (a.toList == c.toList) = false := by
  cases q : (a.toList == c.toList)
  · rfl
  · exact absurd (path_beq.1 q) h
/-- What lastOf finds. -/
theorem lastOf_at {l : List RKept} {p : ByteArray} {i : Nat} {k : RKept} (hk : l[i]? = some k) (ho : k.out = false) (hp : k.e.path = p) (hl : ∀ (j : Nat) (q : RKept), i < j → l[j]? = some q → q.out = true ∨ q.e.path ≠ p) : lastOf l p = some k.e := by
  refine snoc_ind (P := fun l => ∀ i, l[i]? = some k → (∀ (j : Nat) (q : RKept), i < j → l[j]? = some q → q.out = true ∨ q.e.path ≠ p) → lastOf l p = some k.e) ?_ ?_ l i hk hl
  · intro i h
    simp at h
  · intro l x ih i hi hl
    rw [lastOf_snoc]
    rcases snoc_at hi with hi2 | ⟨_, rfl⟩
    · have hil := (List.getElem?_eq_some_iff.1 hi2).1
      have hx := hl l.length x hil (by simp)
      have hf : (!x.out && (x.e.path.toList == p.toList)) = false := by
        rcases hx with hx | hx
        · rw [hx]; rfl
        · rw [path_bne hx, Bool.and_false]
      rw [hf]
      refine ih i hi2 (fun j q hj hq => hl j q hj ?_)
      rw [List.getElem?_append_left (List.getElem?_eq_some_iff.1 hq).1]
      exact hq
    · rw [ho, hp]
      simp
theorem lastOf_no {l : List RKept} {p : ByteArray} (hl : ∀ (j : Nat) (q : RKept), l[j]? = some q → q.out = true ∨ q.e.path ≠ p) : lastOf l p = none := by
  cases h : lastOf l p with
  | none => rfl
  | some e =>
    obtain ⟨k, hk, he, ho, hp⟩ := lastOf_mem h
    obtain ⟨j, hj⟩ := List.getElem?_of_mem hk
    rcases hl j k hj with q | q
    · rw [ho] at q; cases q
    · exact absurd (by rw [he]; exact toList_inj hp) q
theorem lastOf_idx {l : List RKept} {p : ByteArray} {e : Ent} (h : lastOf l p = some e) : ∃ (i : Nat) (k : RKept), l[i]? = some k ∧ k.e = e ∧ k.out = false ∧ k.e.path = p ∧ ∀ (j : Nat) (q : RKept), i < j → l[j]? = some q → q.out = true ∨ q.e.path ≠ p := by
  refine snoc_ind (P := fun l => lastOf l p = some e → ∃ (i : Nat) (k : RKept), l[i]? = some k ∧ k.e = e ∧ k.out = false ∧ k.e.path = p ∧ ∀ (j : Nat) (q : RKept), i < j → l[j]? = some q → q.out = true ∨ q.e.path ≠ p) ?_ ?_ l h
  · intro h
    cases h
  · intro l x ih h
    rw [lastOf_snoc] at h
    by_cases c : (!x.out && (x.e.path.toList == p.toList)) = true
    · rw [if_pos c] at h
      rw [Bool.and_eq_true] at c
      refine ⟨l.length, x, by simp, Option.some.inj h, by simpa using c.1, path_beq.1 c.2, fun j q hj hq => ?_⟩
      have := (List.getElem?_eq_some_iff.1 hq).1
      simp at this
      omega
    · rw [if_neg c] at h
      obtain ⟨i, k, a1, a2, a3, a4, a5⟩ := ih h
      refine ⟨i, k, by rw [List.getElem?_append_left (List.getElem?_eq_some_iff.1 a1).1]; exact a1, a2, a3, a4, fun j q hj hq => ?_⟩
      rcases snoc_at hq with hq | ⟨_, rfl⟩
      · exact a5 j q hj hq
      · rw [Bool.not_eq_true, Bool.and_eq_false_iff] at c
        rcases c with c | c
        · left; simpa using c
        · right
          intro e2
          rw [e2] at c
          simp at c
/-- What was compacted away, and what was not. -/
structure OutOk2 (all : List RKept) (floor : Int) : Prop where
  low : ∀ (i : Nat) (k : RKept), all[i]? = some k → (i : Int) + 1 ≤ floor → (k.out = true ↔ k.e.gone = true ∨ ∃ (j : Nat) (q : RKept), i < j ∧ (j : Int) + 1 ≤ floor ∧ all[j]? = some q ∧ q.e.path = k.e.path)
  high : ∀ (i : Nat) (k : RKept), all[i]? = some k → floor < (i : Int) + 1 → k.out = false
/-- An entry is what was done. -/
structure Agrees (ks : List RKey) (e : Ent) (d : Dd) : Prop where
  path : e.path = d.path
  gone : e.gone = d.gone
  size : d.text.size ≤ 64
  shut : e.gone = false → 1 ≤ e.draw ∧ ∃ (j : Nat) (K : RKey), e.key = (j : Int) + 1 ∧ ks[j]? = some K ∧ K.writes ≠ 0 ∧ e.sealed = sealOf K.text (nonceTo e.draw 12) e.path d.text
structure AllOk (ks : List RKey) (all : List RKept) (ds : List Dd) : Prop where
  len : all.length = ds.length
  same : ∀ (i : Nat) (k : RKept) (d : Dd), all[i]? = some k → ds[i]? = some d → Agrees ks k.e d
theorem AllOk.at {ks : List RKey} {all : List RKept} {ds : List Dd} (h : AllOk ks all ds) {i : Nat} {d : Dd} (hd : ds[i]? = some d) : ∃ k, all[i]? = some k ∧ Agrees ks k.e d := by
  have hi := (List.getElem?_eq_some_iff.1 hd).1
  obtain ⟨k, hk⟩ : ∃ k, all[i]? = some k := ⟨_, List.getElem?_eq_getElem (by rw [h.len]; exact hi)⟩
  exact ⟨k, hk, h.same i k d hk hd⟩
theorem AllOk.of {ks : List RKey} {all : List RKept} {ds : List Dd} (h : AllOk ks all ds) {i : Nat} {k : RKept} (hk : all[i]? = some k) : ∃ d, ds[i]? = some d ∧ Agrees ks k.e d := by
  have hi := (List.getElem?_eq_some_iff.1 hk).1
  obtain ⟨d, hd⟩ : ∃ d, ds[i]? = some d := ⟨_, List.getElem?_eq_getElem (by rw [← h.len]; exact hi)⟩
  exact ⟨d, hd, h.same i k d hk hd⟩
theorem take_at {α : Type} {l : List α} {r i : Nat} {x : α} (h : (l.take r)[i]? = some x) : i < r ∧ l[i]? = some x := by
  rw [List.getElem?_take] at h
  split at h
  · exact ⟨by assumption, h⟩
  · cases h
theorem take_of {α : Type} {l : List α} {r i : Nat} {x : α} (h : l[i]? = some x) (hr : i < r) : (l.take r)[i]? = some x := by
  rw [List.getElem?_take, if_pos hr]; exact h
/-- What is looked up at a revision behind the floor is what was done last. -/
theorem look_yes {ks : List RKey} {all : List RKept} {ds : List Dd} {floor : Int} (h : AllOk ks all ds) (ho : OutOk2 all floor) {p : ByteArray} {rev i : Nat} {d : Dd} (hr : floor ≤ (rev : Int)) (hd : ds[i]? = some d) (hi : i < rev) (hp : d.path = p) (hg : d.gone = false)
    (hl : ∀ (k : Nat) (c : Dd), i < k → (ds.take rev)[k]? = some c → c.path ≠ p) : ∃ k, all[i]? = some k ∧ k.out = false ∧ Agrees ks k.e d ∧ lastOf (all.take rev) p = some k.e := by
  obtain ⟨k, hk, ha⟩ := h.at hd
  have hlate : ∀ (j : Nat) (q : RKept), i < j → j < rev → all[j]? = some q → q.e.path ≠ p := fun j q hj hjr hq e => by
    obtain ⟨c, hc, hb⟩ := h.of hq
    exact hl j c hj (take_of hc hjr) (by rw [← hb.path, e])
  have hout : k.out = false := by
    by_cases hf : (i : Int) + 1 ≤ floor
    · cases hq : k.out
      · rfl
      · rcases (ho.low i k hk hf).1 hq with q | ⟨j, q, h1, h2, h3, h4⟩
        · rw [ha.gone, hg] at q; cases q
        · exact absurd (by rw [h4, ha.path, hp]) (hlate j q h1 (by omega) h3)
    · exact ho.high i k hk (by omega)
  refine ⟨k, hk, hout, ha, lastOf_at (take_of hk hi) hout (by rw [ha.path, hp]) (fun j q hj hq => ?_)⟩
  obtain ⟨h1, h2⟩ := take_at hq
  exact Or.inr (hlate j q hj h1 h2)
theorem look_no {ks : List RKey} {all : List RKept} {ds : List Dd} {floor : Int} (h : AllOk ks all ds) (ho : OutOk2 all floor) {p : ByteArray} {rev r : Nat} {d : Dd} (hn : NewD (ds.take rev) p r d) (hg : r = 0 ∨ d.gone = true) : thereOf (lastOf (all.take rev) p) = false := by
  rcases hn with ⟨rfl, _, hno⟩ | ⟨i, rfl, hi, hp, hl⟩
  · rw [lastOf_no (fun j q hq => ?_)]
    · rfl
    · obtain ⟨h1, h2⟩ := take_at hq
      obtain ⟨c, hc, hb⟩ := h.of h2
      exact Or.inr (fun e => hno j c (take_of hc h1) (by rw [← hb.path, e]))
  · have hgd : d.gone = true := by
      rcases hg with q | q
      · omega
      · exact q
    obtain ⟨hir, hi2⟩ := take_at hi
    obtain ⟨k, hk, ha⟩ := h.at hi2
    cases hL : lastOf (all.take rev) p with
    | none => rfl
    | some e =>
      obtain ⟨j, q, a1, a2, a3, a4, a5⟩ := lastOf_idx hL
      obtain ⟨hjr, a1⟩ := take_at a1
      have hji : ¬ i < j := fun hlt => by
        obtain ⟨c, hc, hb⟩ := h.of a1
        exact hl j c hlt (take_of hc hjr) (by rw [← hb.path, a4])
      have hke : k.e.path = p := by rw [ha.path, hp]
      by_cases hij : j = i
      · subst hij
        obtain rfl := Option.some.inj (hk.symm.trans a1)
        unfold thereOf
        rw [← a2]
        simp [ha.gone, hgd]
      · -- then the gone one was compacted away, and so was what stood ahead of it
        exfalso
        have hlt : j < i := by omega
        rcases a5 i k hlt (take_of hk hir) with q1 | q1
        · have hf : (i : Int) + 1 ≤ floor := by
            by_cases hf : (i : Int) + 1 ≤ floor
            · exact hf
            · have := ho.high i k hk (by omega)
              rw [this] at q1; cases q1
          have := (ho.low j q a1 (by omega)).2 (Or.inr ⟨i, k, hlt, hf, hk, by rw [hke, a4]⟩)
          rw [a3] at this
          cases this
        · exact q1 hke
end Go.Proofs.YtphapknfkbgapabDoor
