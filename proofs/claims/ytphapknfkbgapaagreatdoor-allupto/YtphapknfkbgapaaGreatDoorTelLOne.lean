import Derived.Test.YtphapknfkbgapaaGreatDoorPPToTelH
import Derived.Test.YtphapknfkbgapaaGreatDoorPVToPT
namespace Go.Proofs.YtphapknfkbgapaaGreatDoor
open Go.RowKit

/-! What Turns asks of the program. -/

variable {X : PS} {Y : RS} {n : Nat}
theorem left_one {ks : List PKey} {j : Nat} {k : PKey} (hk : ks[j]? = some k) (hg : keyGone k = false) : (pLeft ks == 1) = !pOldLeft ks ((j : Int) + 1) := by
  obtain ⟨hjl, hje⟩ := List.getElem?_eq_some_iff.1 hk
  have hsp : ks = ks.take j ++ k :: ks.drop (j + 1) := by
    conv => lhs; rw [← List.take_append_drop j ks, List.drop_eq_getElem_cons hjl, hje]
  have hct : pLeft ks = (ks.take j).countP (fun k => !keyGone k) + ((ks.drop (j + 1)).countP (fun k => !keyGone k) + 1) := by
    unfold pLeft
    conv => lhs; rw [hsp]
    rw [List.countP_append, List.countP_cons]
    simp [hg]
  have at1 : ∀ (i : Nat) (a : PKey), (ks.take j)[i]? = some a → i < j ∧ ks[i]? = some a := fun i a h => by
    have h1 := (List.getElem?_eq_some_iff.1 h).1
    rw [List.length_take] at h1
    have h2 : i < j := by omega
    rw [List.getElem?_take_of_lt h2] at h
    exact ⟨h2, h⟩
  cases ho : pOldLeft ks ((j : Int) + 1)
  · have z1 : (ks.take j).countP (fun k => !keyGone k) = 0 := List.countP_eq_zero.2 (fun a ha => by
      obtain ⟨i, hi⟩ := List.getElem?_of_mem ha
      obtain ⟨h1, h2⟩ := at1 i a hi
      have := pOldLeft_false ho h2
      unfold pOther at this
      have hne : ((i : Int) + 1 != (j : Int) + 1) = true := by rw [bne_iff_ne]; omega
      rw [hne, Bool.true_and] at this
      simpa using this)
    have z2 : (ks.drop (j + 1)).countP (fun k => !keyGone k) = 0 := List.countP_eq_zero.2 (fun a ha => by
      obtain ⟨i, hi⟩ := List.getElem?_of_mem ha
      rw [List.getElem?_drop] at hi
      have := pOldLeft_false ho hi
      unfold pOther at this
      have hne : (((j + 1 + i : Nat) : Int) + 1 != (j : Int) + 1) = true := by rw [bne_iff_ne]; omega
      rw [hne, Bool.true_and] at this
      simpa using this)
    rw [hct, z1, z2]
    rfl
  · unfold pOldLeft at ho
    obtain ⟨⟨a, i⟩, hm, hp⟩ := List.any_eq_true.1 ho
    have hi := List.mem_zipIdx_iff_getElem?.1 hm
    have hi : ks[i]? = some a := hi
    unfold pOther at hp
    rw [Bool.and_eq_true] at hp
    obtain ⟨hp1, hp2⟩ := hp
    have hp1 : (i : Int) + 1 ≠ (j : Int) + 1 := by simpa using hp1
    have hp2 : (!keyGone a) = true := hp2
    have hpos : 0 < (ks.take j).countP (fun k => !keyGone k) ∨ 0 < (ks.drop (j + 1)).countP (fun k => !keyGone k) := by
      by_cases hlt : i < j
      · left
        refine List.countP_pos_iff.2 ⟨a, ?_, hp2⟩
        exact List.mem_of_getElem? (i := i) (by rw [List.getElem?_take_of_lt hlt]; exact hi)
      · right
        refine List.countP_pos_iff.2 ⟨a, ?_, hp2⟩
        exact List.mem_of_getElem? (i := i - (j + 1)) (by rw [List.getElem?_drop, show j + 1 + (i - (j + 1)) = i by omega]; exact hi)
    show (pLeft ks == 1) = false
    rw [beq_eq_false_iff_ne, hct]
    omega
theorem Rel2.ep12 (h : Rel2 n X Y) : 0 ≤ X.epoch ∧ X.epoch ≤ 1000000 := by
  have a := h.ep
  have c := h.keys.few.2
  rw [a.1]
  omega
theorem seen_all (hall : ∀ (i : Nat) (s : PSrv), X.servers[i]? = some s → s.seen = X.epoch) : pSeen X = true := by
  unfold pSeen
  rw [List.all_eq_true]
  intro s hs
  obtain ⟨i, hi⟩ := List.getElem?_of_mem hs
  rw [hall i s hi]
  simp
theorem seen_not (h : Rel2 n X Y) (hex : ∃ (i : Nat) (s : PSrv), X.servers[i]? = some s ∧ s.seen ≠ X.epoch) : pSeen X = false := by
  obtain ⟨i, s, hs, hne⟩ := hex
  unfold pSeen
  rw [List.all_eq_false]
  refine ⟨s, List.mem_of_getElem? hs, ?_⟩
  obtain ⟨sn, u, _, _, a⟩ := h.srv i s hs
  have := a.sn.2
  rw [← a.seen, ← h.ep.1] at this
  simp
  omega
/-- A step of Migrate keeps what it asks. -/
def GoodMove (X : PS) (n : Nat) (i : Nat) (Z : PS) : Prop := ∃ Y : RS, Rel2 (n + i) Z Y ∧ Z.keys = X.keys ∧ Z.write = X.write
theorem good_ok (hn : n ≤ 49000000) (i : Nat) (Z : PS) (hi : i ≤ 20) (h : GoodMove X n i Z) : MOk X Z := by
  obtain ⟨Y, h, hk, hw⟩ := h
  refine ⟨hk, hw, by have := h.few; have := h.rooms; omega, fun x hx hg => ?_, ?_, ?_, fun hf => ?_⟩
  · obtain ⟨j, P, e, _⟩ := h.ekey hx hg
    exact ⟨j, P, e⟩
  · have := h.draws
    rw [this.1]
    omega
  · have := h.all
    rw [h.rev]
    omega
  · obtain ⟨e, e2⟩ := first_due h
    have hfd : (dueOf Y).found = true := by rw [← e, bne_iff_ne]; exact hf
    obtain ⟨a1, a2⟩ := e2 hfd
    have hd := due_ok h.keysOk hfd
    rw [a1, a2]
    exact ⟨hd.name, hd.text⟩
theorem PUni.migrate (h : Rel2 n X Y) (hn : n ≤ 49000000) (N : Nat) (hN : N ≤ 20) (hg : pGoing X = true) {j : Nat} {p : PKey} {K : RKey} (hw : X.write = (j : Int) + 1) (hwy : writesOf Y.keys Y.epoch = (j : Int) + 1) (hp : X.keys[j]? = some p) (hK : Y.keys[j]? = some K) (ht : p.text = K.text) (hs : K.text.size = 48) :
    PUni 43 [.int .i64 (N : Int)] X (.tuple #[.int .i64 ((pMoves K.text ((j : Int) + 1) N X).2.1 : Int), .int .i64 (pMoves K.text ((j : Int) + 1) N X).2.2]) (pMoves K.text ((j : Int) + 1) N X).1 := by
  intro w F b hX hF h1
  have hj6 : j ≤ 6 := by have := (List.getElem?_eq_some_iff.1 hK).1; have := h.keys.few.2; omega
  have key := fun (F1 : Nat → Prop) (hX1 : XIn w F1 b X) (h0 : ¬ F1 0 ∨ ((pFirst X).e.rev != 0) = false) => pMigrate_any (F := F1) w N j p (fun i Z => i ≤ 20 ∧ GoodMove X n i Z) hX1 h0 hN hg hp hj6 (by rw [ht]; exact hs) hw hF h1 ⟨by omega, Y, h, rfl, rfl⟩ (fun i Z hZ => good_ok hn i Z hZ.1 hZ.2) (fun i Z hZ hi hf hu => by
    obtain ⟨hi20, Y', h', hk', hw'⟩ := hZ
    refine ⟨by omega, ?_⟩
    obtain ⟨e, _⟩ := first_due h'
    have hfd : (dueOf Y').found = true := by rw [← e]; exact hf
    obtain ⟨j2, p2, K2, b1, b2, b3, b4, b5, _, b7, _⟩ := h'.writer
    have hjj : j2 = j := by rw [hw', hw] at b1; omega
    subst hjj
    have hpp : p2 = p := by rw [hk'] at b3; exact Option.some.inj (b3.symm.trans hp)
    have htt : K2.text = p.text := by rw [← hpp]; exact (b5.text b7).symm
    have hr := rel_move h' (by omega) b2 b4 hfd (by rw [← pFull_same h']; exact hu)
    rw [← pmove_same h' K2 _ hfd, htt] at hr
    exact ⟨_, hr, hk', hw'⟩)
  by_cases he : X.entries.length = 0
  · have q := key F hX (Or.inr (by
      have : X.entries = [] := List.length_eq_zero_iff.1 he
      unfold pFirst
      rw [this]
      rfl))
    rw [ht] at q
    exact q
  · have q := key (fun k => F k ∧ k ≠ 0) (xin_apart0 hX hF (by rw [h.keys.len]; exact h.keys.few.1) (by rw [h.len.1]; exact h.len.2.2.2) (by omega)) (Or.inl (fun c => c.2 rfl))
    rw [ht] at q
    refine q.mono fun e w' c => ?_
    obtain ⟨c1, F', c2, c3, c4⟩ := c
    exact ⟨c1, F', c2, c3.mono (fun _ _ f => f.1), fun k hk => (c4 k hk).imp (fun f => f.1) id⟩
theorem migrate_two (hn : n ≤ 2000000) (h : Rel21 n X Y) (m : Int) : ∃ v e : Int, PairR Rel21 43 44 [.int .i64 m] X Y n (.tuple #[.int .i64 v, .int .i64 e]) := by
  have h2 : Rel2 (21 * n) X Y := h
  have hup : Rel21 (n + 1) X Y := Rel2.mono h (by omega)
  cases hb : badMove m
  · cases hg : goingOf Y
    · have hgx : pProm X = false := by unfold pProm; rw [h2.turn]; exact hg
      exact ⟨0, 17, X, Y, p_same (fun w F b hX => pMigrate_turn w m hX hb hgx), r_same (fun w F b hR => Migrate_turn w m hR hb hg), hup⟩
    · have hgx : pGoing X = true := by unfold pGoing; rw [h2.turn]; exact hg
      have hm : 0 ≤ m ∧ m ≤ 20 := by
        unfold badMove at hb
        rw [Bool.or_eq_false_iff] at hb
        have q1 : ¬ m < 0 := by simpa using hb.1
        have q2 : ¬ 20 < m := by simpa using hb.2
        omega
      obtain ⟨N, rfl⟩ : ∃ N : Nat, m = (N : Int) := ⟨m.toNat, by omega⟩
      obtain ⟨j, p, K, b1, b2, b3, b4, b5, _, b7, _⟩ := h2.writer
      have ht := b5.text b7
      obtain ⟨s1, s2⟩ := moves_same N (21 * n) X Y h2 (by omega) j K b2 b4
      refine ⟨((moves K ((j : Int) + 1) N Y).2.1 : Int), (moves K ((j : Int) + 1) N Y).2.2, (pMoves K.text ((j : Int) + 1) N X).1, (moves K ((j : Int) + 1) N Y).1, ?_, ?_, Rel2.mono s2 (by omega)⟩
      · rw [← s1]
        exact PUni.migrate h2 (by omega) N (by omega) hgx b1 b2 b3 b4 ht b5.size
      · intro w F b hR
        exact Migrate_any w N K j hR (by omega) hg h2.keys.few.2 (by have := h2.all; omega) h2.keysOk b4 b5.size b2 ⟨h2.draws.2.1, by have := h2.draws.2.2; omega⟩
  · exact ⟨0, 2, X, Y, p_same (fun w F b _ => pMigrate_arg w m hb), r_same (fun w F b _ => Migrate_arg w m hb), hup⟩
theorem pstage_holds (h : Rel2 n X Y) (t : ByteArray) : PStage X t :=
    ⟨fun h1 => p_same (fun w F b _ => pStage_arg w t (by simpa using h1)),
     fun h1 h2 => p_same (fun w F b hX => pStage_many w t hX (by simpa using h1) h2),
     fun h1 h2 h3 => p_same (fun w F b hX => pStage_turn w t hX (by simpa using h1) h2 (by rw [bne_iff_ne]; exact h3)),
     fun h1 h2 h3 => p_grow (fun w F b hX => pStage_yes w t hX (by simpa using h1) h2 (by rw [h3]; rfl) h.ep12)⟩
theorem ppromote_holds (h : Rel2 n X Y) : PPromote X :=
    ⟨fun h1 => p_same (fun w F b hX => pPromote_turn w hX (by rw [bne_iff_ne]; exact h1)),
     fun h1 hex => p_low (fun w F b hX _ _ => pPromote_wait w hX (by rw [h1]; rfl) (by rw [h.len.1]; exact h.len.2.2.1) (seen_not h hex)),
     fun h1 hall m P hm hP => p_kept (fun w F b hX _ _ => pPromote_yes w m P hX (by rw [h1]; rfl) (by rw [h.len.1]; exact h.len.2.2.1) (seen_all hall) hm (by have := h.keys.few.2; have := h.keys.len; omega) hP h.ep12)⟩
theorem pgate_holds (h : Rel2 n X Y) : PGate X :=
    ⟨fun h1 => p_same (fun w F b hX => pGate_turn w hX h1),
     fun h1 h2 => p_low (fun w F b hX _ _ => (pGate_any w hX h1 (by have := h.few; have := h.rooms; omega)).mono fun e w' q => by
       rcases q with ⟨_, q⟩ | ⟨q, _⟩
       · exact q
       · exact absurd (h2.symm.trans q) (by simp)),
     fun h1 h2 => p_kept (fun w F b hX _ _ => (pGate_any w hX h1 (by have := h.few; have := h.rooms; omega)).mono fun e w' q => by
       rcases q with ⟨q, _⟩ | ⟨_, q⟩
       · exact absurd (h2.symm.trans q) (by simp)
       · exact q)⟩
theorem pdestroy_holds (h : Rel2 n X Y) (k : Int) : PDestroy X k := by
  have hl := h.keys.len
  have hf := h.keys.few
  have j6 : ∀ (j : Nat) (P : PKey), X.keys[j]? = some P → j ≤ 6 := fun j P hP => by have := (List.getElem?_eq_some_iff.1 hP).1; omega
  refine ⟨fun h1 => p_same (fun w F b hX => pDestroy_none w k hX h1), fun j P hj hP hg => ?_, fun j P hj hP hg hb => ?_, fun j P hj hP hg hw ht => ?_⟩
  · subst hj
    exact p_low (fun w F b hX _ _ => pDestroy_gone w j P hX hP (j6 j P hP) hg)
  · subst hj
    exact p_low (fun w F b hX _ _ => pDestroy_gate w j P hX hP (j6 j P hP) hg (by
      rw [Bool.or_eq_true]
      rcases hb with q | q
      · left; rw [q]; simp
      · right; rw [bne_iff_ne]; exact q))
  · subst hj
    obtain ⟨jm, p, K, b1, b2, b3, b4, b5, _, b7, _⟩ := h.writer
    have hne : j ≠ jm := fun e => hw (by rw [b1, e])
    have hkm : (X.keys.set j { P with text := ⟨#[]⟩ })[jm]? = some p := by rw [List.getElem?_set_ne hne]; exact b3
    have hgp : keyGone p = false := b5.alive.trans b7
    have e := left_one hkm hgp
    have ht2 : (if pLeft (X.keys.set j { P with text := ⟨#[]⟩ }) == 1 then (0 : Int) else X.turn) = (if pOldLeft (X.keys.set j { P with text := ⟨#[]⟩ }) X.write then X.turn else 0) := by
      rw [e, b1]
      cases pOldLeft (X.keys.set j { P with text := ⟨#[]⟩ }) ((jm : Int) + 1) <;> rfl
    rw [ht2]
    exact p_kept (fun w F b hX _ _ => pDestroy_yes w j P hX hP (j6 j P hP) (by omega) hg (by
      rw [Bool.or_eq_false_iff]
      exact ⟨by rw [beq_eq_false_iff_ne]; exact hw, by rw [ht]; rfl⟩))
theorem pturn : PTurn where
  stage := fun _ _ _ t _ h _ => pstage_holds h t
  promote := fun _ _ _ _ h => ppromote_holds h
  gate := fun _ _ _ _ h => pgate_holds h
  destroy := fun _ _ _ k _ h => pdestroy_holds h k
  migrate := fun _ _ _ m hn h => migrate_two hn h m
end Go.Proofs.YtphapknfkbgapaaGreatDoor
