import Derived.Test.YtphapknfkbgapaaDoorSeal
import Derived.Deep.QuietTactic
import Derived.BigQuiet
namespace Go.Proofs.YtphapknfkbgapaaDoor
open Go.RowKit

theorem opens_seal (key nonce path plain : ByteArray) : opens key nonce path (sealOf key nonce path plain) := by
  unfold opens coverOf
  rw [sealOf_size, show plain.size + 8 - 8 = plain.size from by omega, cover_of]
  have h := rd64_w64 (maskOf key nonce plain) (tagI key nonce path (maskOf key nonce plain)) (tagI_bd _ _ _ _)
  rw [maskOf_size] at h
  exact h
theorem open_seal (key nonce path plain : ByteArray) : maskOf key nonce (coverOf (sealOf key nonce path plain)) = plain := by
  unfold coverOf
  rw [sealOf_size, show plain.size + 8 - 8 = plain.size from by omega, cover_of, maskOf_back]
theorem seal_byte (key nonce path plain : ByteArray) (k : Nat) (h : k < plain.size) : byteN (sealOf key nonce path plain) k = byteN plain k ^^^ byteN (streamOf (key.extract 0 32) nonce 1 plain.size) k := by
  unfold sealOf
  rw [byteN_append_left _ _ _ (by rw [maskOf_size]; exact h)]
  exact byteN_mixS _ _ _ h
theorem stream_byte (key nonce : ByteArray) (c : Int) (n m k : Nat) (hn : k < n) (hm : k < m) : byteN (streamOf key nonce c n) k = byteN (streamOf key nonce c m) k := by
  have q : ∀ a b, a ≤ b → k < a → byteN (streamOf key nonce c b) k = byteN (streamOf key nonce c a) k := by
    intro a b hab hk
    have h := streamOf_prefix key nonce c b a hab
    unfold byteN
    rw [← Array.getElem?_toList, ← Array.getElem?_toList, ← h, List.getElem?_take, if_pos hk]
  rcases Nat.le_total n m with h | h
  · exact (q n m h hn).symm
  · exact q m n h hm
theorem xor4 (a b s : UInt8) : (a ^^^ s) ^^^ (b ^^^ s) = a ^^^ b := by
  rw [UInt8.xor_comm b s, ← UInt8.xor_assoc, UInt8.xor_assoc a s s, UInt8.xor_self, UInt8.xor_zero]

set_option maxRecDepth 100000 in
set_option maxHeartbeats 2000000 in
theorem back_walk (key nonce path plain other : ByteArray) (w : World) (hp : path.size ≤ 140737488355328) (hF : Fours w) (h1 : 1 ≤ w.heap.size) :
    Calls Tryd.prog 6 #[.string key, .string nonce, .string path, .string plain, .string other] w fun e w' => e = .returned (.bool true) ∧ Low w.heap.size w w' := by
  have HF : Hid (Fours w) := hF
  clear hF
  have hdot : (⟨#[46]⟩ : ByteArray).size = 1 := rfl
  go_enter Tryd.func6, Tryd.ntmps6
  go_upto_region 2 with (go_at_call 17; refine (keyOf_any _ _).mono ?_; rintro e x1 ⟨k1, rfl, hk1, rfl⟩)
  have HK : Hid (k1.size = 48) := hk1
  clear hk1
  go_upto_region 3 with (first | (go_at_call 17; refine (keyOf_any _ _).mono ?_; rintro e x1 ⟨j1, rfl, hj1, rfl⟩) | (go_at_call 16; refine (cut_any _ _ _ (by omega)).mono ?_; rintro e x1 ⟨j2, rfl, hj2, rfl⟩))
  have HN : Hid (j2.size = 12) := by (show _ = _; omega)
  clear hj1 hj2
  go_upto_region 4 with (go_at_call 16; refine (cut_any _ _ _ (by omega)).mono ?_; rintro e x1 ⟨p2, rfl, hp2, rfl⟩)
  have HP : Hid (1 ≤ p2.size ∧ p2.size ≤ 16) := by
    rw [ByteArray.size_append', hdot] at hp2
    show _ ∧ _
    omega
  clear hp2 hp
  go_upto_region 5 with (go_at_call 16; refine (cut_any _ _ _ (by omega)).mono ?_; rintro e x1 ⟨a, rfl, ha, rfl⟩)
  have ha2 : a.size ≤ 64 := by omega
  clear ha
  go_upto_region 6 with (go_at_call 16; refine (cut_any _ _ _ (by omega)).mono ?_; rintro e x1 ⟨b, rfl, hb, rfl⟩)
  have hb2 : b.size ≤ 64 := by omega
  clear hb hdot
  have HG : Hid (goodP k1 j2 p2) := ⟨HK.out, HN.out, HP.out.1, HP.out.2⟩
  obtain ⟨S, hS⟩ : ∃ S, Hid (S = sealOf k1 j2 p2 a) := ⟨_, rfl⟩
  obtain ⟨T, hT⟩ : ∃ T, Hid (T = sealOf k1 j2 p2 b) := ⟨_, rfl⟩
  have hSs : Hid (S.size = a.size + 8) := by rw [hS.out]; exact sealOf_size _ _ _ _
  have hTs : Hid (T.size = b.size + 8) := by rw [hT.out]; exact sealOf_size _ _ _ _
  have q1 : ((S.size : Int) != (a.size : Int) + 8) = false := by rw [bne_eq_false_iff_eq, hSs.out]; omega
  have q2 : ((T.size : Int) != (b.size : Int) + 8) = false := by rw [bne_eq_false_iff_eq, hTs.out]; omega
  go_upto_region 7 with (go_at_call 12; refine (Seal_yes _ _ _ _ _ HG.out ha2 HF.out h1).mono ?_; rw [← hS.out]; rintro e y1 ⟨rfl, l1⟩)
  have L1 : Hid (Low x1.heap.size x1 y1) := l1
  have F1 : Hid (Fours y1) := HF.out.later (l1.mono h1)
  have s1 : 1 ≤ y1.heap.size := Nat.le_trans h1 l1.size
  clear l1 HF
  go_upto_region 8 with (go_at_call 12; refine (Seal_yes _ _ _ _ _ HG.out hb2 F1.out s1).mono ?_; rw [← hT.out]; rintro e y2 ⟨rfl, l2⟩)
  have L2 : Hid (Low x1.heap.size x1 y2) := L1.out.trans (l2.mono L1.out.size)
  have F2 : Hid (Fours y2) := F1.out.later (l2.mono s1)
  have s2 : 1 ≤ y2.heap.size := Nat.le_trans s1 l2.size
  clear l2 L1 F1 s1 h1
  go_upto_region 10 with fail
  have oS : Hid (opens k1 j2 p2 S) := by rw [hS.out]; exact opens_seal _ _ _ _
  have oT : Hid (opens k1 j2 p2 T) := by rw [hT.out]; exact opens_seal _ _ _ _
  have eS : Hid (maskOf k1 j2 (coverOf S) = a) := by rw [hS.out]; exact open_seal _ _ _ _
  have eT : Hid (maskOf k1 j2 (coverOf T) = b) := by rw [hT.out]; exact open_seal _ _ _ _
  go_upto_region 11 with (go_at_call 14; refine (Open_yes _ _ _ _ _ HG.out (by rw [hSs.out]; omega) (by rw [hSs.out]; omega) oS.out F2.out s2).mono ?_; rw [eS.out]; rintro e y3 ⟨rfl, l3⟩)
  have L3 : Hid (Low x1.heap.size x1 y3) := L2.out.trans (l3.mono L2.out.size)
  have F3 : Hid (Fours y3) := F2.out.later (l3.mono s2)
  have s3 : 1 ≤ y3.heap.size := Nat.le_trans s2 l3.size
  clear l3 L2 F2 s2
  go_upto_region 12 with (go_at_call 14; refine (Open_yes _ _ _ _ _ HG.out (by rw [hTs.out]; omega) (by rw [hTs.out]; omega) oT.out F3.out s3).mono ?_; rw [eT.out]; rintro e y4 ⟨rfl, l4⟩)
  have L4 : Hid (Low x1.heap.size x1 y4) := L3.out.trans (l4.mono L3.out.size)
  clear l4 L3 F3 s3
  have qa : (a.toList == a.toList) = true := beq_self_eq_true _
  have qb : (b.toList == b.toList) = true := beq_self_eq_true _
  go_upto_region 15 with fail
  clear qa qb
  go_loopw [17] (fun s wr => ∃ k : Nat, k ≤ a.size ∧ s = .int .i64 k ∧ Hid (Low x1.heap.size x1 wr)) (fun s _ => a.size - (intOf s).toNat)
  case atStart => exact ⟨0, Nat.zero_le _, rfl, L4⟩
  case round =>
    clear L4
    obtain ⟨k, hk, rfl, L⟩ := hrel
    by_cases c1 : k < a.size
    · have d1 : decide ((k : Int) < (a.size : Int)) = true := by simp; omega
      by_cases c2 : k < b.size
      · have d2 : decide ((k : Int) < (b.size : Int)) = true := by simp; omega
        have kS : k < S.size := by rw [hSs.out]; omega
        have kT : k < T.size := by rw [hTs.out]; omega
        have I1 : (k : Int) < (a.size : Int) := by omega
        have I2 : (k : Int) < (b.size : Int) := by omega
        have I3 : (k : Int) < (S.size : Int) := by omega
        have I4 : (k : Int) < (T.size : Int) := by omega
        have E : (bits .xor .u8 ((S[k]).toNat : Int) ((T[k]).toNat : Int) != bits .xor .u8 ((a[k]).toNat : Int) ((b[k]).toNat : Int)) = false := by
          rw [bne_eq_false_iff_eq, get_byteN, get_byteN, get_byteN, get_byteN, xor8, xor8]
          have x1 : byteN S k = byteN a k ^^^ byteN (streamOf (k1.extract 0 32) j2 1 a.size) k := by rw [hS.out]; exact seal_byte _ _ _ _ _ c1
          have x2 : byteN T k = byteN b k ^^^ byteN (streamOf (k1.extract 0 32) j2 1 b.size) k := by rw [hT.out]; exact seal_byte _ _ _ _ _ c2
          rw [x1, x2, stream_byte _ _ _ a.size b.size k c1 c2, xor4]
        go_upto_region 17 with fail
        go_region
        all_goals
          go_wp2_with fail
          go_roundw
          case rel => exact ⟨k + 1, by omega, by go_num, L.out.trans (Low.of ((Below.refl _ _).drew))⟩
          case measure => simp [intOf]; omega
      · have d2 : decide ((k : Int) < (b.size : Int)) = false := by simp; omega
        go_wp2_with fail
        go_ret
        exact ⟨rfl, L.out⟩
    · have d1 : decide ((k : Int) < (a.size : Int)) = false := by simp; omega
      go_wp2_with fail
      go_ret
      exact ⟨rfl, L.out⟩
end Go.Proofs.YtphapknfkbgapaaDoor
