import Derived.Test.YtphapknfkbgapaaDoorOpens
namespace Go.Proofs.YtphapknfkbgapaaDoor
open Go.RowKit

theorem seal_pair (key nonce path plain : ByteArray) (hp : plain.size ≤ maxLen) : ∃ (A : ByteArray) (E : Int), A.size ≤ maxLen ∧
    (∀ w, Fours w → 1 ≤ w.heap.size → Calls Tryd.prog 12 #[.string key, .string nonce, .string path, .string plain] w fun e w' => e = .returned (.tuple #[.string A, .int .i64 E]) ∧ Low w.heap.size w w') ∧
    (∀ w, Calls Tryd.prog 13 #[.string key, .string nonce, .string path, .string plain] w fun e w' => e = .returned (.tuple #[.string A, .int .i64 E]) ∧ Low w.heap.size w w') := by
  by_cases h : goodP key nonce path ∧ plain.size ≤ 64
  · exact ⟨sealOf key nonce path plain, 0, by rw [sealOf_size]; unfold maxLen; omega, fun w hF h1 => Seal_yes _ _ _ _ w h.1 h.2 hF h1, fun w => SealR_yes _ _ _ _ w h.1 h.2⟩
  · exact ⟨⟨#[]⟩, 2, Nat.zero_le _, fun w _ _ => Seal_no _ _ _ _ w h hp, fun w => SealR_no _ _ _ _ w h hp⟩
theorem open_pair (key nonce path s : ByteArray) (hp : s.size ≤ maxLen) : ∃ (A : ByteArray) (E : Int),
    (∀ w, Fours w → 1 ≤ w.heap.size → Calls Tryd.prog 14 #[.string key, .string nonce, .string path, .string s] w fun e w' => e = .returned (.tuple #[.string A, .int .i64 E]) ∧ Low w.heap.size w w') ∧
    (∀ w, Calls Tryd.prog 15 #[.string key, .string nonce, .string path, .string s] w fun e w' => e = .returned (.tuple #[.string A, .int .i64 E]) ∧ Low w.heap.size w w') := by
  by_cases h : goodP key nonce path ∧ 8 ≤ s.size ∧ s.size ≤ 72
  · by_cases ho : opens key nonce path s
    · exact ⟨maskOf key nonce (coverOf s), 0, fun w hF h1 => Open_yes _ _ _ _ w h.1 h.2.1 h.2.2 ho hF h1, fun w => OpenR_yes _ _ _ _ w h.1 h.2.1 h.2.2 ho⟩
    · exact ⟨⟨#[]⟩, 3, fun w _ _ => Open_bad _ _ _ _ w h.1 h.2.1 h.2.2 ho, fun w => OpenR_bad _ _ _ _ w h.1 h.2.1 h.2.2 ho⟩
  · exact ⟨⟨#[]⟩, 2, fun w _ _ => Open_no _ _ _ _ w h hp, fun w => OpenR_no _ _ _ _ w h hp⟩

set_option maxRecDepth 100000 in
set_option maxHeartbeats 1000000 in
theorem seals_walk (key nonce path plain other text : ByteArray) (w : World) (hp : plain.size ≤ maxLen) (ht : text.size ≤ maxLen) (hF : Fours w) (h1 : 1 ≤ w.heap.size) :
    Calls Tryd.prog 4 #[.string key, .string nonce, .string path, .string plain, .string other, .string text] w fun e w' => e = .returned (.bool true) ∧ Low w.heap.size w w' := by
  have HF : Hid (Fours w) := hF
  clear hF
  obtain ⟨A, E, hA, a1, a2⟩ := seal_pair key nonce path plain hp
  obtain ⟨B, G, b1, b2⟩ := open_pair key nonce path text ht
  obtain ⟨C, K, c1, c2⟩ := open_pair key nonce other A hA
  have A1 : Hid _ := a1
  have A2 : Hid _ := a2
  have B1 : Hid _ := b1
  have B2 : Hid _ := b2
  have C1 : Hid _ := c1
  have C2 : Hid _ := c2
  clear a1 a2 b1 b2 c1 c2 hp ht hA
  have qa : (A.toList == A.toList) = true := beq_self_eq_true _
  have qb : (B.toList == B.toList) = true := beq_self_eq_true _
  have qc : (C.toList == C.toList) = true := beq_self_eq_true _
  have qe : (E != E) = false := by simp
  have qg : (G != G) = false := by simp
  have qk : (K == K) = true := by simp
  go_enter Tryd.func4, Tryd.ntmps4
  go_upto_region 2 with (go_at_call 12; refine (A1.out _ HF.out h1).mono ?_; rintro e y1 ⟨rfl, l1⟩)
  have L1 : Hid (Low w.heap.size w y1) := l1
  have F1 : Hid (Fours y1) := HF.out.later (l1.mono h1)
  have s1 : 1 ≤ y1.heap.size := Nat.le_trans h1 l1.size
  clear l1 HF A1
  go_upto_region 5 with (go_at_call 13; refine (A2.out _).mono ?_; rintro e y2 ⟨rfl, l2⟩)
  have L2 : Hid (Low w.heap.size w y2) := L1.out.trans (l2.mono L1.out.size)
  have F2 : Hid (Fours y2) := F1.out.later (l2.mono s1)
  have s2 : 1 ≤ y2.heap.size := Nat.le_trans s1 l2.size
  clear l2 L1 F1 s1 h1
  go_upto_region 6 with (go_at_call 14; refine (B1.out _ F2.out s2).mono ?_; rintro e y3 ⟨rfl, l3⟩)
  have L3 : Hid (Low w.heap.size w y3) := L2.out.trans (l3.mono L2.out.size)
  have F3 : Hid (Fours y3) := F2.out.later (l3.mono s2)
  have s3 : 1 ≤ y3.heap.size := Nat.le_trans s2 l3.size
  clear l3 L2 F2 s2
  go_upto_region 9 with (go_at_call 15; refine (B2.out _).mono ?_; rintro e y4 ⟨rfl, l4⟩)
  have L4 : Hid (Low w.heap.size w y4) := L3.out.trans (l4.mono L3.out.size)
  have F4 : Hid (Fours y4) := F3.out.later (l4.mono s3)
  have s4 : 1 ≤ y4.heap.size := Nat.le_trans s3 l4.size
  clear l4 L3 F3 s3
  go_upto_region 10 with (go_at_call 13; refine (A2.out _).mono ?_; rintro e y5 ⟨rfl, l5⟩)
  have L5 : Hid (Low w.heap.size w y5) := L4.out.trans (l5.mono L4.out.size)
  have F5 : Hid (Fours y5) := F4.out.later (l5.mono s4)
  have s5 : 1 ≤ y5.heap.size := Nat.le_trans s4 l5.size
  clear l5 L4 F4 s4
  go_upto_region 11 with (go_at_call 14; refine (C1.out _ F5.out s5).mono ?_; rintro e y6 ⟨rfl, l6⟩)
  have L6 : Hid (Low w.heap.size w y6) := L5.out.trans (l6.mono L5.out.size)
  clear l6 L5 F5 s5
  go_upto_region 12 with (go_at_call 15; refine (C2.out _).mono ?_; rintro e y7 ⟨rfl, l7⟩)
  have L7 : Hid (Low w.heap.size w y7) := L6.out.trans (l7.mono L6.out.size)
  clear l7 L6
  go_wp2_with fail
  go_ret
  exact ⟨rfl, L7.out⟩
end Go.Proofs.YtphapknfkbgapaaDoor
