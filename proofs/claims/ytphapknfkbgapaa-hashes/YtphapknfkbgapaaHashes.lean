import Derived.Test.YtphapknfkbgapaaHashed
import Derived.ProofKit
import Derived.OpenShut
import Derived.ShutString
namespace Go.Proofs.Ytphapknfkbgapaa
open Go.ChangeShapes Go.WideShapes Go.ChangeAt Go.RowKit
open Go.ChangeMaps (open_string shut_string)
set_option linter.unusedVariables false

theorem own : ownKnob Try.prog.godebug = none := by kernel_rfl
theorem hashOf_bd (key text : ByteArray) : In64 (hashOf key text) := xor64_bd _ _
set_option maxHeartbeats 400000 in
theorem Hash_any (key text : ByteArray) (w : World) (ht : text.size ≤ maxLen) :
    Calls Try.prog 4 #[.string key, .string text] w fun e w' => e = .returned (if key.size = 16 ∧ text.size ≤ 400 then .tuple #[.int .u64 (hashOf key text), .int .i64 0] else .tuple #[.int .u64 0, .int .i64 2]) ∧ Low w.heap.size w w' := by
  unfold maxLen at ht
  by_cases h1 : key.size = 16
  · by_cases h2 : text.size ≤ 400
    · rw [if_pos ⟨h1, h2⟩]
      have q1 : ((key.size : Int) != 16) = false := by rw [bne_eq_false_iff_eq]; omega
      have H1 : Hid (key.size = 16) := h1
      clear h1
      go_enter Try.func4, Try.ntmps4
      go_wp2_with (go_at_call 6; refine (hash_any _ _ _ H1.out h2).mono ?_; rintro e w1 ⟨rfl, hl⟩)
      go_ret2
      exact ⟨rfl, hl⟩
    · rw [if_neg (fun h => h2 h.2)]
      have q1 : ((key.size : Int) != 16) = false := by rw [bne_eq_false_iff_eq]; omega
      clear h1
      go_enter Try.func4, Try.ntmps4
      go_wp2_with fail
      go_ret2
      exact ⟨rfl, Low.refl _ _⟩
  · rw [if_neg (fun h => h1 h.1)]
    have q1 : ((key.size : Int) != 16) = true := by rw [bne_iff_ne]; omega
    go_enter Try.func4, Try.ntmps4
    go_wp2_with fail
    go_ret2
    exact ⟨rfl, Low.refl _ _⟩
set_option maxHeartbeats 400000 in
theorem RHash_any (key text : ByteArray) (w : World) (ht : text.size ≤ maxLen) :
    Calls Try.prog 5 #[.string key, .string text] w fun e w' => e = .returned (if key.size = 16 ∧ text.size ≤ 400 then .tuple #[.int .u64 (hashOf key text), .int .i64 0] else .tuple #[.int .u64 0, .int .i64 2]) ∧ Low w.heap.size w w' := by
  unfold maxLen at ht
  by_cases h1 : key.size = 16
  · by_cases h2 : text.size ≤ 400
    · rw [if_pos ⟨h1, h2⟩]
      have q1 : ((key.size : Int) != 16) = false := by rw [bne_eq_false_iff_eq]; omega
      have H1 : Hid (key.size = 16) := h1
      clear h1
      obtain ⟨h, hh⟩ : ∃ h, Hid (h = hashOf key text) := ⟨_, rfl⟩
      have ih : In64 h := by rw [hh.out]; exact hashOf_bd _ _
      have b1 := hi_bd h ih
      have b2 := lo_bd h
      have HL : Hid (hi h * 4294967296 + lo h = h) := hi_lo h
      clear ih
      go_enter Try.func5, Try.ntmps5
      go_wp2_with (go_at_call 7; refine (hashed_any _ _ _ H1.out h2).mono ?_; rw [← hh.out]; rintro e w1 ⟨rfl, hl⟩)
      go_ret2
      refine ⟨?_, hl.trans (Low.of ((Below.refl _ _).alloc (by have := hl.size; omega) _))⟩
      show Ending.returned (.tuple #[.int .u64 (hi h * 4294967296 + lo h), .int .i64 0]) = _
      rw [HL.out, hh.out]
    · rw [if_neg (fun h => h2 h.2)]
      have q1 : ((key.size : Int) != 16) = false := by rw [bne_eq_false_iff_eq]; omega
      clear h1
      go_enter Try.func5, Try.ntmps5
      go_wp2_with fail
      go_ret2
      exact ⟨rfl, Low.refl _ _⟩
  · rw [if_neg (fun h => h1 h.1)]
    have q1 : ((key.size : Int) != 16) = true := by rw [bne_iff_ne]; omega
    go_enter Try.func5, Try.ntmps5
    go_wp2_with fail
    go_ret2
    exact ⟨rfl, Low.refl _ _⟩
set_option maxHeartbeats 400000 in
theorem walk (a0 : ByteArray) (a1 : ByteArray) (w1 : a1.size ≤ maxLen) (w : World) :
    Calls Try.prog 3 #[.string a0, .string a1] w fun e w' => e = .returned (.bool true) ∧ Low w.heap.size w w' := by
  by_cases h : a0.size = 16 ∧ a1.size ≤ 400
  · have hp : ∀ w, Calls Try.prog 4 #[.string a0, .string a1] w fun e w' => e = .returned (.tuple #[.int .u64 (hashOf a0 a1), .int .i64 0]) ∧ Low w.heap.size w w' := fun w => by have := Hash_any a0 a1 w w1; rwa [if_pos h] at this
    have hr : ∀ w, Calls Try.prog 5 #[.string a0, .string a1] w fun e w' => e = .returned (.tuple #[.int .u64 (hashOf a0 a1), .int .i64 0]) ∧ Low w.heap.size w w' := fun w => by have := RHash_any a0 a1 w w1; rwa [if_pos h] at this
    have HP : Hid _ := hp
    have HR : Hid _ := hr
    clear hp hr h
    go_enter Try.func3, Try.ntmps3
    go_wp2_with (first | (go_at_call 4; refine (HP.out _).mono ?_; rintro e x1 ⟨rfl, hl1⟩) | (go_at_call 5; refine (HR.out _).mono ?_; rintro e x2 ⟨rfl, hl2⟩))
    go_ret
    exact ⟨by simp, hl1.trans (hl2.mono hl1.size)⟩
  · have hp : ∀ w, Calls Try.prog 4 #[.string a0, .string a1] w fun e w' => e = .returned (.tuple #[.int .u64 0, .int .i64 2]) ∧ Low w.heap.size w w' := fun w => by have := Hash_any a0 a1 w w1; rwa [if_neg h] at this
    have hr : ∀ w, Calls Try.prog 5 #[.string a0, .string a1] w fun e w' => e = .returned (.tuple #[.int .u64 0, .int .i64 2]) ∧ Low w.heap.size w w' := fun w => by have := RHash_any a0 a1 w w1; rwa [if_neg h] at this
    have HP : Hid _ := hp
    have HR : Hid _ := hr
    clear hp hr h
    go_enter Try.func3, Try.ntmps3
    go_wp2_with (first | (go_at_call 4; refine (HP.out _).mono ?_; rintro e x1 ⟨rfl, hl1⟩) | (go_at_call 5; refine (HR.out _).mono ?_; rintro e x2 ⟨rfl, hl2⟩))
    go_ret
    exact ⟨by simp, hl1.trans (hl2.mono hl1.size)⟩
/-! ### THE ROW's STEP: WRITTEN OUT: LEAVE IT -/
set_option maxRecDepth 100000 in
theorem lifted (os : Os) (started : os.Started) (H : Type) (enc : TypeId × Value → H) :
    ReturnsInHanded {} Try.checked os 3 .any (Rows.hashesSpec.pre6 enc Try.prog Try.f3 Rows.hashesRow.domain false) (Rows.hashesSpec.post enc Try.prog Try.f3 false true false false) := by
  refine returnsInHanded_of_change (C := Try.checked) own started (by kernel_rfl) Try.func3
    (ChangeSpec.witness6 (enc := enc) (C := Try.checked) false ⟨#[], #[.string ByteArray.empty, .string ByteArray.empty], []⟩ 8 (by kernel_rfl) (by kernel_rfl) (by kernel_rfl) (by kernel_rfl)) ?_
  intro W base args ds gs before hval0 hW hcnd _
  have hval : ∀ (j : Nat) t v, Try.f3.params[j]? = some t → args[j]? = some v → Value.okWide Try.prog W .any base t v := hval0
  have hW' := hW
  obtain ⟨p, q, hA0, hV, rfl, hfz, hnd⟩ := hW
  have hA : DataW.TrodAll enc Try.prog W 0 (fun _ => true) true Try.f3.params.toList args.toList ds p := hA0
  rw [Try.params3] at hA hval
  obtain ⟨v0, vs0, d0, ds0, p0, q0, hargs, rfl, rfl, h0, r0⟩ := trodAll_cons hA
  obtain ⟨v1, vs1, d1, ds1, p1, q1, rfl, rfl, rfl, h1, r1⟩ := trodAll_cons r0
  obtain ⟨rfl, rfl, rfl⟩ := trodAll_nil r1
  obtain rfl : args = #[v0, v1] := by cases args; simp_all
  obtain ⟨rfl, rfl⟩ := trodVars_none hV
  obtain ⟨a0, rfl, rfl, rfl, w0⟩ := open_string Try.underlying9 (hval 0 9 v0 rfl rfl) h0
  obtain ⟨a1, rfl, rfl, rfl, w1⟩ := open_string Try.underlying9 (hval 1 9 v1 rfl rfl) h1
  clear hA0 hval0
  simp only [List.append_nil] at hW'
  refine (walk a0 a1 w1 W).mono fun e W' ⟨he, hg⟩ => ?_
  subst he
  exact ⟨_, rfl, _, _, _, [], _, [], hW', (trodAll_cons_mk (shut_bool Try.underlying4 _) trodAll_mk0), (trodAll_cons_mk (shut_string Try.underlying9 w0) (trodAll_cons_mk (shut_string Try.underlying9 w1) trodAll_mk0)), rfl, hg.frame _, fun h => by cases h⟩

theorem over : Rows.hashesRow.holds Try.pinned (OpenSpec.ofChange Rows.hashesSpec) :=
  OpenClaim.holds_of_wide 3 Try.f3 rfl rfl rfl rfl rfl rfl rfl ⟨rfl, rfl, rfl, rfl, rfl⟩ rfl rfl rfl rfl rfl (by kernel_rfl) Try.func3 (by kernel_rfl)
    (of_decide_eq_true (by kernel_rfl)) (by unfold Func.isWrapper; first | (rw [if_pos (by decide +kernel)]; kernel_rfl) | (rw [if_neg (by decide +kernel)]; exact ⟨rfl, rfl⟩))
    (fun os started H enc _ => lifted os started H enc)

/-- ████ THE STATEMENT ████ -/
theorem hashes_holds : Rows.HashesSaid :=
  over

end Go.Proofs.Ytphapknfkbgapaa
