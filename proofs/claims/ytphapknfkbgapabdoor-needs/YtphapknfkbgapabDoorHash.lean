import Derived.Test.YtphapknfkbgapabDoorRound
import Derived.Test.YtphapknfkbgapabDoorWords
import Derived.Test.YtphapknfkbgapabDoorPad
namespace Go.Proofs.YtphapknfkbgapabDoor
open Go.RowKit

def mix0 (key : ByteArray) : S4 :=
  ⟨xor64 (rd64 key 0) 8317987319222330741, xor64 (rd64 key 8) 7237128888997146477, xor64 (rd64 key 0) 7816392313619706465, xor64 (rd64 key 8) 8387220255154660723⟩
def absorbA (s : ByteArray) (p : Nat) (v : S4) : S4 := rnds 2 ⟨v.a, v.b, v.c, xor64 v.d (rd64 s p)⟩
def absorb1 (s : ByteArray) (p : Nat) (v : S4) : S4 := ⟨xor64 (absorbA s p v).a (rd64 s p), (absorbA s p v).b, (absorbA s p v).c, (absorbA s p v).d⟩
def absorb (s : ByteArray) : Nat → S4 → S4
  | 0, v => v
  | k + 1, v => absorb1 s (8 * k) (absorb s k v)
def fin4 (v : S4) : S4 := rnds 4 ⟨v.a, v.b, xor64 v.c 255, v.d⟩
def fold4 (u : S4) : Int := xor64 (xor64 (xor64 u.a u.b) u.c) u.d
def hashOf (key text : ByteArray) : Int := fold4 (fin4 (absorb (padded text) ((padded text).size / 8) (mix0 key)))

theorem padded_eight (s : ByteArray) : (padded s).size % 8 = 0 := by
  rw [padded_size]; unfold zeros; omega
theorem padded_le (s : ByteArray) (h : s.size ≤ 400) : (padded s).size ≤ 1000 := by
  rw [padded_size]; unfold zeros; omega

set_option maxHeartbeats 400000 in
theorem newMixer_any (key : ByteArray) (w : World) (hk : key.size = 16) :
    Calls Tryd.prog 87 #[.string key] w fun e w' => e = .returned (.agg #[.int .u64 (mix0 key).a, .int .u64 (mix0 key).b, .int .u64 (mix0 key).c, .int .u64 (mix0 key).d]) ∧ Below w.heap.size w w' := by
  have K : Hid (key.size = 16) := hk
  clear hk
  go_enter Tryd.func87, Tryd.ntmps87
  go_wp2_with (go_at_call 72; refine (read64_any _ _ _ (by rw [K.out]; omega) (by omega) (by rw [K.out]; omega)).mono ?_; rintro e w' ⟨rfl, rfl⟩)
  refine bodyPost_ret (v := .agg #[.int .u64 (mix0 key).a, .int .u64 (mix0 key).b, .int .u64 (mix0 key).c, .int .u64 (mix0 key).d]) (by simp [results, Tryd.results87, go_sem, mix0, xor64]) rfl ⟨rfl, ?_⟩
  repeat (first | exact Below.refl _ _ | refine Below.setCell ?_ (Nat.le_refl _) _ | refine Below.alloc ?_ (Nat.le_refl _) _)

theorem Mx.cast {b : Nat} {v v' : S4} {w0 w : World} (h : Mx b v w0 w) (e : v = v') : Mx b v' w0 w := e ▸ h

set_option maxHeartbeats 400000 in
theorem rounds_any (b : Nat) (v : S4) (n : Int) (w0 w : World) (h0 : 0 ≤ n) (h4 : n ≤ 4) (h : Mx b v w0 w) :
    Calls Tryd.prog 89 #[.pointer (some ⟨b, 0, none⟩), .int .i64 n] w fun e w' => e = .returned (.tuple #[]) ∧ Mx b (rnds n.toNat v) w0 w' := by
  obtain ⟨n, rfl⟩ := Int.eq_ofNat_of_zero_le h0
  rw [Int.toNat_natCast]
  have HM : Hid (Mx b v w0 w) := h
  clear h
  go_enter Tryd.func89, Tryd.ntmps89
  go_wp2
  go_loopw [4] (fun i wr => ∃ j : Nat, j ≤ n ∧ i = .int .i64 j ∧ Hid (Mx b (rnds j v) w0 wr)) (fun i _ => n - (intOf i).toNat)
  case atStart => exact ⟨0, Nat.zero_le _, rfl, HM⟩
  case round =>
    obtain ⟨j, hj, rfl, hM⟩ := hrel
    by_cases hlt : j < n
    · go_wp2_with (go_at_call 93; refine (round_any _ _ _ _ hM.out).mono ?_; rintro e w1 ⟨rfl, hM1⟩; have HM1 : Hid _ := hM1; clear hM1)
      go_roundw
      case rel => exact ⟨j + 1, by omega, by go_num, HM1⟩
      case measure => simp [intOf]; omega
    · go_wp2
      go_end0
      have e : j = n := by omega
      subst e
      exact ⟨rfl, hM.out⟩
set_option maxHeartbeats 1000000 in
theorem hash_any (key text : ByteArray) (w : World) (hk : key.size = 16) (ht : text.size ≤ 400) :
    Calls Tryd.prog 84 #[.string key, .string text] w fun e w' => e = .returned (.int .u64 (hashOf key text)) ∧ Low w.heap.size w w' := by
  have hpe : Hid ((padded text).size % 8 = 0) := padded_eight text
  have hpl := padded_le text ht
  go_enter Tryd.func84, Tryd.ntmps84
  go_wp2_with (first | (go_at_call 87; refine (newMixer_any _ _ hk).mono ?_; rintro e w1 ⟨rfl, hb1⟩; obtain ⟨hc1, hf1⟩ := bcell hb1) | (go_at_call 88; refine (pad_any _ _ (by omega)).mono ?_; rintro e w2 ⟨rfl, hb2⟩; have HB2 : Hid _ := hb2; clear hb2))
  have HM : Hid (Mx w1.heap.size (mix0 key) w2 w2) := by
    have hlt : w1.heap.size < (w1.alloc (.cells #[.int .u64 (mix0 key).a, .int .u64 (mix0 key).b, .int .u64 (mix0 key).c, .int .u64 (mix0 key).d] 130)).heap.size := by simp
    exact ⟨(HB2.out.cell (p := ⟨_, 0, none⟩) hlt).trans (by go_simp), (HB2.out.cell (p := ⟨_, 1, none⟩) hlt).trans (by go_simp), (HB2.out.cell (p := ⟨_, 2, none⟩) hlt).trans (by go_simp), (HB2.out.cell (p := ⟨_, 3, none⟩) hlt).trans (by go_simp),
      (HB2.out.frozen (p := ⟨_, 0, none⟩) hlt).trans (by go_simp), (HB2.out.frozen (p := ⟨_, 1, none⟩) hlt).trans (by go_simp), (HB2.out.frozen (p := ⟨_, 2, none⟩) hlt).trans (by go_simp), (HB2.out.frozen (p := ⟨_, 3, none⟩) hlt).trans (by go_simp), Below.refl _ _⟩
  have HL : Hid (Low w.heap.size w w2) := by
    have q := HB2.out.mono (B' := w.heap.size) (by have := hb1.size; simp; omega)
    exact ((Low.of hb1).trans (Low.of ((Below.refl _ _).alloc (by have := hb1.size; omega) _))).trans q
  have hs1 := hb1.size
  clear HB2 hb1
  go_loopw [7] (fun i wr => ∃ k : Nat, 8 * k ≤ (padded text).size ∧ i = .int .i64 (8 * k : Nat) ∧ Hid (Mx w1.heap.size (absorb (padded text) k (mix0 key)) w2 wr)) (fun i _ => (padded text).size - (intOf i).toNat)
  case atStart => exact ⟨0, Nat.zero_le _, rfl, HM⟩
  case round =>
    obtain ⟨k, hk8, rfl, hM⟩ := hrel
    clear HM
    obtain ⟨v, hv⟩ : ∃ v, Hid (v = absorb (padded text) k (mix0 key)) := ⟨_, rfl⟩
    rw [← hv.out] at hM
    obtain ⟨g0, g1, g2, g3, f0, f1, f2, f3, _⟩ := id hM.out
    by_cases hlt : 8 * k < (padded text).size
    · have h8 : 8 * k + 8 ≤ (padded text).size := by have := hpe.out; omega
      go_wp2_with (first | (go_at_call 72; refine (read64_any _ _ _ hpl (by omega) (by omega)).mono ?_; rintro e w3 ⟨rfl, rfl⟩) | (go_at_call 89; refine (rounds_any _ _ _ _ _ (by omega) (by omega) (hM.out.set3 _)).mono ?_; rintro e w4 ⟨rfl, hM4⟩; have HM4 : Hid _ := hM4; obtain ⟨k0, k1, k2, k3, j0, j1, j2, j3, _⟩ := hM4))
      go_roundw
      case rel =>
        refine ⟨k + 1, by omega, by go_num, ?_⟩
        have e : absorb (padded text) (k + 1) (mix0 key) = absorb1 (padded text) (8 * k) v := by rw [hv.out]; rfl
        rw [e]
        exact HM4.out.set0 _
      case measure => simp [intOf]; omega
    · have h8 : 8 * k = (padded text).size := by omega
      go_wp2_with (go_at_call 89; refine (rounds_any _ _ _ _ _ (by omega) (by omega) (hM.out.set2 _)).mono ?_; rintro e w4 ⟨rfl, hM4⟩; have HM4 : Hid _ := hM4; obtain ⟨k0, k1, k2, k3, j0, j1, j2, j3, _⟩ := hM4)
      go_ret
      refine ⟨ret_int ?_, HL.out.trans ((Low.of HM4.out.bel).mono hs1)⟩
      have e : (padded text).size / 8 = k := by omega
      unfold hashOf
      rw [e, ← hv.out]
      rfl
end Go.Proofs.YtphapknfkbgapabDoor
