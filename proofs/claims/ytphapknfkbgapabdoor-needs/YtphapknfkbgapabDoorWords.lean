import Derived.Test.YtphapknfkbgapabDoorRows
import Derived.Test.YtphapknfkbgapabDoorPlain
import Derived.WalkKit
import Derived.WalkSpells
import Derived.WalkLawsBesides
import Derived.BigRegion
import Derived.Deep.QuietTactic
import Derived.BigQuiet
namespace Go.Proofs.YtphapknfkbgapabDoor
open Go.RowKit
theorem wrap64_small (x : Int) (h0 : 0 ≤ x) (h1 : x < 281474976710656) : wrap64 x = x := by
  unfold wrap64; omega
theorem bcell {W w1 : World} (hb : Below W.heap.size W w1) : (∀ b o, b < W.heap.size → w1.cell? ⟨b, o, none⟩ = W.cell? ⟨b, o, none⟩) ∧ (∀ b o, b < W.heap.size → w1.frozen? ⟨b, o, none⟩ = W.frozen? ⟨b, o, none⟩) :=
  ⟨fun b o h => hb.cell (p := ⟨b, o, none⟩) h, fun b o h => hb.frozen (p := ⟨b, o, none⟩) h⟩
theorem ret_int {k : IntKind} {a b : Int} (h : a = b) : Ending.returned (.int k a) = .returned (.int k b) := by rw [h]
set_option maxHeartbeats 400000 in
theorem read32_any (s : ByteArray) (p : Int) (w : World) (hs : s.size ≤ 1000) (h0 : 0 ≤ p) (hp : p + 4 ≤ s.size) :
    Calls Tryd.prog 83 #[.string s, .int .i64 p] w fun e w' => e = .returned (.int .u32 (rd32 s p.toNat)) ∧ w' = w := by
  obtain ⟨p, rfl⟩ := Int.eq_ofNat_of_zero_le h0
  rw [Int.toNat_natCast]
  go_enter Tryd.func83, Tryd.ntmps83
  go_wp2
  go_loop [5, 6] (fun t i => ∃ j : Nat, j ≤ 4 ∧ i = .int .i64 (3 - j) ∧ t = .int .u32 (acc32 s p j)) (fun _ i => (intOf i + 1).toNat)
  case atStart => exact ⟨0, by omega, rfl, rfl⟩
  case round =>
    obtain ⟨j, hj, rfl, rfl⟩ := hrel
    by_cases hlt : j < 4
    · have hb := byteAt_bd s (p + (3 - j))
      have ha := acc32_bd s p j hlt
      have hg := byteAt_get s (p + (3 - j)) (by omega)
      have HG : Hid (byteAt s (p + (3 - j)) = ((s[p + (3 - j)]'(by omega)).toNat : Int)) := hg
      clear hg
      go_wp2
      go_round
      case rel =>
        refine ⟨j + 1, by omega, by go_num, ?_⟩
        have ej := or32_join _ _ ha.1 ha.2 hb.1 hb.2
        rw [Int.emod_eq_of_lt (a := acc32 s p j * 256) (by omega) (by omega)] at ej
        rw [← HG.out, ej]
        rfl
      case measure => simp [intOf]; omega
    · go_wp2
      go_ret
      have : j = 4 := by omega
      subst this
      exact ⟨ret_int (acc32_four s p), rfl⟩
set_option maxHeartbeats 400000 in
theorem read64_any (s : ByteArray) (p : Int) (w : World) (hs : s.size ≤ 1000) (h0 : 0 ≤ p) (hp : p + 8 ≤ s.size) :
    Calls Tryd.prog 72 #[.string s, .int .i64 p] w fun e w' => e = .returned (.int .u64 (rd64 s p.toNat)) ∧ w' = w := by
  have b1 := rd32_bd s (p + 4).toNat
  have b2 := rd32_bd s p.toNat
  have HE : Hid (rd32 s (p + 4).toNat * 4294967296 + rd32 s p.toNat = rd64 s p.toNat) := by
    show _ = _
    unfold rd64
    rw [show (p + 4).toNat = p.toNat + 4 by omega]
  go_enter Tryd.func72, Tryd.ntmps72
  go_wp2_with (go_at_call 83; refine (read32_any _ _ _ hs (by omega) (by omega)).mono ?_; rintro e w' ⟨rfl, rfl⟩)
  go_ret
  exact ⟨ret_int ((or64_join _ _ b1.1 b1.2 b2.1 b2.2).trans HE.out), rfl⟩
end Go.Proofs.YtphapknfkbgapabDoor
