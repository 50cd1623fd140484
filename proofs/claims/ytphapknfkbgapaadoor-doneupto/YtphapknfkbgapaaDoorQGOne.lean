import Derived.Test.YtphapknfkbgapaaDoorPlIToQF
import Derived.Deep.DeepCutAuto
namespace Go.Proofs.YtphapknfkbgapaaDoor
open Go.RowKit

variable {G : Nat → Prop} {b bx S n : Nat} {R : Int} {key : ByteArray} {X : PS} {D : PD} {Q : Pods}

/-! which; an act. -/
structure AAct where
  kind : Int
  s : Int
  n : Int
  k : Int
  path : ByteArray
  text : ByteArray
  on : Bool
def AAct.cells (a : AAct) : List Value := [.int .i64 a.kind, .int .i64 a.s, .int .i64 a.n, .int .i64 a.k, .string a.path, .string a.text, .bool a.on]
def i64 (c : Int) : Prop := -9223372036854775808 ≤ c ∧ c ≤ 9223372036854775807
structure AOk (a : AAct) : Prop where
  kind : i64 a.kind
  s : i64 a.s
  n : i64 a.n
  k : i64 a.k
  path : a.path.size ≤ 140737488355328
  text : a.text.size ≤ 140737488355328
set_option maxRecDepth 100000 in
set_option maxHeartbeats 1000000 in
theorem which_any (w : World) (p : ByteArray) (hp : p.size ≤ 140737488355328) : Calls Tryd.prog 48 #[.string p] w fun e w' => ∃ k : Nat, e = .returned (.int .i64 (k : Int)) ∧ k < 6 ∧ w' = w := by
  go_enter Tryd.func48, Tryd.ntmps48
  go_wp2_with fail
  go_loopg [3, 4] p.size (fun left nv iv wr => ∃ (i : Nat) (m : Int), left = p.size - i ∧ i ≤ p.size ∧ nv = .int .i64 m ∧ iv = .int .i64 (i : Int) ∧ Hid (0 ≤ m ∧ m ≤ 3 * (p.size : Int) + 255 * (i : Int)) ∧ w = wr)
  case atStart => exact ⟨0, 3 * (p.size : Int), rfl, Nat.zero_le _, rfl, rfl, ⟨by omega, by omega⟩, rfl⟩
  case round =>
    obtain ⟨i, m, hgk, hi, rfl, rfl, HM, rfl⟩ := hrel
    have HGK := hid hgk
    clear hgk
    by_cases h3 : i < p.size
    · have q1 : decide ((i : Int) < (p.size : Int)) = true := by simp; omega
      have il : (i : Int) < (p.size : Int) := by omega
      go_wp2_with fail
      go_roundg (p.size - (i + 1))
      case rel =>
        obtain ⟨hm0, hm1⟩ := HM.out
        have hb := UInt8.toNat_lt (p[i]'h3)
        have e1 : wrap64 ((p[i]'h3).toNat : Int) = ((p[i]'h3).toNat : Int) := by unfold wrap64; omega
        have e2 : wrap64 (m + ((p[i]'h3).toNat : Int)) = m + ((p[i]'h3).toNat : Int) := by unfold wrap64; omega
        refine ⟨i + 1, m + ((p[i]'h3).toNat : Int), rfl, by omega, by rw [e1, e2], by simp, ⟨by omega, by omega⟩, rfl⟩
      case measure => have := HGK.out; omega
    · have q1 : decide ((i : Int) < (p.size : Int)) = false := by simp; omega
      have hm0 : 0 ≤ m := HM.out.1
      have hm1 : m ≤ 9223372036854775807 := by have := HM.out.2; omega
      go_wp2_with (go_at_call 18; refine (pick_some _ _ _ (by omega) (by omega) (by omega) hm1).mono ?_; rintro e y1 ⟨r, rfl, hr, hy⟩; obtain rfl := hy.symm)
      go_ret
      exact ⟨r, rfl, by omega, rfl⟩
end Go.Proofs.YtphapknfkbgapaaDoor
