import Derived.Test.YtphapknfkbgapabDoorBackWalk
import Derived.Test.YtphapknfkbgapabDoorStreamsWalk
import Derived.Deep.CutRange
import Derived.Deep.RegionHeld3
namespace Go.Proofs.YtphapknfkbgapabDoor
open Go.RowKit

/-- The first k bytes, mixed. -/
def mixP (text over : ByteArray) (k : Nat) : ByteArray := ⟨((List.range k).map fun k => byteN text k ^^^ byteN over k).toArray⟩
theorem mixP_size (text over : ByteArray) (k : Nat) : (mixP text over k).size = k := by
  show (((List.range k).map _).toArray).size = _
  simp
theorem mixP_succ (text over : ByteArray) (k : Nat) : mixP text over k ++ ⟨#[UInt8.ofNat (byteN text k ^^^ byteN over k).toNat]⟩ = mixP text over (k + 1) := by
  unfold mixP
  rw [show (#[UInt8.ofNat (byteN text k ^^^ byteN over k).toNat] : Array UInt8) = [byteN text k ^^^ byteN over k].toArray from by rw [UInt8.ofNat_toNat], ByteArray.mk_append_mk, List.range_succ, List.map_append]
  rfl

theorem conv1g (W : World) (b n : Nat) (hn : n < 256) (h : W.cell? ⟨b, 0, none⟩ = some (.int .u8 (n : Int))) :
    (convert 114 9 (.slice (some ⟨b, 0, none⟩) 1 1)).run Tryd.prog W = .ok (.string ⟨#[UInt8.ofNat n]⟩) W := by
  have e := run_convert_bytes_back (P := Tryd.prog) W 114 9 5 ⟨b, 0, none⟩ 1 [UInt8.ofNat n] Tryd.underlying114 Tryd.underlying5 Tryd.underlying9 (fun j hj => by
    have : j = 0 := by simpa using hj
    subst this
    have hm : n % 256 = n := Nat.mod_eq_of_lt hn
    rw [Addr.add_mid, Nat.zero_add, h]
    simp [hm])
  exact e
theorem low_from {w E w1 : World} (hE : Below w.heap.size w E) (h : Low E.heap.size E w1) : Low w.heap.size w w1 := (Low.of hE).trans (h.mono hE.size)
theorem lcell {W w1 : World} (hb : Low W.heap.size W w1) : (∀ b o, b < W.heap.size → w1.cell? ⟨b, o, none⟩ = W.cell? ⟨b, o, none⟩) ∧ (∀ b o, b < W.heap.size → w1.frozen? ⟨b, o, none⟩ = W.frozen? ⟨b, o, none⟩) :=
  ⟨fun b o h => hb.cell (p := ⟨b, o, none⟩) h, fun b o h => hb.frozen (p := ⟨b, o, none⟩) h⟩
end Go.Proofs.YtphapknfkbgapabDoor
