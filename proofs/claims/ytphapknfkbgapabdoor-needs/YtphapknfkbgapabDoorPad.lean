import Derived.Test.YtphapknfkbgapabDoorRows
import Derived.Test.YtphapknfkbgapabDoorPlain
import Derived.WalkKit
import Derived.WalkSpells
import Derived.WalkLawsBesides
import Derived.Deep.Upon
import Derived.Lib.ConvBytes
import Derived.Laws.IdiomStrings
namespace Go.Proofs.YtphapknfkbgapabDoor
open Go.RowKit

/-- Below block number B all is as it was (of the tape nothing is said). -/
structure Low (B : Nat) (w w' : World) : Prop where
  os : w'.os = w.os
  output : w'.output = w.output
  size : w.heap.size ≤ w'.heap.size
  block : ∀ k, k < B → w'.heap[k]? = w.heap[k]?
theorem Low.of {B : Nat} {w w' : World} (h : Below B w w') : Low B w w' := ⟨h.os, h.output, h.size, h.block⟩
theorem Low.refl (B : Nat) (w : World) : Low B w w := ⟨rfl, rfl, Nat.le_refl _, fun _ _ => rfl⟩
theorem Low.trans {B : Nat} {a b c : World} (h : Low B a b) (k : Low B b c) : Low B a c :=
  ⟨k.os.trans h.os, k.output.trans h.output, Nat.le_trans h.size k.size, fun i hi => (k.block i hi).trans (h.block i hi)⟩
theorem Low.mono {B B' : Nat} {w w' : World} (h : Low B w w') (hB : B' ≤ B) : Low B' w w' := ⟨h.os, h.output, h.size, fun k hk => h.block k (Nat.lt_of_lt_of_le hk hB)⟩
theorem Low.cell {B : Nat} {w w' : World} (h : Low B w w') {p : Addr} (hp : p.block < B) : w'.cell? p = w.cell? p := World.cell?_of_block (w := w) (h.block p.block hp)
theorem Low.frozen {B : Nat} {w w' : World} (h : Low B w w') {p : Addr} (hp : p.block < B) : w'.frozen? p = w.frozen? p := World.frozen?_of_block (w := w) (h.block p.block hp)
theorem Low.frame {W w' : World} (h : Low W.heap.size W w') (may : MemPlace → Prop) : W.keptBut w' may := by
  refine ⟨h.os, h.output, fun i hi => ?_⟩
  rw [h.block i hi]
  split <;> simp_all

def cellsOf (s : ByteArray) : List Value := s.data.toList.map fun b => Value.int .u8 (b.toNat : Int)

theorem came (w : World) (s : ByteArray) :
    Came (Lib.bytesWorld w 5 s) 1 (some ⟨w.heap.size, 0, none⟩) w.heap.size 0 s.size (grownCap w s.size 0 5) (cellsOf s) := by
  have hge := grownCap_ge w s.size 0 5
  have hbs : (Lib.bytesCells w 5 s).size = grownCap w s.size 0 5 := by
    simp only [Lib.bytesCells, Array.size_append, Array.size_map, Array.size_replicate]
    have : s.data.size = s.size := rfl
    omega
  refine ⟨hge, fun _ => rfl, fun _ => by rw [Lib.bytesWorld_size]; omega, by simp [cellsOf], ?_, ?_⟩
  · intro j u hj
    have hjl : j < s.size := by
      have := (List.getElem?_eq_some_iff.1 hj).1
      simpa [cellsOf] using this
    rw [Nat.zero_add, Lib.bytesWorld_cell w 5 s j hjl]
    rw [← hj]
    have hjl' : j < s.data.size := hjl
    simp [cellsOf, Array.getElem?_eq_getElem hjl']
  · intro j hj
    have hlt : s.size + j < (Lib.bytesCells w 5 s).size := by omega
    constructor
    · simp only [World.cell?, Lib.bytesWorld_at_new, Nat.zero_add, Nat.mul_one]
      simp [hlt]
    · simp only [World.frozen?, Lib.bytesWorld_at_new, Nat.zero_add, Nat.mul_one]
      simp
      omega
theorem low_of_upon {w wr : World} {s : ByteArray} {v : Value} {m r len cap : Nat} {ks olds : List Value} {ao : Option Addr}
    (h : Upon (Lib.bytesWorld w 5 s) 5 1 ao w.heap.size 0 len cap olds wr v m ks r) : Low w.heap.size w wr := by
  have hk := h.kept
  have hsz := hk.size
  rw [Lib.bytesWorld_size] at hsz
  refine ⟨hk.1, hk.2.1, by omega, fun k hlt => ?_⟩
  rw [hk.block (i := k) (by rw [Lib.bytesWorld_size]; omega) (fun p hp => by obtain ⟨j, _, rfl⟩ := hp; show w.heap.size ≠ k; omega)]
  exact Lib.bytesWorld_at_old w 5 s k hlt

/-- How many elements a slice has. -/
def lenOf : Value → Nat | .slice _ l _ => l | _ => 0
def zeros (s : ByteArray) : Nat := 7 - s.size % 8
def padded (s : ByteArray) : ByteArray := ⟨(s.data.toList ++ (List.replicate (zeros s) (0 : UInt8) ++ [UInt8.ofNat (s.size % 256)])).toArray⟩
theorem info5 : (Tryd.prog.info? 5).map (fun i => (i.zero, i.size, i.bytes)) = some (some (.int .u8 0), 1, 1) := by kernel_rfl

theorem padded_size (s : ByteArray) : (padded s).size = s.size + (zeros s + 1) := by
  show ((s.data.toList ++ (List.replicate (zeros s) (0 : UInt8) ++ [UInt8.ofNat (s.size % 256)])).toArray).size = _
  simp
theorem pad_back {w w1 : World} {s : ByteArray} {v : Value} {r : Nat} (hs : s.size ≤ 1000)
    (h : Upon (Lib.bytesWorld w 5 s) 5 1 (some ⟨w.heap.size, 0, none⟩) w.heap.size 0 s.size (grownCap w s.size 0 5) (cellsOf s) w1 v (zeros s + 1) (List.replicate (zeros s) (.int .u8 0) ++ [.int .u8 ((s.size : Int) % 256)]) r) :
    ∃ a c, v = .slice a (s.size + (zeros s + 1)) c ∧ (convert 114 9 (.slice a (s.size + (zeros s + 1)) c)).run Tryd.prog w1 = .ok (.string (padded s)) w1 := by
  obtain ⟨g, o', cap', rfl, _, _, hcell⟩ := h.value (came w s) (grownCap_le_maxLen _ _ _ _ (by unfold maxLen; omega)) (Or.inr (by omega))
  refine ⟨_, _, rfl, ?_⟩
  have hl : (padded s).data.toList.length = s.size + (zeros s + 1) := padded_size s
  have e := run_convert_bytes_back (P := Tryd.prog) w1 114 9 5 ⟨g, o', none⟩ cap' (padded s).data.toList Tryd.underlying114 Tryd.underlying5 Tryd.underlying9 (fun j hj => by
    rw [show (⟨g, o', none⟩ : Addr).add j = ⟨g, o' + j, none⟩ by unfold Addr.add; split <;> simp_all]
    rw [hcell j (by omega)]
    have hm : cellsOf s ++ (List.replicate (zeros s) (Value.int .u8 0) ++ [Value.int .u8 ((s.size : Int) % 256)]) = (padded s).data.toList.map fun b => Value.int .u8 (b.toNat : Int) := by
      simp [padded, cellsOf]
    rw [hm, List.getElem?_map, List.getElem?_eq_getElem hj]
    rfl)
  rw [hl] at e
  rw [e]
set_option maxHeartbeats 1000000 in
theorem pad_any (s : ByteArray) (w : World) (hs : s.size ≤ 1000) :
    Calls Tryd.prog 88 #[.string s] w fun e w' => e = .returned (.string (padded s)) ∧ Low w.heap.size w w' := by
  obtain ⟨i0, hi, hz0, hz1, hz2⟩ := info_parts info5
  have hcame := came w s
  have hC : Hid (Came (Lib.bytesWorld w 5 s) 1 (some ⟨w.heap.size, 0, none⟩) w.heap.size 0 s.size (grownCap w s.size 0 5) (cellsOf s)) := hcame
  clear hcame
  have hconv := Lib.run_convert_string_bytes (P := Tryd.prog) w 9 114 5 s Tryd.underlying9 Tryd.underlying114 Tryd.underlying5
  go_enter Tryd.func88, Tryd.ntmps88
  go_wp2
  go_loopw [3] (fun v wr => ∃ j r : Nat, j ≤ zeros s ∧ ∃ a c, v = .slice a (s.size + j) c ∧ Hid (Upon (Lib.bytesWorld w 5 s) 5 1 (some ⟨w.heap.size, 0, none⟩) w.heap.size 0 s.size (grownCap w s.size 0 5) (cellsOf s) wr v j (List.replicate j (.int .u8 0)) r)) (fun v _ => 2000 - lenOf v)
  case atStart => exact ⟨0, 0, Nat.zero_le _, _, _, rfl, Upon.start hC.out⟩
  case round =>
    obtain ⟨j, r, hj, a, c, rfl, hU⟩ := hrel
    clear hconv
    have hzs : zeros s ≤ 7 := by unfold zeros; omega
    by_cases hlt : j < zeros s
    · have hne : (((s.size : Int) + (j : Int)) % 8 != 7) = true := by
        rw [bne_iff_ne]; unfold zeros at hlt; omega
      go_wp2_with (at_builtin; refine wpList_append_upon _ rfl (.tmp 10) (.tmp 11) 114 114 rfl hC.out i0 (.int .u8 0) 1 Tryd.underlying114 hi hz0 hz1 hz2 rfl rfl (hU.out.alloc hC.out _) _ 1 [.int .u8 0] rfl (Src.ofSlice _ Tryd.underlying114 ⟨wr.heap.size, 0, none⟩ 1 1 [.int .u8 0] rfl (cell_one_new _ _ _) (by simp [Value.oneCell'])) (by unfold maxLen; omega) (by omega) ?_; intro v' w1 hU'; obtain ⟨a', c', rfl⟩ := hU'.shape; have HU' : Hid _ := hU'; clear hU')
      go_roundw
      case rel =>
        refine ⟨j + 1, Upon.next s.size (grownCap w s.size 0 5) 1 j r 1, by omega, a', c', rfl, ?_⟩
        rw [List.replicate_succ']
        exact HU'.out
      case measure => simp [lenOf]; omega
    · have hz : j = zeros s := by omega
      subst hz
      have hne : (((s.size : Int) + (zeros s : Int)) % 8 != 7) = false := by
        rw [bne_eq_false_iff_eq]; unfold zeros; omega
      go_wp2_with (at_builtin; refine wpList_append_upon _ rfl (.tmp 13) (.tmp 18) 114 114 rfl hC.out i0 (.int .u8 0) 1 Tryd.underlying114 hi hz0 hz1 hz2 rfl rfl (hU.out.alloc hC.out _) _ 1 [.int .u8 ((s.size : Int) % 256)] rfl (Src.ofSlice _ Tryd.underlying114 ⟨wr.heap.size, 0, none⟩ 1 1 [.int .u8 ((s.size : Int) % 256)] rfl (cell_one_new _ _ _) (by simp [Value.oneCell'])) (by unfold maxLen; omega) (by omega) ?_; intro v' w1 hU'; have hL : Hid _ := low_of_upon hU'; obtain ⟨a', c', rfl, hback⟩ := pad_back hs hU'; clear hU')
      go_ret
      exact ⟨rfl, hL.out⟩
end Go.Proofs.YtphapknfkbgapabDoor
