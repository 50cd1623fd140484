import Derived.Test.YtphapknfkbgapabDoorBlock
import Derived.BigRegion
import Derived.Deep.RegionWith
import Derived.StillTailTactics
import Derived.Deep.CutRange
namespace Go.Proofs.YtphapknfkbgapabDoor
open Go.RowKit

/-! The reference's turns are the machine's. -/
theorem xor32_of (x y : Int) (hx : 0 ≤ x ∧ x < 4294967296) (hy : 0 ≤ y ∧ y < 4294967296) : bits .xor .i64 x y = xor32 x y := by
  unfold xor32
  rw [xor_i64 x y hx.1 hx.2 hy.1 hy.2, u32_xor x y hx.1 hx.2 hy.1 hy.2]
theorem xor32_bd (x y : Int) : 0 ≤ xor32 x y ∧ xor32 x y < 4294967296 := by
  unfold xor32 bits
  rw [IntKind.wrap_u32']
  omega
theorem rot32_bd (k x : Int) : 0 ≤ rot32 k x ∧ rot32 k x < 4294967296 := by
  unfold rot32 bits
  rw [IntKind.wrap_u32']
  omega
theorem add32_bd (x y : Int) : 0 ≤ add32 x y ∧ add32 x y < 4294967296 := by unfold add32; omega
theorem rot32_16 (x : Int) (h0 : 0 ≤ x) (h1 : x < 4294967296) : x * 65536 % 4294967296 + x * 65536 / 4294967296 = rot32 16 x := by
  have e1 : x * 65536 % 4294967296 = (x % 65536) * 65536 := by omega
  have e2 : x * 65536 / 4294967296 = x / 65536 := by omega
  have e : rot32 16 x = bits .or .u32 (x * 65536 % 4294967296) (x / 65536) := rfl
  rw [e, e1, e2, u32_or _ _ (by omega) (by omega) (by omega) (by omega), nat_join 16 _ _ (by omega) (by omega)]
  omega
theorem rot32_12 (x : Int) (h0 : 0 ≤ x) (h1 : x < 4294967296) : x * 4096 % 4294967296 + x * 4096 / 4294967296 = rot32 12 x := by
  have e1 : x * 4096 % 4294967296 = (x % 1048576) * 4096 := by omega
  have e2 : x * 4096 / 4294967296 = x / 1048576 := by omega
  have e : rot32 12 x = bits .or .u32 (x * 4096 % 4294967296) (x / 1048576) := rfl
  rw [e, e1, e2, u32_or _ _ (by omega) (by omega) (by omega) (by omega), nat_join 12 _ _ (by omega) (by omega)]
  omega
theorem rot32_8 (x : Int) (h0 : 0 ≤ x) (h1 : x < 4294967296) : x * 256 % 4294967296 + x * 256 / 4294967296 = rot32 8 x := by
  have e1 : x * 256 % 4294967296 = (x % 16777216) * 256 := by omega
  have e2 : x * 256 / 4294967296 = x / 16777216 := by omega
  have e : rot32 8 x = bits .or .u32 (x * 256 % 4294967296) (x / 16777216) := rfl
  rw [e, e1, e2, u32_or _ _ (by omega) (by omega) (by omega) (by omega), nat_join 8 _ _ (by omega) (by omega)]
  omega
theorem rot32_7 (x : Int) (h0 : 0 ≤ x) (h1 : x < 4294967296) : x * 128 % 4294967296 + x * 128 / 4294967296 = rot32 7 x := by
  have e1 : x * 128 % 4294967296 = (x % 33554432) * 128 := by omega
  have e2 : x * 128 / 4294967296 = x / 33554432 := by omega
  have e : rot32 7 x = bits .or .u32 (x * 128 % 4294967296) (x / 33554432) := rfl
  rw [e, e1, e2, u32_or _ _ (by omega) (by omega) (by omega) (by omega), nat_join 7 _ _ (by omega) (by omega)]
  omega

/-- But for block g all that was there is as it was. -/
structure But (g : Nat) (w w' : World) : Prop where
  os : w'.os = w.os
  tape : w'.tape = w.tape
  output : w'.output = w.output
  size : w.heap.size ≤ w'.heap.size
  block : ∀ k, k < w.heap.size → k ≠ g → w'.heap[k]? = w.heap[k]?
theorem But.refl (g : Nat) (w : World) : But g w w := ⟨rfl, rfl, rfl, Nat.le_refl _, fun _ _ _ => rfl⟩
theorem But.trans {g : Nat} {a b c : World} (h : But g a b) (k : But g b c) : But g a c :=
  ⟨k.os.trans h.os, k.tape.trans h.tape, k.output.trans h.output, Nat.le_trans h.size k.size, fun i hi hn => (k.block i (Nat.lt_of_lt_of_le hi h.size) hn).trans (h.block i hi hn)⟩
theorem But.drew {g : Nat} {a w : World} (h : But g a w) : But g a w.drew := ⟨h.os, h.tape, h.output, h.size, h.block⟩
theorem But.alloc {g : Nat} {a w : World} (h : But g a w) (o : Obj) : But g a (w.alloc o) :=
  h.trans ⟨rfl, rfl, rfl, by simp, fun k hk _ => Below.heap_alloc _ _ _ hk⟩
theorem But.setCell {g : Nat} {a w : World} (h : But g a w) (o : Nat) (v : Value) : But g a (w.setCell ⟨g, o, none⟩ v) :=
  h.trans ⟨rfl, rfl, rfl, by simp [World.setCell], fun k _ hn => Below.heap_setCell _ _ _ _ hn⟩
theorem But.below {B g : Nat} {a w w' : World} (h : Below B a w) (k : But g w w') (hg : B ≤ g) (hB : B ≤ w.heap.size) : Below B a w' :=
  h.trans ⟨k.os, k.tape, k.output, k.size, fun i hi => k.block i (by omega) (by omega)⟩

/-- The reference's words lie in block g. -/
structure Zx (g : Nat) (G : Nat → Int) (w : World) : Prop where
  c : ∀ k, k < 16 → w.cell? ⟨g, k, none⟩ = some (.int .i64 (G k))
  f : ∀ k, k < 16 → w.frozen? ⟨g, k, none⟩ = false
  i : ∀ k, k < 16 → 0 ≤ G k ∧ G k < 4294967296
theorem Zx.drew {g : Nat} {G : Nat → Int} {w : World} (h : Zx g G w) : Zx g G w.drew := ⟨h.c, h.f, h.i⟩
theorem Zx.alloc {g : Nat} {G : Nat → Int} {w : World} (h : Zx g G w) (hg : g < w.heap.size) (o : Obj) : Zx g G (w.alloc o) :=
  ⟨fun k hk => by rw [← h.c k hk]; exact World.cell?_of_block (a := ⟨g, k, none⟩) (Below.heap_alloc w o g hg), fun k hk => by rw [← h.f k hk]; exact World.frozen?_of_block (a := ⟨g, k, none⟩) (Below.heap_alloc w o g hg), h.i⟩
theorem Zx.but {g g' : Nat} {G : Nat → Int} {w w1 : World} (h : Zx g G w) (k : But g' w w1) (hg : g < w.heap.size) (hn : g ≠ g') : Zx g G w1 :=
  ⟨fun i hi => by rw [← h.c i hi]; exact World.cell?_of_block (a := ⟨g, i, none⟩) (k.block g hg hn), fun i hi => by rw [← h.f i hi]; exact World.frozen?_of_block (a := ⟨g, i, none⟩) (k.block g hg hn), h.i⟩
theorem Zx.set {g : Nat} {G : Nat → Int} {w : World} (h : Zx g G w) (m : Nat) (hm : m < 16) (x : Int) (hx : 0 ≤ x ∧ x < 4294967296) : Zx g (upd G m x) (w.setCell ⟨g, m, none⟩ (.int .i64 x)) := by
  refine ⟨fun k hk => ?_, fun k hk => ?_, fun k hk => ?_⟩
  · by_cases e : k = m
    · subst e
      have hc := h.c k hk
      have he : upd G k x k = x := by simp [upd]
      rw [he]
      go_simp
    · rw [World.cell?_setCell_other w ⟨g, m, none⟩ ⟨g, k, none⟩ _ (by first | (simp; done) | (simp; omega)), h.c k hk]
      simp [upd, e]
  · have := h.f k hk
    simpa using this
  · by_cases e : k = m
    · simp [upd, e, hx]
    · simp [upd, e, h.i k hk]

/-- Half a stir: the sum at a, then what stands at d turned. -/
def half (G : Nat → Int) (a b d : Nat) (k : Int) : Nat → Int :=
  upd (upd G a (add32 (G a) (G b))) d (rot32 k (xor32 (G d) (add32 (G a) (G b))))
def halves (G : Nat → Int) (a b c d : Nat) : Nat → (Nat → Int)
  | 0 => G
  | 1 => half G a b d 16
  | 2 => half (half G a b d 16) c d b 12
  | 3 => half (half (half G a b d 16) c d b 12) a b d 8
  | _ => half (half (half (half G a b d 16) c d b 12) a b d 8) c d b 7

/-- Half-way through the reference's stir. -/
structure Tx (g bb : Nat) (J : Nat → Int) (w0 w : World) : Prop where
  z : Zx g J w
  b : But g w0 w
  y0 : w.cell? ⟨bb, 0, none⟩ = some (.int .i64 16)
  y1 : w.cell? ⟨bb, 1, none⟩ = some (.int .i64 12)
  y2 : w.cell? ⟨bb, 2, none⟩ = some (.int .i64 8)
  y3 : w.cell? ⟨bb, 3, none⟩ = some (.int .i64 7)
theorem Tx.set {g bb : Nat} {J : Nat → Int} {w0 w : World} (h : Tx g bb J w0 w) (hn : g ≠ bb) (m : Nat) (hm : m < 16) (x : Int) (hx : 0 ≤ x ∧ x < 4294967296) : Tx g bb (upd J m x) w0 (w.setCell ⟨g, m, none⟩ (.int .i64 x)).drew := by
  obtain ⟨z, b, y0, y1, y2, y3⟩ := h
  have hn' : bb ≠ g := fun e => hn e.symm
  exact ⟨(z.set m hm x hx).drew, (b.setCell _ _).drew, by go_simp, by go_simp, by go_simp, by go_simp⟩

end Go.Proofs.YtphapknfkbgapabDoor
