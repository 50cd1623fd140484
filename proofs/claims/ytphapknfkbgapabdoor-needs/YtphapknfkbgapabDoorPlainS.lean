import Derived.Test.YtphapknfkbgapabDoorPlain
namespace Go.Proofs.YtphapknfkbgapabDoor
open Go.RowKit

/-! Words of 32 bits; a block's words as a function of their place. -/
def add32 (x y : Int) : Int := (x + y) % 4294967296
def xor32 (x y : Int) : Int := bits .xor .u32 x y
def rot32 (k x : Int) : Int := bits .or .u32 (x * 2 ^ k.toNat % 4294967296) (x / 2 ^ (32 - k.toNat))
def upd (g : Nat → Int) (i : Nat) (x : Int) : Nat → Int := fun k => if k = i then x else g k

def qa1 (a b : Int) : Int := add32 a b
def qd1 (a b d : Int) : Int := rot32 16 (xor32 d (qa1 a b))
def qc1 (a b c d : Int) : Int := add32 c (qd1 a b d)
def qb1 (a b c d : Int) : Int := rot32 12 (xor32 b (qc1 a b c d))
def qa2 (a b c d : Int) : Int := add32 (qa1 a b) (qb1 a b c d)
def qd2 (a b c d : Int) : Int := rot32 8 (xor32 (qd1 a b d) (qa2 a b c d))
def qc2 (a b c d : Int) : Int := add32 (qc1 a b c d) (qd2 a b c d)
def qb2 (a b c d : Int) : Int := rot32 7 (xor32 (qb1 a b c d) (qc2 a b c d))

/-- Four of the words stirred. -/
def stirF (g : Nat → Int) (i j k l : Nat) : Nat → Int :=
  upd (upd (upd (upd g i (qa2 (g i) (g j) (g k) (g l))) j (qb2 (g i) (g j) (g k) (g l))) k (qc2 (g i) (g j) (g k) (g l))) l (qd2 (g i) (g j) (g k) (g l))
def stirJ (j : Nat) (g : Nat → Int) : Nat → Int :=
  match j with
  | 0 => stirF g 0 4 8 12
  | 1 => stirF g 1 5 9 13
  | 2 => stirF g 2 6 10 14
  | 3 => stirF g 3 7 11 15
  | 4 => stirF g 0 5 10 15
  | 5 => stirF g 1 6 11 12
  | 6 => stirF g 2 7 8 13
  | _ => stirF g 3 4 9 14
def inner : Nat → (Nat → Int) → (Nat → Int)
  | 0, g => g
  | j + 1, g => stirJ j (inner j g)
def outer : Nat → (Nat → Int) → (Nat → Int)
  | 0, g => g
  | k + 1, g => inner 8 (outer k g)

/-- A word as four bytes. -/
def wr32 (x : Int) : ByteArray := ⟨#[UInt8.ofNat (x % 256).toNat, UInt8.ofNat (x / 256 % 256).toNat, UInt8.ofNat (x / 65536 % 256).toNat, UInt8.ofNat (x / 16777216 % 256).toNat]⟩
def outTo (t g : Nat → Int) : Nat → ByteArray
  | 0 => ⟨#[]⟩
  | k + 1 => outTo t g k ++ wr32 (add32 (t k) (g k))
def blockOf (g : Nat → Int) : ByteArray := outTo (outer 10 g) g 16
theorem wr32_size (x : Int) : (wr32 x).size = 4 := rfl
theorem outTo_size (t g : Nat → Int) (k : Nat) : (outTo t g k).size = 4 * k := by
  induction k with
  | zero => rfl
  | succ k ih => simp only [outTo]; rw [ByteArray.size_append', ih, wr32_size]; omega
theorem blockOf_size (g : Nat → Int) : (blockOf g).size = 64 := outTo_size _ _ 16

/-- The words ahead of all stirring. -/
def fw (key nonce : ByteArray) (c : Int) : Nat → Int := fun k =>
  match k with
  | 0 => 1634760805
  | 1 => 857760878
  | 2 => 2036477234
  | 3 => 1797285236
  | 4 => rd32 key 0
  | 5 => rd32 key 4
  | 6 => rd32 key 8
  | 7 => rd32 key 12
  | 8 => rd32 key 16
  | 9 => rd32 key 20
  | 10 => rd32 key 24
  | 11 => rd32 key 28
  | 12 => c
  | 13 => rd32 nonce 0
  | 14 => rd32 nonce 4
  | 15 => rd32 nonce 8
  | _ => 0
/-- k blocks of the stream. -/
def strTo (key nonce : ByteArray) (c : Int) : Nat → ByteArray
  | 0 => ⟨#[]⟩
  | k + 1 => strTo key nonce c k ++ blockOf (fw key nonce ((c + k) % 4294967296))
theorem strTo_size (key nonce : ByteArray) (c : Int) (k : Nat) : (strTo key nonce c k).size = 64 * k := by
  induction k with
  | zero => rfl
  | succ k ih => simp only [strTo]; rw [ByteArray.size_append', ih, blockOf_size]; omega
def streamOf (key nonce : ByteArray) (c : Int) (n : Nat) : ByteArray := (strTo key nonce c ((n + 63) / 64)).extract 0 n
end Go.Proofs.YtphapknfkbgapabDoor
