import Derived.Test.YtphapknfkbgapabDoorRep
namespace Go.Proofs.YtphapknfkbgapabDoor
open Go.RowKit

variable {F : Nat → Prop} {b : Nat} {Y : RS}

def isSrv (n : Nat) (s : Int) : Bool := decide (0 ≤ s) && decide (s < (n : Int))
/-- The number of the last key that wrote in an epoch. -/
def writesR (ks : List RKey) (ep : Int) : Int := match ks with
  | [] => 0
  | k :: r => if decide (0 < k.writes) && decide (k.writes ≤ ep) then (r.length + 1 : Int) else writesR r ep
def writesOf (ks : List RKey) (ep : Int) : Int := writesR ks.reverse ep
theorem writesOf_snoc (l : List RKey) (k : RKey) (ep : Int) : writesOf (l ++ [k]) ep = if decide (0 < k.writes) && decide (k.writes ≤ ep) then (l.length + 1 : Int) else writesOf l ep := by
  simp [writesOf, writesR]
theorem take_snoc {α : Type} {l : List α} {i : Nat} {x : α} (h : l[i]? = some x) : l.take (i + 1) = l.take i ++ [x] := by
  rw [List.take_add_one, h]; rfl
/-- The greatest of the epochs in which a key but the first began to write. -/
def promR (ks : List RKey) : Int := match ks with
  | [] => 0
  | k :: r => if decide (promR r < k.writes) then k.writes else promR r
def promOf (ks : List RKey) : Int := promR (ks.drop 1).reverse
theorem promR_snoc (l : List RKey) (k : RKey) : promR (l ++ [k]).reverse = if decide (promR l.reverse < k.writes) then k.writes else promR l.reverse := by
  simp [promR]
end Go.Proofs.YtphapknfkbgapabDoor
