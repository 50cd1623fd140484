import Derived.Deep.DeepMust
import Derived.Test.YtphapknfkbgapabDoorRefA
import Derived.Deep.Cut
import Derived.Lib.ItoaWalk
import Derived.Deep.RegionLaw
import Derived.Deep.AppendLies
import Derived.Test.YtphapknfkbgapabDoorSealsWalk
import Derived.Deep.RegionHeld3
import Derived.StillTailTactics
import Derived.Deep.DeepCutAuto
import Derived.Deep.OwnRows
namespace Go.Proofs.YtphapknfkbgapabDoor
open Go.RowKit

variable {F : Nat → Prop} {b : Nat} {Y : RS}

/-- What is kept of a list. -/
def keptOf (l : List RKept) : List Ent := (l.filter (fun k => !k.out)).map (·.e)
theorem keptOf_snoc (l : List RKept) (k : RKept) : keptOf (l ++ [k]) = if k.out then keptOf l else keptOf l ++ [k.e] := by
  cases h : k.out <;> simp [keptOf, h]
theorem info50 : (Tryd.prog.info? 65).map (fun i => (i.zero, i.size, i.bytes)) = some (some (.agg #[.string ⟨#[]⟩, .int .i64 0, .int .i64 0, .int .i64 0, .string ⟨#[]⟩, .bool false]), 6, 64) := by kernel_rfl
theorem news50 (w : World) (e : Ent) : ∀ (j : Nat) (u : Value), e.cells[j]? = some u →
    (w.alloc (Obj.cells (List.foldl (fun cs x => cs.setIfInBounds x.snd x.fst) #[Value.string ⟨#[]⟩, Value.int IntKind.i64 0, Value.int IntKind.i64 0, Value.int IntKind.i64 0, Value.string ⟨#[]⟩, Value.bool false] e.cells.zipIdx) 65)).cell? ((⟨w.heap.size, 0, none⟩ : Addr).add j) = some u := by
  intro j u h
  rw [show (List.foldl (fun cs x => cs.setIfInBounds x.snd x.fst) #[Value.string ⟨#[]⟩, Value.int IntKind.i64 0, Value.int IntKind.i64 0, Value.int IntKind.i64 0, Value.string ⟨#[]⟩, Value.bool false] e.cells.zipIdx) = e.cells.toArray from rfl, Addr.add_mid, Nat.zero_add, (Blk.new w 65 e.cells).cell]
  exact h
theorem keptOf_le (l : List RKept) : (keptOf l).length ≤ l.length := by
  simp only [keptOf, List.length_map]; exact List.length_filter_le _ _
/-- The newest entry of a path among these. -/
def lastOf (l : List RKept) (p : ByteArray) : Option Ent := (l.reverse.find? (fun k => !k.out && (k.e.path.toList == p.toList))).map (·.e)
theorem lastOf_snoc (l : List RKept) (k : RKept) (p : ByteArray) : lastOf (l ++ [k]) p = if !k.out && (k.e.path.toList == p.toList) then some k.e else lastOf l p := by
  unfold lastOf
  rw [List.reverse_append]
  simp only [List.reverse_cons, List.reverse_nil, List.nil_append, List.singleton_append, List.find?_cons]
  cases !k.out && (k.e.path.toList == p.toList) <;> rfl
theorem low_set {B : Nat} {w wr w1 : World} {b : Nat} (l : Low B w wr) (k : Kept (fun q => q = b) wr w1) (hb : B ≤ b) (hs : B ≤ wr.heap.size) : Low B w w1 :=
  ⟨k.os.trans l.os, k.output.trans l.output, Nat.le_trans l.size k.size, fun q hq => (k.block q (by omega) (by omega)).trans (l.block q hq)⟩
end Go.Proofs.YtphapknfkbgapabDoor
namespace Go.Proofs.YtphapknfkbgapabDoor
open Go.RowKit

variable {F : Nat → Prop} {b : Nat} {Y : RS}

def isPath (p : ByteArray) : Bool := decide (0 < p.size) && decide (p.size ≤ 16)
def fullOf (Y : RS) : Bool := decide (Y.room ≤ ((keptOf Y.all).length : Int))
/-- The state as it is told. -/
def stCells (rev floor epoch write turn : Int) : List Value := [.int .i64 rev, .int .i64 floor, .int .i64 epoch, .int .i64 write, .int .i64 turn]
theorem sz54 (a b c d e : Int) : (Tryd.prog.info? 68).map (·.size) = some (stCells a b c d e).length := show _ = some 5 by kernel_rfl
/-- The bytes of a draw's nonce. -/
def nonceB (n : Int) (j : Nat) : UInt8 := UInt8.ofNat (n / 256 ^ j % 256).toNat
def nonceTo (n : Int) (k : Nat) : ByteArray := ⟨((List.range k).map (nonceB n)).toArray⟩
theorem nonceTo_size (n : Int) (k : Nat) : (nonceTo n k).size = k := by simp [nonceTo, ByteArray.size]
theorem nonceTo_succ (n : Int) (k : Nat) : nonceTo n (k + 1) = nonceTo n k ++ ⟨#[nonceB n k]⟩ := by
  apply ByteArray.ext
  simp [nonceTo, List.range_succ]
theorem bytes256 (x : Int) (h : 0 ≤ x) : 0 ≤ x / 256 := Int.ediv_nonneg h (by omega)
end Go.Proofs.YtphapknfkbgapabDoor
namespace Go.Proofs.YtphapknfkbgapabDoor
open Go.RowKit

variable {F : Nat → Prop} {b : Nat} {Y : RS}

/-- What opens, and what it is. -/
def openB (key nonce path s : ByteArray) : Bool := decide (rd64 s (s.size - 8) = tagI key nonce path (coverOf s))
def openT (key nonce path s : ByteArray) : ByteArray := if openB key nonce path s then maskOf key nonce (coverOf s) else ⟨#[]⟩
def openE (key nonce path s : ByteArray) : Int := if openB key nonce path s then 0 else 3
/-- What an entry tells to one who has seen an epoch. -/
def openedOf (K : RKey) (e : Ent) (seen : Int) : ByteArray × Int :=
  if decide (seen < K.came) then (⟨#[]⟩, 13) else if K.gone then (⟨#[]⟩, 14) else
  if openB K.text (nonceTo e.draw 12) e.path e.sealed then (maskOf K.text (nonceTo e.draw 12) (coverOf e.sealed), 0) else (⟨#[]⟩, 3)
theorem wrap_id (x : Int) (h0 : -1000000000000000 ≤ x) (h1 : x ≤ 1000000000000000) : IntKind.i64.wrap x = x := by
  rw [IntKind.wrap_i64]; omega
structure EntOk (e : Ent) : Prop where
  path : 1 ≤ e.path.size ∧ e.path.size ≤ 16
  draw : 0 ≤ e.draw ∧ e.draw ≤ 100000000000000
  sealed : 8 ≤ e.sealed.size ∧ e.sealed.size ≤ 72

end Go.Proofs.YtphapknfkbgapabDoor
namespace Go.Proofs.YtphapknfkbgapabDoor
open Go.RowKit

variable {F : Nat → Prop} {b : Nat} {Y : RS}

/-- The entry that a secret comes to be. -/
def closedOf (text : ByteArray) (k : Int) (path plain : ByteArray) (draw : Int) : Ent := ⟨path, 0, k, draw, sealOf text (nonceTo draw 12) path plain, false⟩
end Go.Proofs.YtphapknfkbgapabDoor
namespace Go.Proofs.YtphapknfkbgapabDoor
open Go.RowKit

variable {F : Nat → Prop} {b : Nat} {Y : RS}
theorem beq0 (n : Nat) : ((n : Int) == 0) = (n == 0) := by
  cases n with
  | zero => rfl
  | succ n => simp; omega
structure AOp where
  kind : Int
  path : ByteArray
  plain : ByteArray
  rev : Int
def AOp.cells (o : AOp) : List Value := [.int .i64 o.kind, .string o.path, .string o.plain, .int .i64 o.rev]
def properOf (o : AOp) : Bool := (isPath o.path && decide (-1 ≤ o.rev)) && ((o.kind == 1 && decide (o.plain.size ≤ 64)) || (o.kind == 2 && (o.plain.size == 0)))
theorem isSrv_iff (n : Nat) (s : Int) : isSrv n s = true ↔ 0 ≤ s ∧ s < (n : Int) := by simp [isSrv]
/-- The document's Refresh. -/
def RS.refresh (Y : RS) (s : Int) : RS := { Y with seen := Y.seen.set s.toNat Y.epoch }
def RS.crash (Y : RS) (s : Int) : RS := { Y with seen := Y.seen.set s.toNat 0, ops := Y.ops.set s.toNat RUnd.zero }
end Go.Proofs.YtphapknfkbgapabDoor
namespace Go.Proofs.YtphapknfkbgapabDoor
open Go.RowKit

variable {F : Nat → Prop} {b : Nat} {Y : RS}

/-- A server's place in the lists. -/
structure At (Y : RS) (i : Nat) (sn : Int) (u : RUnd) : Prop where
  seen : Y.seen[i]? = some sn
  op : Y.ops[i]? = some u
theorem At.len {i : Nat} {sn : Int} {u : RUnd} (ha : At Y i sn u) : i < Y.seen.length ∧ i < Y.ops.length :=
  ⟨(List.getElem?_eq_some_iff.1 ha.seen).1, (List.getElem?_eq_some_iff.1 ha.op).1⟩
theorem At.srv {i : Nat} {sn : Int} {u : RUnd} (ha : At Y i sn u) : isSrv Y.seen.length (i : Int) = true := by
  have := ha.len.1
  rw [isSrv_iff]; omega
end Go.Proofs.YtphapknfkbgapabDoor
namespace Go.Proofs.YtphapknfkbgapabDoor
open Go.RowKit

variable {F : Nat → Prop} {b : Nat} {Y : RS}

theorem setCells_drew (b : Nat) : ∀ (vs : List Value) (o : Nat) (w : World), w.drew.setCells b o vs = (w.setCells b o vs).drew
  | [], _, _ => rfl
  | v :: r, o, w => setCells_drew b r (o + 1) (w.setCell ⟨b, o, none⟩ v)
theorem there_drew {w : World} {b o n : Nat} (h : w.there b o n) : w.drew.there b o n := (World.there_drew w b o n).2 h
def delEnt (path : ByteArray) : Ent := ⟨path, 0, 0, 0, ⟨#[]⟩, true⟩
def RS.setOp (Y : RS) (i : Nat) (u : RUnd) : RS := { Y with ops := Y.ops.set i u }
end Go.Proofs.YtphapknfkbgapabDoor
namespace Go.Proofs.YtphapknfkbgapabDoor
open Go.RowKit

variable {F : Nat → Prop} {b : Nat} {Y : RS}

theorem RUnd.range {w : World} {g o : Nat} {u : RUnd} (hc : ∀ j, j < 9 → w.cell? ⟨g, o + j, none⟩ = u.cells[j]?) : w.rangeAt g o u.cells := range_of hc (fun _ _ e => ⟨(List.getElem?_eq_some_iff.1 e).1, e⟩)
/-- Is there a secret, of which revision? -/
def thereOf (L : Option Ent) : Bool := L.isSome && !(L.getD Ent.zero).gone
def conflictOf (L : Option Ent) (want : Int) : Bool := (want == 0 && thereOf L) || (decide (0 < want) && (!thereOf L || ((L.getD Ent.zero).rev != want)))
/-- Why an operation may not be committed. -/
def commitErr (Y : RS) (u : RUnd) : Int :=
  if decide (u.epoch < promOf Y.keys) then 9 else if conflictOf (lastOf Y.all u.e.path) u.want then 10 else if u.e.gone && !thereOf (lastOf Y.all u.e.path) then 12 else if fullOf Y then 11 else 0
end Go.Proofs.YtphapknfkbgapabDoor
namespace Go.Proofs.YtphapknfkbgapabDoor
open Go.RowKit

variable {F : Nat → Prop} {b : Nat} {Y : RS}

theorem flat_set1 {α : Type} (k : Nat) (f : α → List Value) (hf : ∀ x, (f x).length = k) (l : List α) (i q : Nat) (x x' : α) (hx : l[i]? = some x) (hq : q < k) (u : Value) (hx' : f x' = (f x).set q u) : (l.flatMap f).set (i * k + q) u = (l.set i x').flatMap f := by
  have hi : i < l.length := (List.getElem?_eq_some_iff.1 hx).1
  rw [← flat_set k f hf l i x' hi]
  have hL := flat_length k f hf l
  have hle : (i + 1) * k ≤ l.length * k := Nat.mul_le_mul_right _ hi
  rw [Nat.add_mul] at hle
  apply List.ext_getElem?
  intro p
  rw [over_at _ _ _ _ (by rw [hL, hf]; omega), hf]
  by_cases h1 : p = i * k + q
  · subst h1
    rw [List.getElem?_set_self (by rw [hL]; omega), if_pos (by omega), Nat.add_sub_cancel_left, hx', List.getElem?_set_self (by rw [hf]; exact hq)]
  · rw [List.getElem?_set_ne (fun e => h1 e.symm)]
    by_cases h2 : i * k ≤ p ∧ p < i * k + k
    · rw [if_pos h2, hx', List.getElem?_set_ne (by omega)]
      obtain ⟨c, rfl⟩ : ∃ c, p = i * k + c := ⟨p - i * k, by omega⟩
      rw [Nat.add_sub_cancel_left, flat_at k f hf l i c x hx (by omega)]
    · rw [if_neg h2]
theorem own_cellSet {w : World} {t : TypeId} {C : List Value} {R : List Row} (h : Own w F b t C R) (j : Nat) {off : Nat} {e : TypeId} {k : Nat} {α : Type} {l : List α} {f : α → List Value} (hf : ∀ x, (f x).length = k) (hj : R[j]? = some ⟨off, e, k, l.length, l.flatMap f⟩)
    {g cap : Nat} (hv : C[off]? = some (.slice (some ⟨g, 0, none⟩) l.length cap)) (i : Nat) (x x' : α) (hx : l[i]? = some x) (q : Nat) (hq : q < k) (u : Value) (hx' : f x' = (f x).set q u) :
    Own (w.setCell ⟨g, i * k + q, none⟩ u) F b t C (R.set j ⟨off, e, k, l.length, (l.set i x').flatMap f⟩) ∧ Kept F w (w.setCell ⟨g, i * k + q, none⟩ u) := by
  obtain ⟨v0, hv0, ho, hF⟩ := h.row j hj
  obtain rfl : v0 = .slice (some ⟨g, 0, none⟩) l.length cap := Option.some.inj (hv0.symm.trans hv)
  have hk : Kept (fun p => (Value.slice (some ⟨g, 0, none⟩) l.length cap).ownBlock = some p) w (w.setCell ⟨g, i * k + q, none⟩ u) :=
    (setCell_kept w ⟨g, i * k + q, none⟩ u).mono (fun p _ (e : p = g) => by rw [e]; rfl)
  have h2 := h.rowSet j hj hv0 hk (ho.stored (i * k + q) u).1
  rw [flat_set1 k f hf l i q x x' hx hq u hx'] at h2
  exact ⟨h2, hk.mono (fun p _ e => hF p e)⟩
/-- Is the j-th entry given up, when all is compacted up to r? -/
def outAt (all : List RKept) (r j : Nat) : Bool := match all[j]? with
  | some k => (((lastOf (all.take r) k.e.path).getD Ent.zero).rev != (j : Int) + 1) || ((lastOf (all.take r) k.e.path).getD Ent.zero).gone
  | none => false
def allTo (all : List RKept) (f : Nat → Bool) (n : Nat) : List RKept := all.mapIdx (fun j k => if j < n then { k with out := k.out || f j } else k)
theorem allTo_zero (all : List RKept) (f : Nat → Bool) : allTo all f 0 = all := by
  apply List.ext_getElem?
  intro p
  simp [allTo, List.getElem?_mapIdx]
theorem allTo_len (all : List RKept) (f : Nat → Bool) (n : Nat) : (allTo all f n).length = all.length := by simp [allTo]
theorem allTo_at (all : List RKept) (f : Nat → Bool) (n : Nat) (k : RKept) (h : all[n]? = some k) : (allTo all f n)[n]? = some k := by
  simp [allTo, List.getElem?_mapIdx, h]
theorem allTo_succ (all : List RKept) (f : Nat → Bool) (n : Nat) (k : RKept) (h : all[n]? = some k) : (allTo all f n).set n { k with out := k.out || f n } = allTo all f (n + 1) := by
  have hn : n < all.length := (List.getElem?_eq_some_iff.1 h).1
  apply List.ext_getElem?
  intro p
  by_cases hp : p = n
  · subst hp
    rw [List.getElem?_set_self (by rw [allTo_len]; exact hn)]
    simp [allTo, List.getElem?_mapIdx, h]
  · rw [List.getElem?_set_ne (fun e => hp e.symm)]
    simp only [allTo, List.getElem?_mapIdx]
    cases all[p]? with
    | none => rfl
    | some k2 =>
      simp only [Option.map_some]
      by_cases h2 : p < n
      · rw [if_pos h2, if_pos (by omega)]
      · rw [if_neg h2, if_neg (by omega)]
def boolsTo (f : Nat → Bool) (i r : Nat) : List Value := (List.range r).map (fun j => .bool (if j < i then f j else false))
theorem boolsTo_len (f : Nat → Bool) (i r : Nat) : (boolsTo f i r).length = r := by simp [boolsTo]
theorem boolsTo_succ (f : Nat → Bool) (i r : Nat) : (boolsTo f i r).set i (.bool (f i)) = boolsTo f (i + 1) r := by
  apply List.ext_getElem?
  intro p
  by_cases hr : p < r
  · by_cases hp : p = i
    · subst hp
      rw [List.getElem?_set_self (by rw [boolsTo_len]; exact hr)]
      simp [boolsTo, hr]
    · rw [List.getElem?_set_ne (fun e => hp e.symm)]
      simp only [boolsTo, List.getElem?_map, List.getElem?_range hr, Option.map_some]
      by_cases h2 : p < i
      · rw [if_pos h2, if_pos (by omega)]
      · rw [if_neg h2, if_neg (by omega)]
  · rw [List.getElem?_eq_none (by rw [List.length_set, boolsTo_len]; omega), List.getElem?_eq_none (by rw [boolsTo_len]; omega)]
theorem boolsTo_zero (f : Nat → Bool) (r : Nat) : boolsTo f 0 r = List.replicate r (.bool false) := by
  apply List.ext_getElem?
  intro p
  by_cases hr : p < r
  · simp [boolsTo, hr]
  · rw [List.getElem?_eq_none (by rw [boolsTo_len]; omega), List.getElem?_eq_none (by simp; omega)]
theorem boolsTo_at (f : Nat → Bool) (i r j : Nat) (h : j < r) : (boolsTo f i r)[j]? = some (.bool (if j < i then f j else false)) := by simp [boolsTo, h]
theorem made_bools (f : Nat → Bool) (r : Nat) : madeCells #[Value.bool false] r = (boolsTo f 0 r).toArray := by
  rw [boolsTo_zero, ← toList_madeCells_one]
theorem info4 : (Tryd.prog.info? 4).map (fun i => (i.zero, i.size, i.bytes)) = some (some (.bool false), 1, 1) := by kernel_rfl
def badCut (Y : RS) (rev : Int) : Bool := decide (rev ≤ Y.floor) || decide ((Y.all.length : Int) < rev)
def RS.compact (Y : RS) (r : Nat) : RS := { Y with floor := r, all := allTo Y.all (outAt Y.all r) r }
end Go.Proofs.YtphapknfkbgapabDoor
namespace Go.Proofs.YtphapknfkbgapabDoor
open Go.RowKit

variable {F : Nat → Prop} {b : Nat} {Y : RS}

/-- Behind an append the struct is as it was. -/
theorem kept_cell {w w1 : World} {v u : Value} {o : Obj} {b i : Nat} (k : Kept (fun q => v.ownBlock = some q) (w.alloc o) w1) (hb : b < w.heap.size) (hn : v.ownBlock ≠ some b) (hc : w.cell? ⟨b, i, none⟩ = some u) : w1.cell? ⟨b, i, none⟩ = some u :=
  Kept.cell k ((World.cell?_alloc_lt w _ _ hb).trans hc) hn
theorem kept_frozen {w w1 : World} {v : Value} {o : Obj} {b i : Nat} (k : Kept (fun q => v.ownBlock = some q) (w.alloc o) w1) (hb : b < w.heap.size) (hn : v.ownBlock ≠ some b) (hf : w.frozen? ⟨b, i, none⟩ = false) : w1.frozen? ⟨b, i, none⟩ = false :=
  (Kept.frozen k (by simp; omega) hn).trans ((World.frozen?_alloc_past _ _ _ hb).trans hf)
def RS.first (servers room : Int) (key : ByteArray) : RS := ⟨servers, room, key, [], [], [], [], 1, 0, 0, 0, [0, 0, 0, 0, 0, 0, 0, 0], []⟩
def RKey.one1 (key : ByteArray) : RKey := ⟨key, 1, 1, false⟩
def RS.upTo (servers room : Int) (key : ByteArray) (i : Nat) : RS := { RS.first servers room key with keys := [RKey.one1 key], seen := List.replicate i 0, ops := List.replicate i RUnd.zero }
def RS.new (servers room : Int) (key : ByteArray) : RS := { RS.upTo servers room key servers.toNat with node := [-1, -1, -1, -1, -1, -1, -1, -1] }
def cfgOk (servers room : Int) (key : ByteArray) : Bool := decide (1 ≤ servers ∧ servers ≤ 4 ∧ 1 ≤ room ∧ room ≤ 60) && (key.size == 48)
def cfgL (servers room : Int) (key : ByteArray) : List Value := [.int .i64 servers, .int .i64 room, .string key]
end Go.Proofs.YtphapknfkbgapabDoor
namespace Go.Proofs.YtphapknfkbgapabDoor
open Go.RowKit

/-! The program's coffer as plain data, and how it lies in memory. -/

structure PKey where
  text : ByteArray
  came : Int
  wrote : Int
def PKey.cells (k : PKey) : List Value := [.string k.text, .int .i64 k.came, .int .i64 k.wrote]
structure PSrv where
  seen : Int
  busy : Bool
  epoch : Int
  rev : Int
  e : Ent
def PSrv.zero : PSrv := ⟨0, false, 0, 0, Ent.zero⟩
def PSrv.cells (s : PSrv) : List Value := [.int .i64 s.seen, .bool s.busy, .int .i64 s.epoch, .int .i64 s.rev, .string s.e.path, .int .i64 s.e.rev, .int .i64 s.e.key, .int .i64 s.e.draw, .string s.e.sealed, .bool s.e.gone]
structure PPod where
  node : Int
  needs : List ByteArray
def str (p : ByteArray) : List Value := [.string p]
theorem str_len (p : ByteArray) : (str p).length = 1 := rfl
structure PS where
  rev : Int
  floor : Int
  epoch : Int
  write : Int
  turn : Int
  room : Int
  draws : Int
  keys : List PKey
  servers : List PSrv
  entries : List Ent
  pods : Nat → PPod
def PS.cells (X : PS) (vK vS vE : Value) (vN : Nat → Value) : List Value := [.int .i64 X.rev, .int .i64 X.floor, .int .i64 X.epoch, .int .i64 X.write, .int .i64 X.turn, .int .i64 X.room, .int .i64 X.draws, vK, vS, vE, .int .i64 (X.pods 0).node, vN 0, .int .i64 (X.pods 1).node, vN 1, .int .i64 (X.pods 2).node, vN 2, .int .i64 (X.pods 3).node, vN 3, .int .i64 (X.pods 4).node, vN 4, .int .i64 (X.pods 5).node, vN 5, .int .i64 (X.pods 6).node, vN 6, .int .i64 (X.pods 7).node, vN 7]
def PS.rows (X : PS) : List Row := [⟨7, 81, 3, X.keys.length, X.keys.flatMap PKey.cells⟩, ⟨8, 86, 10, X.servers.length, X.servers.flatMap PSrv.cells⟩, ⟨9, 65, 6, X.entries.length, X.entries.flatMap Ent.cells⟩, ⟨11, 9, 1, (X.pods 0).needs.length, (X.pods 0).needs.flatMap str⟩, ⟨13, 9, 1, (X.pods 1).needs.length, (X.pods 1).needs.flatMap str⟩, ⟨15, 9, 1, (X.pods 2).needs.length, (X.pods 2).needs.flatMap str⟩, ⟨17, 9, 1, (X.pods 3).needs.length, (X.pods 3).needs.flatMap str⟩, ⟨19, 9, 1, (X.pods 4).needs.length, (X.pods 4).needs.flatMap str⟩, ⟨21, 9, 1, (X.pods 5).needs.length, (X.pods 5).needs.flatMap str⟩, ⟨23, 9, 1, (X.pods 6).needs.length, (X.pods 6).needs.flatMap str⟩, ⟨25, 9, 1, (X.pods 7).needs.length, (X.pods 7).needs.flatMap str⟩]
/-- The program's coffer X lies at block b, in blocks of F. -/
def XIn (w : World) (F : Nat → Prop) (b : Nat) (X : PS) : Prop := ∃ vK vS vE vN, (∀ i, (vN i : Value).ownBlock ≠ some 0) ∧ Own w F b 75 (X.cells vK vS vE vN) X.rows
theorem PKey.len (e : PKey) : e.cells.length = 3 := rfl
theorem PSrv.len (e : PSrv) : e.cells.length = 10 := rfl
theorem sz56 (e : PKey) : (Tryd.prog.info? 81).map (·.size) = some e.cells.length := show _ = some 3 by kernel_rfl
theorem sz96 (e : PSrv) : (Tryd.prog.info? 86).map (·.size) = some e.cells.length := show _ = some 10 by kernel_rfl
theorem PKey.one (e : PKey) : ∀ v ∈ e.cells, v.oneCell' = true := by simp [PKey.cells, Value.oneCell']
theorem PSrv.one (e : PSrv) : ∀ v ∈ e.cells, v.oneCell' = true := by simp [PSrv.cells, Value.oneCell']
theorem PS.offs (X : PS) (j : Nat) {r : Row} (hj : X.rows[j]? = some r) : ∀ i s, X.rows[i]? = some s → i ≠ j → s.off ≠ r.off := by
  intro i s hi hne e
  have hm : X.rows.map Row.off = [7, 8, 9, 11, 13, 15, 17, 19, 21, 23, 25] := rfl
  have a1 : ([7, 8, 9, 11, 13, 15, 17, 19, 21, 23, 25] : List Nat)[i]? = some s.off := by rw [← hm, List.getElem?_map, hi]; rfl
  have a2 : ([7, 8, 9, 11, 13, 15, 17, 19, 21, 23, 25] : List Nat)[j]? = some r.off := by rw [← hm, List.getElem?_map, hj]; rfl
  rw [e] at a1
  exact hne ((List.getElem?_inj (List.getElem?_eq_some_iff.1 a1).1 (by decide)).1 (a1.trans a2.symm))
variable {w w' : World} {F G : Nat → Prop} {b : Nat} {X : PS}
theorem XIn.kept (h : XIn w F b X) (k : Kept G w w') (hd : ∀ i, F i → ¬ G i) : XIn w' F b X := by
  obtain ⟨vK, vS, vE, vN, hN, h⟩ := h
  exact ⟨vK, vS, vE, vN, hN, h.kept k hd⟩
theorem XIn.low (h : XIn w F b X) (k : Low w.heap.size w w') : XIn w' F b X := h.kept k.kept (fun _ _ f => f)
theorem XIn.alloc (h : XIn w F b X) (o : Obj) : XIn (w.alloc o) F b X := h.low ((Low.refl _ w).alloc (Nat.le_refl _) o)
theorem XIn.drew (h : XIn w F b X) : XIn w.drew F b X := h.low (Low.refl _ w).drew
theorem XIn.lt (h : XIn w F b X) : b < w.heap.size := by
  obtain ⟨vK, vS, vE, vN, hN, h⟩ := h
  exact h.lt
theorem XIn.below (h : XIn w F b X) : ∀ k, F k → k < w.heap.size := by
  obtain ⟨vK, vS, vE, vN, hN, h⟩ := h
  exact h.below
theorem XIn.inF (h : XIn w F b X) : F b := by
  obtain ⟨vK, vS, vE, vN, hN, h⟩ := h
  exact h.inF
theorem XIn.frozen (h : XIn w F b X) (i : Nat) : w.frozen? ⟨b, i, none⟩ = false := by
  obtain ⟨vK, vS, vE, vN, hN, h⟩ := h
  exact h.frozen i
theorem XIn.more (h : XIn w F b X) (hs : ∀ k, F k → G k) (hb : ∀ k, G k → k < w.heap.size) : XIn w G b X := by
  obtain ⟨vK, vS, vE, vN, hN, h⟩ := h
  exact ⟨vK, vS, vE, vN, hN, h.more hs hb⟩
theorem xin_keys (h : XIn w F b X) : Sl w b 7 3 (X.keys.map PKey.cells) := by
  obtain ⟨vK, vS, vE, vN, hN, h⟩ := h
  exact h.sl 0 PKey.len rfl
theorem xin_servers (h : XIn w F b X) : Sl w b 8 10 (X.servers.map PSrv.cells) := by
  obtain ⟨vK, vS, vE, vN, hN, h⟩ := h
  exact h.sl 1 PSrv.len rfl
theorem xin_entries (h : XIn w F b X) : Sl w b 9 6 (X.entries.map Ent.cells) := by
  obtain ⟨vK, vS, vE, vN, hN, h⟩ := h
  exact h.sl 2 Ent.len rfl
theorem xin_rev (h : XIn w F b X) : w.cell? ⟨b, 0, none⟩ = some (.int .i64 X.rev) := by
  obtain ⟨vK, vS, vE, vN, hN, h⟩ := h
  exact h.cell 0
theorem xin_set_rev (h : XIn w F b X) (n : Int) : XIn (w.setCell ⟨b, 0, none⟩ (.int .i64 n)) F b { X with rev := n } := by
  obtain ⟨vK, vS, vE, vN, hN, h⟩ := h
  exact ⟨vK, vS, vE, vN, hN, (h.set 0 (.int .i64 n) (by simp [PS.rows])).cast rfl rfl⟩
theorem xin_floor (h : XIn w F b X) : w.cell? ⟨b, 1, none⟩ = some (.int .i64 X.floor) := by
  obtain ⟨vK, vS, vE, vN, hN, h⟩ := h
  exact h.cell 1
theorem xin_set_floor (h : XIn w F b X) (n : Int) : XIn (w.setCell ⟨b, 1, none⟩ (.int .i64 n)) F b { X with floor := n } := by
  obtain ⟨vK, vS, vE, vN, hN, h⟩ := h
  exact ⟨vK, vS, vE, vN, hN, (h.set 1 (.int .i64 n) (by simp [PS.rows])).cast rfl rfl⟩
theorem xin_epoch (h : XIn w F b X) : w.cell? ⟨b, 2, none⟩ = some (.int .i64 X.epoch) := by
  obtain ⟨vK, vS, vE, vN, hN, h⟩ := h
  exact h.cell 2
theorem xin_set_epoch (h : XIn w F b X) (n : Int) : XIn (w.setCell ⟨b, 2, none⟩ (.int .i64 n)) F b { X with epoch := n } := by
  obtain ⟨vK, vS, vE, vN, hN, h⟩ := h
  exact ⟨vK, vS, vE, vN, hN, (h.set 2 (.int .i64 n) (by simp [PS.rows])).cast rfl rfl⟩
theorem xin_write (h : XIn w F b X) : w.cell? ⟨b, 3, none⟩ = some (.int .i64 X.write) := by
  obtain ⟨vK, vS, vE, vN, hN, h⟩ := h
  exact h.cell 3
theorem xin_set_write (h : XIn w F b X) (n : Int) : XIn (w.setCell ⟨b, 3, none⟩ (.int .i64 n)) F b { X with write := n } := by
  obtain ⟨vK, vS, vE, vN, hN, h⟩ := h
  exact ⟨vK, vS, vE, vN, hN, (h.set 3 (.int .i64 n) (by simp [PS.rows])).cast rfl rfl⟩
theorem xin_turn (h : XIn w F b X) : w.cell? ⟨b, 4, none⟩ = some (.int .i64 X.turn) := by
  obtain ⟨vK, vS, vE, vN, hN, h⟩ := h
  exact h.cell 4
theorem xin_set_turn (h : XIn w F b X) (n : Int) : XIn (w.setCell ⟨b, 4, none⟩ (.int .i64 n)) F b { X with turn := n } := by
  obtain ⟨vK, vS, vE, vN, hN, h⟩ := h
  exact ⟨vK, vS, vE, vN, hN, (h.set 4 (.int .i64 n) (by simp [PS.rows])).cast rfl rfl⟩
theorem xin_room (h : XIn w F b X) : w.cell? ⟨b, 5, none⟩ = some (.int .i64 X.room) := by
  obtain ⟨vK, vS, vE, vN, hN, h⟩ := h
  exact h.cell 5
theorem xin_set_room (h : XIn w F b X) (n : Int) : XIn (w.setCell ⟨b, 5, none⟩ (.int .i64 n)) F b { X with room := n } := by
  obtain ⟨vK, vS, vE, vN, hN, h⟩ := h
  exact ⟨vK, vS, vE, vN, hN, (h.set 5 (.int .i64 n) (by simp [PS.rows])).cast rfl rfl⟩
theorem xin_draws (h : XIn w F b X) : w.cell? ⟨b, 6, none⟩ = some (.int .i64 X.draws) := by
  obtain ⟨vK, vS, vE, vN, hN, h⟩ := h
  exact h.cell 6
theorem xin_set_draws (h : XIn w F b X) (n : Int) : XIn (w.setCell ⟨b, 6, none⟩ (.int .i64 n)) F b { X with draws := n } := by
  obtain ⟨vK, vS, vE, vN, hN, h⟩ := h
  exact ⟨vK, vS, vE, vN, hN, (h.set 6 (.int .i64 n) (by simp [PS.rows])).cast rfl rfl⟩
theorem xin_srvAt {i : Nat} {s : PSrv} (h : XIn w F b X) (ha : X.servers[i]? = some s) : ∃ g cap, w.cell? ⟨b, 8, none⟩ = some (.slice (some ⟨g, 0, none⟩) X.servers.length cap) ∧ g < w.heap.size ∧ (∀ j, j < 10 → w.cell? ⟨g, i * 10 + j, none⟩ = s.cells[j]?) ∧ ∀ j, w.frozen? ⟨g, j, none⟩ = false := by
  obtain ⟨a, cap, hc, hel⟩ := xin_servers h
  rw [List.length_map] at hc
  obtain ⟨g, rfl, hg, hcs, hf⟩ := hel i s.cells (by rw [List.getElem?_map, ha]; rfl)
  exact ⟨g, cap, hc, hg, hcs, hf⟩
theorem xin_keyAt {i : Nat} {K : PKey} (h : XIn w F b X) (hk : X.keys[i]? = some K) : ∃ g cap, w.cell? ⟨b, 7, none⟩ = some (.slice (some ⟨g, 0, none⟩) X.keys.length cap) ∧ g < w.heap.size ∧ (∀ j, j < 3 → w.cell? ⟨g, i * 3 + j, none⟩ = K.cells[j]?) := by
  obtain ⟨a, cap, hc, hel⟩ := xin_keys h
  rw [List.length_map] at hc
  obtain ⟨g, rfl, hg, hcs, _⟩ := hel i K.cells (by rw [List.getElem?_map, hk]; rfl)
  exact ⟨g, cap, hc, hg, hcs⟩
theorem xin_putSrv (h : XIn w F b X) {g cap : Nat} (hc : w.cell? ⟨b, 8, none⟩ = some (.slice (some ⟨g, 0, none⟩) X.servers.length cap)) (i : Nat) (hi : i < X.servers.length) (u : PSrv) :
    XIn (w.setCells g (i * 10) u.cells) F b { X with servers := X.servers.set i u } ∧ Kept F w (w.setCells g (i * 10) u.cells) ∧ w.there g (i * 10) 10 := by
  obtain ⟨vK, vS, vE, vN, hN, hO⟩ := h
  obtain rfl : vS = _ := Option.some.inj ((hO.cell 8).symm.trans hc)
  obtain ⟨q1, q2, q3⟩ := hO.elem 1 PSrv.len rfl rfl i hi u
  exact ⟨⟨vK, _, vE, vN, hN, q1.cast rfl (by simp [PS.rows])⟩, q2, q3⟩
theorem xin_setSeen (h : XIn w F b X) {g cap : Nat} (hc : w.cell? ⟨b, 8, none⟩ = some (.slice (some ⟨g, 0, none⟩) X.servers.length cap)) (i : Nat) (s : PSrv) (hs : X.servers[i]? = some s) (v : Int) :
    XIn (w.setCell ⟨g, i * 10, none⟩ (.int .i64 v)) F b { X with servers := X.servers.set i { s with seen := v } } ∧ Kept F w (w.setCell ⟨g, i * 10, none⟩ (.int .i64 v)) := by
  obtain ⟨vK, vS, vE, vN, hN, hO⟩ := h
  obtain rfl : vS = _ := Option.some.inj ((hO.cell 8).symm.trans hc)
  obtain ⟨q1, q2⟩ := own_cellSet hO 1 PSrv.len rfl rfl i s { s with seen := v } hs 0 (by omega) (.int .i64 v) rfl
  exact ⟨⟨vK, _, vE, vN, hN, q1.cast rfl (by simp [PS.rows])⟩, q2⟩
theorem st96 {ops : Array Oper} {rest : List Oper} {d : Option Tmp} {t0 : TypeId} {pos : String} {after : Array Edge} {a : Act} {w : World} {Q : Exit → Act → World → Prop} (x y : Operand) (g o : Nat) (u : PSrv)
    (hx : a.eval x = .pointer (some ⟨g, o, none⟩)) (hy : a.eval y = .agg u.cells.toArray) (ht : w.there g o 10)
    (h : wpList Tryd.prog ops Q rest (a.put d undef) (w.setCells g o u.cells)) :
    wpList Tryd.prog ops Q ({ dst := d, op := .store 86 x y, type := t0, pos := pos, after := after, guard := none } :: rest) a w :=
  stAny 86 x y g o u.cells hx hy ht (sz96 u) u.one h
theorem ld56 {ops : Array Oper} {rest : List Oper} {d : Option Tmp} {t0 : TypeId} {pos : String} {after : Array Edge} {a : Act} {w : World} {Q : Exit → Act → World → Prop} (x : Operand) (b o : Nat) (e : PKey)
    (hx : a.eval x = .pointer (some ⟨b, o, none⟩)) (hc : w.rangeAt b o e.cells) (h : wpList Tryd.prog ops Q rest (a.put d (.agg e.cells.toArray)) w) :
    wpList Tryd.prog ops Q ({ dst := d, op := .load 81 x, type := t0, pos := pos, after := after, guard := none } :: rest) a w :=
  ldAny 81 x b o e.cells _ hx hc Tryd.underlying81 rfl (sz56 e) h

/-! The pods, in memory. -/
def setPod (p : Nat → PPod) (i : Nat) (q : PPod) : Nat → PPod := fun j => if j = i then q else p j
theorem setPod_same (p : Nat → PPod) (i : Nat) (q : PPod) : setPod p i q i = q := by simp [setPod]
theorem setPod_ne {p : Nat → PPod} {i j : Nat} {q : PPod} (h : j ≠ i) : setPod p i q j = p j := by simp [setPod, h]
theorem eight {i : Nat} (h : i < 8) : i = 0 ∨ i = 1 ∨ i = 2 ∨ i = 3 ∨ i = 4 ∨ i = 5 ∨ i = 6 ∨ i = 7 := by omega
theorem xin_node {i : Nat} (h : XIn w F b X) (hi : i < 8) : w.cell? ⟨b, 10 + i * 2, none⟩ = some (.int .i64 (X.pods i).node) := by
  obtain ⟨vK, vS, vE, vN, hN, h⟩ := h
  rw [h.cell]
  rcases eight hi with rfl | rfl | rfl | rfl | rfl | rfl | rfl | rfl <;> rfl
theorem xin_setNode {i : Nat} (h : XIn w F b X) (hi : i < 8) (n : Int) : XIn (w.setCell ⟨b, 10 + i * 2, none⟩ (.int .i64 n)) F b { X with pods := setPod X.pods i { X.pods i with node := n } } := by
  obtain ⟨vK, vS, vE, vN, hN, h⟩ := h
  rcases eight hi with rfl | rfl | rfl | rfl | rfl | rfl | rfl | rfl <;>
    exact ⟨vK, vS, vE, vN, hN, (h.set _ (.int .i64 n) (by simp [PS.rows])).cast rfl rfl⟩
theorem xin_needs {i : Nat} (h : XIn w F b X) (hi : i < 8) : Sl w b (11 + i * 2) 1 ((X.pods i).needs.map str) := by
  obtain ⟨vK, vS, vE, vN, hN, h⟩ := h
  rcases eight hi with rfl | rfl | rfl | rfl | rfl | rfl | rfl | rfl
  · exact h.sl 3 str_len rfl
  · exact h.sl 4 str_len rfl
  · exact h.sl 5 str_len rfl
  · exact h.sl 6 str_len rfl
  · exact h.sl 7 str_len rfl
  · exact h.sl 8 str_len rfl
  · exact h.sl 9 str_len rfl
  · exact h.sl 10 str_len rfl
theorem xin_needsRow {i : Nat} (h : XIn w F b X) (hi : i < 8) : ∃ v, w.cell? ⟨b, 11 + i * 2, none⟩ = some v ∧ w.ownsRow 0 9 1 v (X.pods i).needs.length ((X.pods i).needs.flatMap str) := by
  obtain ⟨vK, vS, vE, vN, hN, h⟩ := h
  rw [h.cell]
  rcases eight hi with rfl | rfl | rfl | rfl | rfl | rfl | rfl | rfl
  · obtain ⟨v, hv, ho, _⟩ := h.row 3 rfl; exact ⟨v, hv, ho⟩
  · obtain ⟨v, hv, ho, _⟩ := h.row 4 rfl; exact ⟨v, hv, ho⟩
  · obtain ⟨v, hv, ho, _⟩ := h.row 5 rfl; exact ⟨v, hv, ho⟩
  · obtain ⟨v, hv, ho, _⟩ := h.row 6 rfl; exact ⟨v, hv, ho⟩
  · obtain ⟨v, hv, ho, _⟩ := h.row 7 rfl; exact ⟨v, hv, ho⟩
  · obtain ⟨v, hv, ho, _⟩ := h.row 8 rfl; exact ⟨v, hv, ho⟩
  · obtain ⟨v, hv, ho, _⟩ := h.row 9 rfl; exact ⟨v, hv, ho⟩
  · obtain ⟨v, hv, ho, _⟩ := h.row 10 rfl; exact ⟨v, hv, ho⟩
def setVal (p : Nat → Value) (i : Nat) (q : Value) : Nat → Value := fun j => if j = i then q else p j
theorem xin_setNeeds {i : Nat} {w1 : World} {v' : Value} {l : List ByteArray} (h : XIn w F b X) (hi : i < 8) (k : Low w.heap.size w w1) (ho : w1.ownsRow 0 9 1 v' l.length (l.flatMap str)) (hw : ∀ q, v'.ownBlock = some q → w.heap.size ≤ q) :
    XIn (w1.setCell ⟨b, 11 + i * 2, none⟩ v') (grow F w w1) b { X with pods := setPod X.pods i { X.pods i with needs := l } } ∧ Kept F w (w1.setCell ⟨b, 11 + i * 2, none⟩ v') := by
  obtain ⟨vK, vS, vE, vN, hN, hO⟩ := h
  have hpos : 0 < w.heap.size := Nat.lt_of_le_of_lt (Nat.zero_le _) hO.lt
  have hN2 : ∀ j, (setVal vN i v' j).ownBlock ≠ some 0 := fun j => by
    unfold setVal
    split
    · exact fun e => by have := hw 0 e; omega
    · exact hN j
  refine ⟨?_, k.kept.trans (setCell_kept w1 ⟨b, 11 + i * 2, none⟩ v') (fun _ f => f.elim) (fun q _ e => by rw [show q = b from e]; exact hO.inF)⟩
  rcases eight hi with rfl | rfl | rfl | rfl | rfl | rfl | rfl | rfl
  · exact ⟨vK, vS, vE, setVal vN 0 v', hN2, (hO.rowNew 3 rfl rfl (k.kept.mono (fun _ _ f => f.elim)) ho (Or.inr hw) (X.offs 3 rfl)).cast rfl rfl⟩
  · exact ⟨vK, vS, vE, setVal vN 1 v', hN2, (hO.rowNew 4 rfl rfl (k.kept.mono (fun _ _ f => f.elim)) ho (Or.inr hw) (X.offs 4 rfl)).cast rfl rfl⟩
  · exact ⟨vK, vS, vE, setVal vN 2 v', hN2, (hO.rowNew 5 rfl rfl (k.kept.mono (fun _ _ f => f.elim)) ho (Or.inr hw) (X.offs 5 rfl)).cast rfl rfl⟩
  · exact ⟨vK, vS, vE, setVal vN 3 v', hN2, (hO.rowNew 6 rfl rfl (k.kept.mono (fun _ _ f => f.elim)) ho (Or.inr hw) (X.offs 6 rfl)).cast rfl rfl⟩
  · exact ⟨vK, vS, vE, setVal vN 4 v', hN2, (hO.rowNew 7 rfl rfl (k.kept.mono (fun _ _ f => f.elim)) ho (Or.inr hw) (X.offs 7 rfl)).cast rfl rfl⟩
  · exact ⟨vK, vS, vE, setVal vN 5 v', hN2, (hO.rowNew 8 rfl rfl (k.kept.mono (fun _ _ f => f.elim)) ho (Or.inr hw) (X.offs 8 rfl)).cast rfl rfl⟩
  · exact ⟨vK, vS, vE, setVal vN 6 v', hN2, (hO.rowNew 9 rfl rfl (k.kept.mono (fun _ _ f => f.elim)) ho (Or.inr hw) (X.offs 9 rfl)).cast rfl rfl⟩
  · exact ⟨vK, vS, vE, setVal vN 7 v', hN2, (hO.rowNew 10 rfl rfl (k.kept.mono (fun _ _ f => f.elim)) ho (Or.inr hw) (X.offs 10 rfl)).cast rfl rfl⟩

/-! Readers. -/
set_option maxRecDepth 100000 in
theorem isServer_any (w : World) (s : Int) (h : XIn w F b X) :
    Calls Tryd.prog 23 #[.pointer (some ⟨b, 0, none⟩), .int .i64 s] w fun e w' => e = .returned (.bool (isSrv X.servers.length s)) ∧ w' = w := by
  obtain ⟨a, cap, hc, _⟩ := xin_servers h
  rw [List.length_map] at hc
  by_cases h1 : 0 ≤ s
  · have q1 : decide (0 ≤ s) = true := by simp; omega
    go_enter Tryd.func23, Tryd.ntmps23
    go_wp2
    go_ret
    exact ⟨by simp [isSrv, q1], rfl⟩
  · have q1 : decide (0 ≤ s) = false := by simp; omega
    go_enter Tryd.func23, Tryd.ntmps23
    go_wp2
    go_ret
    exact ⟨by simp [isSrv, q1], rfl⟩
/-- The newest entry of a path, of at most a revision. -/
def newestOf (l : List Ent) (p : ByteArray) (rev : Int) : Ent := (l.reverse.find? (fun e => decide (e.rev ≤ rev) && (e.path.toList == p.toList))).getD Ent.zero
theorem newestOf_snoc (l : List Ent) (e : Ent) (p : ByteArray) (rev : Int) : newestOf (l ++ [e]) p rev = if decide (e.rev ≤ rev) && (e.path.toList == p.toList) then e else newestOf l p rev := by
  unfold newestOf
  rw [List.reverse_append]
  simp only [List.reverse_cons, List.reverse_nil, List.nil_append, List.singleton_append, List.find?_cons]
  cases decide (e.rev ≤ rev) && (e.path.toList == p.toList) <;> rfl
set_option maxRecDepth 100000 in
set_option maxHeartbeats 400000 in
theorem newest_any (w : World) (p : ByteArray) (rev : Int) (h : XIn w F b X) (hn : X.entries.length ≤ 1000) :
    Calls Tryd.prog 27 #[.pointer (some ⟨b, 0, none⟩), .string p, .int .i64 rev] w fun e w' =>
      e = .returned (.agg (newestOf X.entries p rev).cells.toArray) ∧ Low w.heap.size w w' := by
  have HR := hid h
  clear h
  go_enter Tryd.func27, Tryd.ntmps27
  go_wp2
  go_loopw [8] (fun iv wr => ∃ (i : Nat), i ≤ X.entries.length ∧ iv = .int .i64 (i : Int) ∧ Hid (Low w.heap.size w wr ∧ wr.heap.size = w.heap.size + 2 ∧ Blk wr w.heap.size 65 Ent.zero.cells ∧ Blk wr (w.heap.size + 1) 65 (newestOf (X.entries.take i) p rev).cells)) (fun iv _ => X.entries.length - (intOf iv).toNat)
  case atStart =>
    refine ⟨0, Nat.zero_le _, rfl, ?_, by simp, (Blk.new w 65 Ent.zero.cells).alloc _, ?_⟩
    · exact ((Low.refl _ w).alloc (Nat.le_refl _) _).alloc (by simp) _
    · have := Blk.new (w.alloc (.cells Ent.zero.cells.toArray 65)) 65 Ent.zero.cells
      rw [World.size_alloc] at this
      exact this
  case round =>
    obtain ⟨i, hi, rfl, HI⟩ := hrel
    obtain ⟨a, cap, hc, hel⟩ := xin_entries (HR.out.low HI.out.1)
    rw [List.length_map] at hc
    by_cases h1 : i < X.entries.length
    · have q1 : decide ((i : Int) < (X.entries.length : Int)) = true := by simp; omega
      obtain ⟨k, hk2⟩ : ∃ k, X.entries[i]? = some k := ⟨_, List.getElem?_eq_getElem h1⟩
      obtain ⟨g, rfl, hg, hcs, _⟩ := hel i k.cells (by rw [List.getElem?_map, hk2]; rfl)
      have c1 : wr.cell? ⟨g, i * 6 + 1, none⟩ = some (.int .i64 k.rev) := hcs 1 (by omega)
      have c0 : wr.cell? ⟨g, i * 6, none⟩ = some (.string k.path) := hcs 0 (by omega)
      have HC : Hid (wr.rangeAt g (i * 6) k.cells) := range_of hcs (fun _ _ e => ⟨(List.getElem?_eq_some_iff.1 e).1, e⟩)
      have HS := hid (newestOf_snoc (X.entries.take i) k p rev)
      have HT := hid (take_snoc hk2)
      clear hcs hk2 hel
      cases q3 : decide (k.rev ≤ rev)
      · go_wp2_with fail
        go_roundw
        case rel => exact ⟨i + 1, by omega, by simp, by rw [HT.out, HS.out, q3]; exact HI.out⟩
        case measure => simp [intOf]; omega
      · cases q4 : (k.path.toList == p.toList)
        · go_wp2_with fail
          go_roundw
          case rel => exact ⟨i + 1, by omega, by simp, by rw [HT.out, HS.out, q3, q4]; exact HI.out⟩
          case measure => simp [intOf]; omega
        · go_wp2_with (first | ((with_reducible refine ld50 (.tmp 46) g (i * 6) k ?_ HC.out ?_); rfl) | ((with_reducible refine st50 (.tmp 7) (.tmp 47) (w.heap.size + 1) _ k ?_ ?_ HI.out.2.2.2 ?_); rfl; rfl; intro w1 b1 k1 s1; have B1 := hid b1; have K1 := hid k1; have S1 := hid s1; clear b1 k1 s1))
          go_roundw
          case rel =>
            have hE : newestOf (X.entries.take (i + 1)) p rev = k := by rw [HT.out, HS.out, q3, q4]; rfl
            obtain ⟨l0, s0, z0, e0⟩ := HI.out
            exact ⟨i + 1, by omega, by simp, low_set l0 K1.out (by omega) l0.size, S1.out.trans s0, z0.kept K1.out (by omega), by rw [hE]; exact B1.out⟩
          case measure => simp [intOf]; omega
    · have q1 : decide ((i : Int) < (X.entries.length : Int)) = false := by simp; omega
      obtain rfl : i = X.entries.length := by omega
      rw [List.take_length] at HI
      clear hel
      go_wp2_with (first | ((with_reducible refine ld50 (.tmp 7) (w.heap.size + 1) 0 (newestOf X.entries p rev) ?_ HI.out.2.2.2.whole ?_); rfl) | ((with_reducible refine st50 (.tmp 6) (.tmp 48) w.heap.size Ent.zero (newestOf X.entries p rev) ?_ ?_ HI.out.2.2.1 ?_); rfl; rfl; intro w1 b1 k1 s1; have B1 := hid b1; have K1 := hid k1; clear b1 k1 s1))
      (try simp only [Exit.inBlock, Exit.then])
      refine bodyPost_ret (results_cell rfl w.heap.size (newestOf X.entries p rev).cells _ rfl B1.out.whole Tryd.underlying65 rfl (sz50 _)) rfl ?_
      exact ⟨rfl, low_set HI.out.1 K1.out (Nat.le_refl _) HI.out.1.size⟩
end Go.Proofs.YtphapknfkbgapabDoor
namespace Go.Proofs.YtphapknfkbgapabDoor
open Go.RowKit

variable {F : Nat → Prop} {b : Nat} {X : PS}

def pFull (X : PS) : Bool := decide (X.room ≤ (X.entries.length : Int))
set_option maxRecDepth 100000 in
theorem pfull_any (w : World) (h : XIn w F b X) :
    Calls Tryd.prog 80 #[.pointer (some ⟨b, 0, none⟩)] w fun e w' => e = .returned (.bool (pFull X)) ∧ Low w.heap.size w w' := by
  obtain ⟨a, cap, hc, _⟩ := xin_entries h
  rw [List.length_map] at hc
  have c5 := xin_room h
  clear h
  go_enter Tryd.func80, Tryd.ntmps80
  go_upto_region 1 with fail
  go_region
  all_goals go_wp2_with fail
  all_goals go_ret
  all_goals exact ⟨by simp [pFull], (Low.refl _ _).drew⟩
def pRevOf (X : PS) (p : ByteArray) : Int := if (newestOf X.entries p X.rev).gone then 0 else (newestOf X.entries p X.rev).rev
set_option maxRecDepth 100000 in
set_option maxHeartbeats 400000 in
theorem revOf_any (w : World) (p : ByteArray) (h : XIn w F b X) (hn : X.entries.length ≤ 1000) :
    Calls Tryd.prog 79 #[.pointer (some ⟨b, 0, none⟩), .string p] w fun e w' => e = .returned (.int .i64 (pRevOf X p)) ∧ Low w.heap.size w w' := by
  have HR := hid h
  have c0 := xin_rev h
  obtain ⟨E, hE⟩ : ∃ E, newestOf X.entries p X.rev = E := ⟨_, rfl⟩
  have HE := hid hE
  clear h hE
  cases hg : E.gone
  all_goals
    go_enter Tryd.func79, Tryd.ntmps79
    go_wp2_with (first | (go_at_call 27; refine (newest_any _ _ _ HR.out hn).mono ?_; rw [HE.out]; rintro e y1 ⟨rfl, l1⟩; have L1 := hid l1; clear l1) | ((with_reducible refine st50 (.tmp 5) (.tmp 13) y1.heap.size Ent.zero E ?_ ?_ ?_ ?_); rfl; rfl; exact (Blk.new y1 65 Ent.zero.cells); intro W b2 k2 s2; have m5 : W.cell? ⟨y1.heap.size, 5, none⟩ = some (.bool E.gone) := b2.cell 5; have m1 : W.cell? ⟨y1.heap.size, 1, none⟩ = some (.int .i64 E.rev) := b2.cell 1; have LW : Hid (Low w.heap.size w W) := low_set (L1.out.alloc L1.out.size _) k2 L1.out.size (by have := L1.out.size; simp; omega); clear b2 k2 s2))
    go_ret
    exact ⟨by simp [pRevOf, HE.out, hg], LW.out⟩
set_option maxRecDepth 100000 in
theorem key_any (w : World) (i : Nat) (K : PKey) (h : XIn w F b X) (hk : X.keys[i]? = some K) (hi : i ≤ 100) :
    Calls Tryd.prog 53 #[.pointer (some ⟨b, 0, none⟩), .int .i64 ((i : Int) + 1)] w fun e w' => e = .returned (.agg #[.string K.text, .int .i64 K.came, .int .i64 K.wrote]) ∧ Low w.heap.size w w' := by
  obtain ⟨g, cap, hc, hg, hcs⟩ := xin_keyAt h hk
  have c0 : w.cell? ⟨g, i * 3, none⟩ = some (.string K.text) := hcs 0 (by omega)
  have c1 : w.cell? ⟨g, i * 3 + 1, none⟩ = some (.int .i64 K.came) := hcs 1 (by omega)
  have c2 : w.cell? ⟨g, i * 3 + 2, none⟩ = some (.int .i64 K.wrote) := hcs 2 (by omega)
  have hb := h.lt
  have hl : (i : Int) < (X.keys.length : Int) := by have := (List.getElem?_eq_some_iff.1 hk).1; omega
  have hz : (i : Int) + 1 - 1 = (i : Int) := by omega
  clear hcs h hk
  go_enter Tryd.func53, Tryd.ntmps53
  go_wp2
  (try simp only [Exit.inBlock, Exit.then])
  refine bodyPost_ret (results_cell rfl w.heap.size K.cells _ rfl (by exact (Blk.new w 81 K.cells).whole) Tryd.underlying81 rfl (sz56 _)) rfl ?_
  exact ⟨rfl, (Low.refl _ w).alloc (Nat.le_refl _) _⟩
def keyGone (K : PKey) : Bool := K.text.toList == (⟨#[]⟩ : ByteArray).toList
theorem destroyed_any (w : World) (K : PKey) :
    Calls Tryd.prog 66 #[.agg #[.string K.text, .int .i64 K.came, .int .i64 K.wrote]] w fun e w' => e = .returned (.bool (keyGone K)) ∧ Low w.heap.size w w' := by
  go_enter Tryd.func66, Tryd.ntmps66
  go_wp2
  go_ret
  exact ⟨by simp [keyGone], (Low.refl _ w).alloc (Nat.le_refl _) _⟩
theorem pisPath_any (w : World) (p : ByteArray) (hp : p.size ≤ maxLen) :
    Calls Tryd.prog 69 #[.string p] w fun e w' => e = .returned (.bool (isPath p)) ∧ w' = w := by
  unfold maxLen at hp
  by_cases h1 : 1 ≤ p.size
  · have q1 : decide ((1 : Int) ≤ (p.size : Int)) = true := by simp; omega
    by_cases h2 : p.size ≤ 16
    · have q2 : decide ((p.size : Int) ≤ 16) = true := by simp; omega
      have HE : Hid (isPath p = true) := by show _ = _; simp [isPath]; omega
      go_enter Tryd.func69, Tryd.ntmps69
      go_wp2
      go_ret
      exact ⟨by rw [HE.out]; simp, rfl⟩
    · have q2 : decide ((p.size : Int) ≤ 16) = false := by simp; omega
      have HE : Hid (isPath p = false) := by show _ = _; simp [isPath]; omega
      go_enter Tryd.func69, Tryd.ntmps69
      go_wp2
      go_ret
      exact ⟨by rw [HE.out]; simp, rfl⟩
  · have q1 : decide ((1 : Int) ≤ (p.size : Int)) = false := by rw [decide_eq_false_iff_not]; omega
    have HE : Hid (isPath p = false) := by show _ = _; simp [isPath]; omega
    go_enter Tryd.func69, Tryd.ntmps69
    go_wp2
    go_ret
    exact ⟨by rw [HE.out]; simp, rfl⟩
theorem isSecret_any (w : World) (p : ByteArray) (hp : p.size ≤ maxLen) :
    Calls Tryd.prog 76 #[.string p] w fun e w' => e = .returned (.bool (decide (p.size ≤ 64))) ∧ w' = w := by
  unfold maxLen at hp
  go_enter Tryd.func76, Tryd.ntmps76
  go_wp2
  go_ret
  exact ⟨by simp; omega, rfl⟩
theorem beq48 (n : Nat) : ((n : Int) == 48) = (n == 48) := by
  rw [Bool.eq_iff_iff]
  simp only [beq_iff_eq]
  omega
theorem isKey_any (w : World) (p : ByteArray) :
    Calls Tryd.prog 31 #[.string p] w fun e w' => e = .returned (.bool (p.size == 48)) ∧ w' = w := by
  go_enter Tryd.func31, Tryd.ntmps31
  go_wp2
  go_ret
  exact ⟨by simp [beq48], rfl⟩
/-- The number of the key that wrote when an epoch came. -/
def writerR (ks : List PKey) (ep : Int) : Int := match ks with
  | [] => 1
  | k :: r => if (k.wrote != 0) && decide (k.wrote ≤ ep) then (r.length + 2 : Int) else writerR r ep
def writerOf (ks : List PKey) (ep : Int) : Int := writerR (ks.drop 1).reverse ep
theorem writerR_snoc (l : List PKey) (k : PKey) (ep : Int) : writerR (l ++ [k]).reverse ep = if (k.wrote != 0) && decide (k.wrote ≤ ep) then (l.length + 2 : Int) else writerR l.reverse ep := by
  simp [writerR]
set_option maxHeartbeats 400000 in
theorem writer_any (w : World) (ep : Int) (h : XIn w F b X) (hk : X.keys.length ≤ 6) (hk1 : 1 ≤ X.keys.length) :
    Calls Tryd.prog 77 #[.pointer (some ⟨b, 0, none⟩), .int .i64 ep] w fun e w' => e = .returned (.int .i64 (writerOf X.keys ep)) ∧ w' = w := by
  obtain ⟨a, cap, hc, hel⟩ := xin_keys h
  rw [List.length_map] at hc
  have HEL := hid hel
  clear hel
  go_enter Tryd.func77, Tryd.ntmps77
  go_wp2
  go_loopw [5, 6] (fun kv iv wr => ∃ i : Nat, i + 1 ≤ X.keys.length ∧ kv = .int .i64 (writerR ((X.keys.drop 1).take i).reverse ep) ∧ iv = .int .i64 ((i : Int) + 1) ∧ w = wr) (fun _ iv _ => X.keys.length - (intOf iv).toNat)
  case atStart => exact ⟨0, by omega, rfl, rfl, rfl⟩
  case round =>
    obtain ⟨i, hi, rfl, rfl, rfl⟩ := hrel
    generalize hM : writerR ((X.keys.drop 1).take i).reverse ep = M
    have HM := hid hM
    clear hM
    by_cases h1 : i + 1 < X.keys.length
    · have q1 : decide ((i : Int) + 1 < (X.keys.length : Int)) = true := by simp; omega
      obtain ⟨k, hk2⟩ : ∃ k, X.keys[i + 1]? = some k := ⟨_, List.getElem?_eq_getElem h1⟩
      obtain ⟨g, rfl, hg, hcs, _⟩ := HEL.out (i + 1) k.cells (by rw [List.getElem?_map, hk2]; rfl)
      have c2 : w.cell? ⟨g, (i + 1) * 3 + 2, none⟩ = some (.int .i64 k.wrote) := hcs 2 (by omega)
      have HS := hid (writerR_snoc ((X.keys.drop 1).take i) k ep)
      have HT := hid (take_snoc (l := X.keys.drop 1) (i := i) (x := k) (by rw [List.getElem?_drop, Nat.add_comm]; exact hk2))
      have HL : Hid (((X.keys.drop 1).take i).length = i) := by show _ = _; simp; omega
      clear hcs hk2
      cases q3 : (k.wrote != 0)
      · go_wp2_with fail
        go_roundw
        case rel => exact ⟨i + 1, by omega, by rw [HT.out, HS.out, HM.out, q3]; rfl, by simp, by trivial⟩
        case measure => simp [intOf]; omega
      · cases q4 : decide (k.wrote ≤ ep)
        · go_wp2_with fail
          go_roundw
          case rel => exact ⟨i + 1, by omega, by rw [HT.out, HS.out, HM.out, q3, q4]; rfl, by simp, by trivial⟩
          case measure => simp [intOf]; omega
        · go_wp2_with fail
          go_roundw
          case rel => exact ⟨i + 1, by omega, by rw [HT.out, HS.out, q3, q4, HL.out]; simp; omega, by simp, by trivial⟩
          case measure => simp [intOf]; omega
    · have q1 : decide ((i : Int) + 1 < (X.keys.length : Int)) = false := by simp; omega
      have hE : Hid (writerOf X.keys ep = M) := by
        show writerOf X.keys ep = M
        rw [← HM.out, writerOf, List.take_of_length_le (by simp; omega)]
      go_wp2_with fail
      go_ret
      exact ⟨by rw [hE.out]; rfl, rfl⟩
end Go.Proofs.YtphapknfkbgapabDoor
namespace Go.Proofs.YtphapknfkbgapabDoor
open Go.RowKit

variable {F : Nat → Prop} {b : Nat} {X : PS}

theorem xin_rowE {w : World} (h : XIn w F b X) : ∃ a cap, w.cell? ⟨b, 9, none⟩ = some (.slice a X.entries.length cap) ∧ w.ownsRow 0 65 6 (.slice a X.entries.length cap) X.entries.length (X.entries.flatMap Ent.cells) ∧ (Value.slice a X.entries.length cap).ownBlock ≠ some b := by
  obtain ⟨vK, vS, vE, vN, hN, hO⟩ := h
  obtain ⟨v, hv, ho, _⟩ := hO.row 2 rfl
  have hn := hO.apart 2 rfl hv
  obtain ⟨a, cap, rfl, _, _⟩ := ownsRow_view ho
  exact ⟨a, cap, by rw [hO.cell]; exact hv, ho, hn⟩
theorem xin_appE {w w1 : World} {v v' : Value} {o : Obj} (h : XIn w F b X) (hv : w.cell? ⟨b, 9, none⟩ = some v) (k : Kept (fun q => v.ownBlock = some q) (w.alloc o) w1) (K : Ent) (ho : w1.ownsRow 0 65 6 v' (X.entries.length + 1) (X.entries.flatMap Ent.cells ++ K.cells)) (P : v'.ownBlock = v.ownBlock ∨ v'.ownBlock = some (w.alloc o).heap.size) :
    XIn (w1.setCell ⟨b, 9, none⟩ v') (grow F w (w1.setCell ⟨b, 9, none⟩ v')) b { X with entries := X.entries ++ [K] } ∧ Kept F w (w1.setCell ⟨b, 9, none⟩ v') := by
  obtain ⟨vK, vS, vE, vN, hN, hO⟩ := h
  obtain rfl : vE = v := Option.some.inj ((hO.cell 9).symm.trans hv)
  obtain ⟨q1, q2⟩ := hO.appended (Low.refl _ w) 2 rfl rfl k ho P (X.offs 2 rfl)
  exact ⟨⟨vK, vS, v', vN, hN, q1.cast rfl (by simp [PS.rows])⟩, q2⟩
def PS.add (X : PS) (e : Ent) : PS := { X with rev := X.rev + 1, entries := X.entries ++ [{ e with rev := X.rev + 1 }] }
set_option maxRecDepth 100000 in
set_option maxHeartbeats 1000000 in
theorem add_any (w : World) (e : Ent) (h : XIn w F b X) (hn : X.entries.length ≤ 1000) (hr : 0 ≤ X.rev ∧ X.rev ≤ 100000000000000) :
    Calls Tryd.prog 58 #[.pointer (some ⟨b, 0, none⟩), .agg #[.string e.path, .int .i64 e.rev, .int .i64 e.key, .int .i64 e.draw, .string e.sealed, .bool e.gone]] w fun r w' =>
      r = .returned (.int .i64 (X.rev + 1)) ∧ XIn w' (grow F w w') b (X.add e) ∧ Kept F w w' := by
  have HR := hid h
  have c0 := xin_rev h
  have f0 := h.frozen 0
  have hb := h.lt
  have hr0 := hr.1
  have hr1 := hr.2
  clear h hr
  go_enter Tryd.func58, Tryd.ntmps58
  go_upto_region 3 with fail
  go_name_world W hW
  obtain ⟨E, hE⟩ : ∃ E : Ent, E = { e with rev := X.rev + 1 } := ⟨_, rfl⟩
  have hX : XIn W F b { X with rev := X.rev + 1 } := by rw [← hW]; exact (xin_set_rev HR.out (X.rev + 1)).alloc _
  have hB : Blk W w.heap.size 65 E.cells := by
    have q := Blk.new (w.setCell ⟨b, 0, none⟩ (.int .i64 (X.rev + 1))) 65 E.cells
    rw [World.size_setCell] at q
    rw [← hW, hE]
    rw [hE] at q
    exact q
  have hK : Kept F w W := by rw [← hW]; exact (setCell_kept w ⟨b, 0, none⟩ _).trans ((Low.refl _ _).alloc (Nat.le_refl _) _).kept (fun q e => by rw [show q = b from e]; exact HR.out.inF) (fun _ _ f => f.elim)
  obtain ⟨a, cap, c9, o9, n9⟩ := xin_rowE hX
  have c9 : W.cell? ⟨b, 9, none⟩ = some (.slice a X.entries.length cap) := c9
  have o9 : W.ownsRow 0 65 6 (.slice a X.entries.length cap) X.entries.length (X.entries.flatMap Ent.cells) := o9
  have n9 : (Value.slice a X.entries.length cap).ownBlock ≠ some b := n9
  have lb := hX.lt
  have lN := hB.lt
  have hNn : (Value.slice a X.entries.length cap).ownBlock ≠ some w.heap.size := fun q => by
    obtain ⟨vK, vS, vE, vN, hN, hO⟩ := hX
    obtain rfl : vE = .slice a X.entries.length cap := Option.some.inj ((hO.cell 9).symm.trans c9)
    obtain ⟨v2, hv2, _, hF2⟩ := hO.row 2 rfl
    obtain rfl : v2 = _ := (Option.some.inj hv2).symm
    have := HR.out.below _ (hF2 _ q)
    omega
  have HX := hid hX
  have HB := hid hB
  have HK := hid hK
  have HE := hid hE
  have O9 := hid o9
  have N9 := hid n9
  have C9 := hid c9
  have F9 := hid (hX.frozen 9)
  have LB := hid lb
  have LN := hid lN
  have NN := hid hNn
  have e0 : W.cell? ⟨w.heap.size, 0, none⟩ = some (.string E.path) := hB.cell 0
  have e1 : W.cell? ⟨w.heap.size, 1, none⟩ = some (.int .i64 E.rev) := hB.cell 1
  have e2 : W.cell? ⟨w.heap.size, 2, none⟩ = some (.int .i64 E.key) := hB.cell 2
  have e3 : W.cell? ⟨w.heap.size, 3, none⟩ = some (.int .i64 E.draw) := hB.cell 3
  have e4 : W.cell? ⟨w.heap.size, 4, none⟩ = some (.string E.sealed) := hB.cell 4
  have e5 : W.cell? ⟨w.heap.size, 5, none⟩ = some (.bool E.gone) := hB.cell 5
  have E1 := hid e1
  clear hX hB hK hE o9 n9 hNn hW c0 f0
  go_region_law
    ((refine step_append_mine _ rfl (.tmp 24) (.tmp 26) 46 rfl 65 _ 6 64 Tryd.underlying46 info50 rfl (by omega) (.slice a X.entries.length cap) X.entries.length (X.entries.flatMap Ent.cells) ?_ ?_ ⟨W.heap.size, 0, none⟩ 1 1 E.cells ?_ rfl ?_ (Ent.one _) ⟨by omega, by omega⟩ ?_; rfl; exact (World.ownsRow.alloc (w := W) O9.out _); rfl; exact (news_new W E.cells 65); intro v' w1 o1 k1 p1; obtain ⟨a', cap', rfl, _, _⟩ := ownsRow_view o1; have O1 := hid o1; have K1 := hid k1.of_drew; have P1 := hid p1; have c9w := kept_cell K1.out LB.out N9.out C9.out; have f9w := kept_frozen K1.out LB.out N9.out F9.out; have e1w := kept_cell K1.out LN.out NN.out E1.out; clear o1 k1 p1))
  all_goals go_wp2_with fail
  all_goals go_ret
  all_goals
    obtain ⟨q1, q2⟩ := xin_appE HX.out C9.out K1.out E O1.out P1.out
    have hsz := HK.out.size
    refine ⟨by rw [HE.out]; rfl, ?_, HK.out.trans q2 (fun _ f => f) (fun _ _ f => f)⟩
    have hres : ({ X with rev := X.rev + 1, entries := X.entries ++ [E] } : PS) = X.add e := by rw [HE.out]; rfl
    rw [← hres]
    exact XIn.more q1 (fun k hk => hk.elim Or.inl (fun hk => Or.inr ⟨by omega, hk.2⟩)) (fun k hk => hk.elim (fun hk => XIn.below q1 k (Or.inl hk)) (fun hk => hk.2))
end Go.Proofs.YtphapknfkbgapabDoor
