import Derived.Deep.DeepMust
import Derived.Test.YtphapknfkbgapaaGreatDoorMemToRefA
import Derived.Deep.Cut
import Derived.Lib.ItoaWalk
import Derived.Deep.RegionLaw
import Derived.Deep.AppendLies
import Derived.Test.YtphapknfkbgapaaGreatDoorSealsWalk
import Derived.Deep.RegionHeld3
import Derived.StillTailTactics
namespace Go.Proofs.YtphapknfkbgapaaGreatDoor
open Go.RowKit

variable {F : Nat → Prop} {b : Nat} {Y : RS}

/-- What is kept of a list. -/
def keptOf (l : List RKept) : List Ent := (l.filter (fun k => !k.out)).map (·.e)
theorem keptOf_snoc (l : List RKept) (k : RKept) : keptOf (l ++ [k]) = if k.out then keptOf l else keptOf l ++ [k.e] := by
  cases h : k.out <;> simp [keptOf, h]
theorem info50 : (Tryz.prog.info? 50).map (fun i => (i.zero, i.size, i.bytes)) = some (some (.agg #[.string ⟨#[]⟩, .int .i64 0, .int .i64 0, .int .i64 0, .string ⟨#[]⟩, .bool false]), 6, 64) := by kernel_rfl
theorem news50 (w : World) (e : Ent) : ∀ (j : Nat) (u : Value), e.cells[j]? = some u →
    (w.alloc (Obj.cells (List.foldl (fun cs x => cs.setIfInBounds x.snd x.fst) #[Value.string ⟨#[]⟩, Value.int IntKind.i64 0, Value.int IntKind.i64 0, Value.int IntKind.i64 0, Value.string ⟨#[]⟩, Value.bool false] e.cells.zipIdx) 50)).cell? ((⟨w.heap.size, 0, none⟩ : Addr).add j) = some u := by
  intro j u h
  rw [show (List.foldl (fun cs x => cs.setIfInBounds x.snd x.fst) #[Value.string ⟨#[]⟩, Value.int IntKind.i64 0, Value.int IntKind.i64 0, Value.int IntKind.i64 0, Value.string ⟨#[]⟩, Value.bool false] e.cells.zipIdx) = e.cells.toArray from rfl, Addr.add_mid, Nat.zero_add, (Blk.new w 50 e.cells).cell]
  exact h
theorem keptOf_le (l : List RKept) : (keptOf l).length ≤ l.length := by
  simp only [keptOf, List.length_map]; exact List.length_filter_le _ _
set_option maxRecDepth 100000 in
set_option maxHeartbeats 400000 in
theorem Entries_any (w : World) (h : RIn w F b Y) (hn : Y.all.length ≤ 100000000) :
    Calls Tryz.prog 58 #[.pointer (some ⟨b, 0, none⟩)] w fun e w' => ∃ v, e = .returned v ∧ Low w.heap.size w w' ∧ w'.ownsRow 0 50 6 v (keptOf Y.all).length ((keptOf Y.all).flatMap Ent.cells) ∧ ∀ k, v.ownBlock = some k → w.heap.size ≤ k := by
  have HR : Hid (RIn w F b Y) := h
  clear h
  go_enter Tryz.func58, Tryz.ntmps58
  go_wp2
  go_loopw [3, 4] (fun v iv wr => ∃ i : Nat, i ≤ Y.all.length ∧ iv = .int .i64 (i : Int) ∧ Hid (Low w.heap.size w wr ∧ wr.ownsRow 0 50 6 v (keptOf (Y.all.take i)).length ((keptOf (Y.all.take i)).flatMap Ent.cells) ∧ ∀ k, v.ownBlock = some k → w.heap.size ≤ k)) (fun _ iv _ => Y.all.length - (intOf iv).toNat)
  case atStart => exact ⟨0, Nat.zero_le _, rfl, Low.refl _ _, World.ownsRow_nil _ _ _ _, fun k hk => by cases hk⟩
  case round v =>
    obtain ⟨i, hi, rfl, HI⟩ := hrel
    obtain ⟨a, cap, hc, hel⟩ := (HR.out.low HI.out.1).all
    rw [List.length_map] at hc
    by_cases h1 : i < Y.all.length
    · have q1 : decide ((i : Int) < (Y.all.length : Int)) = true := by simp; omega
      obtain ⟨k, hk2⟩ : ∃ k, Y.all[i]? = some k := ⟨_, List.getElem?_eq_getElem h1⟩
      obtain ⟨g, rfl, hg, hcs, _⟩ := hel i k.cells (by simp [hk2])
      have c6 : wr.cell? ⟨g, i * 7 + 6, none⟩ = some (.bool k.out) := hcs 6 (by omega)
      have HC : Hid (wr.rangeAt g (i * 7) k.e.cells) := RKept.entry hcs
      have HS := hid (keptOf_snoc (Y.all.take i) k)
      have HT := hid (take_snoc hk2)
      clear hcs hk2 hel
      cases q3 : k.out
      · have hsz : (keptOf (Y.all.take i)).length + 1 ≤ 1000000000 := by have := keptOf_le (Y.all.take i); simp at this; omega
        have HZ := hid hsz
        have h6 : k.e.cells.length = 6 := rfl
        clear hsz
        go_wp2_with (first | ((with_reducible refine ld50 (.tmp 30) g (i * 7) k.e ?_ HC.out ?_); rfl) | (at_builtin; refine wpList_append_mine _ rfl (.tmp 23) (.tmp 32) 46 rfl 50 _ 6 64 Tryz.underlying46 info50 rfl (by omega) u3 _ _ rfl (HI.out.2.1.alloc _) ⟨wr.heap.size, 0, none⟩ 1 1 k.e.cells rfl rfl (news50 _ _) (Ent.one _) ⟨HZ.out, by omega⟩ ?_; intro v' w1 o1 k1 p1; have O1 := hid o1; have K1 := hid k1; have P1 := hid p1; clear o1 k1 p1))
        go_roundw
        case rel =>
          obtain ⟨l0, o0, b0⟩ := HI.out
          obtain ⟨l1, b1⟩ := append_low l0 b0 K1.out P1.out
          refine ⟨i + 1, by omega, by simp, l1, ?_, b1⟩
          rw [HT.out, HS.out, q3, if_neg (by simp), List.length_append, flat_snoc]
          exact O1.out
        case measure => simp [intOf]; omega
      · go_wp2_with fail
        go_roundw
        case rel => exact ⟨i + 1, by omega, by simp, by rw [HT.out, HS.out, q3]; exact HI.out⟩
        case measure => simp [intOf]; omega
    · have q1 : decide ((i : Int) < (Y.all.length : Int)) = false := by simp; omega
      obtain rfl : i = Y.all.length := by omega
      clear hel
      go_wp2_with fail
      go_ret
      exact ⟨_, rfl, by have := HI.out; rw [List.take_length] at this; exact this⟩

/-- The newest entry of a path among these. -/
def lastOf (l : List RKept) (p : ByteArray) : Option Ent := (l.reverse.find? (fun k => !k.out && (k.e.path.toList == p.toList))).map (·.e)
theorem lastOf_snoc (l : List RKept) (k : RKept) (p : ByteArray) : lastOf (l ++ [k]) p = if !k.out && (k.e.path.toList == p.toList) then some k.e else lastOf l p := by
  unfold lastOf
  rw [List.reverse_append]
  simp only [List.reverse_cons, List.reverse_nil, List.nil_append, List.singleton_append, List.find?_cons]
  cases !k.out && (k.e.path.toList == p.toList) <;> rfl
theorem low_set {B : Nat} {w wr w1 : World} {b : Nat} (l : Low B w wr) (k : Kept (fun q => q = b) wr w1) (hb : B ≤ b) (hs : B ≤ wr.heap.size) : Low B w w1 :=
  ⟨k.os.trans l.os, k.output.trans l.output, Nat.le_trans l.size k.size, fun q hq => (k.block q (by omega) (by omega)).trans (l.block q hq)⟩
set_option maxRecDepth 100000 in
set_option maxHeartbeats 400000 in
theorem last_any (w : World) (p : ByteArray) (rev : Int) (h : RIn w F b Y) (hn : Y.all.length ≤ 100000000) :
    Calls Tryz.prog 70 #[.pointer (some ⟨b, 0, none⟩), .string p, .int .i64 rev] w fun e w' =>
      e = .returned (.tuple #[.agg ((lastOf (Y.all.take rev.toNat) p).getD Ent.zero).cells.toArray, .bool (lastOf (Y.all.take rev.toNat) p).isSome]) ∧ Low w.heap.size w w' := by
  have HR : Hid (RIn w F b Y) := h
  clear h
  go_enter Tryz.func70, Tryz.ntmps70
  go_wp2
  go_loopw [9, 10] (fun ok iv wr => ∃ (i : Nat), i ≤ Y.all.length ∧ i ≤ rev.toNat ∧ ok = .bool (lastOf (Y.all.take i) p).isSome ∧ iv = .int .i64 (i : Int) ∧ Hid (Low w.heap.size w wr ∧ wr.heap.size = w.heap.size + 2 ∧ Blk wr w.heap.size 50 Ent.zero.cells ∧ Blk wr (w.heap.size + 1) 50 ((lastOf (Y.all.take i) p).getD Ent.zero).cells)) (fun _ iv _ => Y.all.length - (intOf iv).toNat)
  case atStart =>
    refine ⟨0, Nat.zero_le _, Nat.zero_le _, rfl, rfl, ?_, by simp, (Blk.new w 50 Ent.zero.cells).alloc _, ?_⟩
    · exact ((Low.refl _ w).alloc (Nat.le_refl _) _).alloc (by simp) _
    · have := Blk.new (w.alloc (.cells Ent.zero.cells.toArray 50)) 50 Ent.zero.cells
      rw [World.size_alloc] at this
      exact this
  case round =>
    obtain ⟨i, hi, hir, rfl, rfl, HI⟩ := hrel
    obtain ⟨a, cap, hc, hel⟩ := (HR.out.low HI.out.1).all
    rw [List.length_map] at hc
    generalize hM : lastOf (Y.all.take i) p = M at HI ⊢
    have HM := hid hM
    clear hM
    by_cases h1 : i < Y.all.length ∧ (i : Int) < rev
    · have q1 : decide ((i : Int) < (Y.all.length : Int)) = true := by simp; omega
      have q2 : decide ((i : Int) < rev) = true := by simp; omega
      obtain ⟨k, hk2⟩ : ∃ k, Y.all[i]? = some k := ⟨_, List.getElem?_eq_getElem h1.1⟩
      obtain ⟨g, rfl, hg, hcs, _⟩ := hel i k.cells (by simp [hk2])
      have c6 : wr.cell? ⟨g, i * 7 + 6, none⟩ = some (.bool k.out) := hcs 6 (by omega)
      have c0 : wr.cell? ⟨g, i * 7, none⟩ = some (.string k.e.path) := hcs 0 (by omega)
      have HC : Hid (wr.rangeAt g (i * 7) k.e.cells) := RKept.entry hcs
      have HS := hid (lastOf_snoc (Y.all.take i) k p)
      have HT := hid (take_snoc hk2)
      have hi1 := h1.1
      have hi2 := h1.2
      clear hcs hk2 hel h1
      cases q3 : k.out
      · cases q4 : (k.e.path.toList == p.toList)
        · go_wp2_with fail
          go_roundw
          case rel => exact ⟨i + 1, by omega, by omega, by rw [HT.out, HS.out, q3, q4, HM.out]; rfl, by simp, by rw [HT.out, HS.out, q3, q4, HM.out]; exact HI.out⟩
          case measure => simp [intOf]; omega
        · go_wp2_with (first | ((with_reducible refine ld50 (.tmp 53) g (i * 7) k.e ?_ HC.out ?_); rfl) | ((with_reducible refine st50 (.tmp 8) (.tmp 54) (w.heap.size + 1) _ k.e ?_ ?_ HI.out.2.2.2 ?_); rfl; rfl; intro w1 b1 k1 s1; have B1 := hid b1; have K1 := hid k1; have S1 := hid s1; clear b1 k1 s1))
          go_roundw
          case rel =>
            have hE : lastOf (Y.all.take (i + 1)) p = some k.e := by rw [HT.out, HS.out, q3, q4]; rfl
            obtain ⟨l0, s0, z0, e0⟩ := HI.out
            exact ⟨i + 1, by omega, by omega, by rw [hE]; rfl, by simp, low_set l0 K1.out (by omega) l0.size, S1.out.trans s0, z0.kept K1.out (by omega), by rw [hE]; exact B1.out⟩
          case measure => simp [intOf]; omega
      · go_wp2_with fail
        go_roundw
        case rel => exact ⟨i + 1, by omega, by omega, by rw [HT.out, HS.out, q3, HM.out]; rfl, by simp, by rw [HT.out, HS.out, q3, HM.out]; exact HI.out⟩
        case measure => simp [intOf]; omega
    · have hE : lastOf (Y.all.take rev.toNat) p = M := by
        rw [← HM.out]
        by_cases h2 : i < Y.all.length
        · rw [show rev.toNat = i by omega]
        · rw [List.take_of_length_le (by omega), List.take_of_length_le (by omega)]
      have HE := hid hE
      clear hE hel HM
      by_cases h2 : i < Y.all.length
      · have q1 : decide ((i : Int) < (Y.all.length : Int)) = true := by simp; omega
        have q2 : decide ((i : Int) < rev) = false := by simp; omega
        clear h1
        go_wp2_with (first | ((with_reducible refine ld50 (.tmp 8) (w.heap.size + 1) 0 (M.getD Ent.zero) ?_ HI.out.2.2.2.whole ?_); rfl) | ((with_reducible refine st50 (.tmp 6) (.tmp 55) w.heap.size Ent.zero (M.getD Ent.zero) ?_ ?_ HI.out.2.2.1 ?_); rfl; rfl; intro w1 b1 k1 s1; have B1 := hid b1; have K1 := hid k1; clear b1 k1 s1))
        (try simp only [Exit.inBlock, Exit.then])
        refine bodyPost_ret (results_cell_tmp rfl w.heap.size (M.getD Ent.zero).cells _ rfl B1.out.whole Tryz.underlying50 rfl (sz50 _)) rfl ?_
        rw [HE.out]
        exact ⟨rfl, low_set HI.out.1 K1.out (Nat.le_refl _) HI.out.1.size⟩
      · have q1 : decide ((i : Int) < (Y.all.length : Int)) = false := by simp; omega
        clear h1
        go_wp2_with (first | ((with_reducible refine ld50 (.tmp 8) (w.heap.size + 1) 0 (M.getD Ent.zero) ?_ HI.out.2.2.2.whole ?_); rfl) | ((with_reducible refine st50 (.tmp 6) (.tmp 55) w.heap.size Ent.zero (M.getD Ent.zero) ?_ ?_ HI.out.2.2.1 ?_); rfl; rfl; intro w1 b1 k1 s1; have B1 := hid b1; have K1 := hid k1; clear b1 k1 s1))
        (try simp only [Exit.inBlock, Exit.then])
        refine bodyPost_ret (results_cell_tmp rfl w.heap.size (M.getD Ent.zero).cells _ rfl B1.out.whole Tryz.underlying50 rfl (sz50 _)) rfl ?_
        rw [HE.out]
        exact ⟨rfl, low_set HI.out.1 K1.out (Nat.le_refl _) HI.out.1.size⟩
end Go.Proofs.YtphapknfkbgapaaGreatDoor
namespace Go.Proofs.YtphapknfkbgapaaGreatDoor
open Go.RowKit

variable {F : Nat → Prop} {b : Nat} {Y : RS}

theorem info113 : (Tryz.prog.info? 121).map (fun i => (i.zero, i.size, i.bytes)) = some (some (.agg #[.string ⟨#[]⟩, .int .i64 0, .int .i64 0, .int .i64 0, .string ⟨#[]⟩, .bool false, .bool false]), 7, 72) := by kernel_rfl
set_option maxRecDepth 100000 in
set_option maxHeartbeats 400000 in
theorem put_any (w : World) (e : Ent) (h : RIn w F b Y) (hn : Y.all.length ≤ 100000000) :
    Calls Tryz.prog 72 #[.pointer (some ⟨b, 0, none⟩), .agg e.cells.toArray] w fun r w' =>
      r = .returned (.tuple #[]) ∧ RIn w' (grow F w w') b { Y with all := Y.all ++ [⟨{ e with rev := Y.all.length + 1 }, false⟩] } ∧ Kept F w w' := by
  obtain ⟨h8, vA, vK, vS, vO, vN, hO⟩ := h
  obtain ⟨vA', hv, hown, hF⟩ := hO.row 0 rfl
  obtain rfl : vA' = vA := (Option.some.inj hv).symm
  have HO := hid hO
  have HW := hid hown
  obtain ⟨a, cap, rfl, _, _⟩ := ownsRow_view hown
  have c3 : w.cell? ⟨b, 3, none⟩ = some (.slice a Y.all.length cap) := hO.cell 3
  have hb := hO.lt
  clear hO hown hv hF
  have hl6 : e.cells.length = 6 := rfl
  go_enter Tryz.func72, Tryz.ntmps72
  go_upto_region 2 with fail
  go_name_world W hW
  obtain ⟨e', he'⟩ : ∃ e' : Ent, e' = { e with rev := (Y.all.length : Int) + 1 } := ⟨_, rfl⟩
  have hB : Blk W w.heap.size 50 e'.cells := by rw [← hW, he']; exact Blk.new w 50 _
  have hL : Low w.heap.size w W := by rw [← hW]; exact (Low.refl _ w).alloc (Nat.le_refl _) _
  have hS : W.heap.size = w.heap.size + 1 := by rw [← hW]; simp
  have HO1 := hid (HO.out.low hL)
  have HW1 := hid (ownsRow_at HW.out (fun k hk => hL.block k (HW.out.lt k hk).2))
  have HB := hid hB
  have HL := hid hL
  have c3' : W.cell? ⟨b, 3, none⟩ = some (.slice a Y.all.length cap) := HO1.out.cell 3
  have e0 : W.cell? ⟨w.heap.size, 0, none⟩ = some (.string e'.path) := hB.cell 0
  have e1 : W.cell? ⟨w.heap.size, 1, none⟩ = some (.int .i64 e'.rev) := hB.cell 1
  have e2 : W.cell? ⟨w.heap.size, 2, none⟩ = some (.int .i64 e'.key) := hB.cell 2
  have e3 : W.cell? ⟨w.heap.size, 3, none⟩ = some (.int .i64 e'.draw) := hB.cell 3
  have e4 : W.cell? ⟨w.heap.size, 4, none⟩ = some (.string e'.sealed) := hB.cell 4
  have e5 : W.cell? ⟨w.heap.size, 5, none⟩ = some (.bool e'.gone) := hB.cell 5
  have HE := hid he'
  have HS := hid hS
  have HN2 : Hid ((Value.slice a Y.all.length cap).ownBlock ≠ some w.heap.size) := fun e => by have := (HW.out.lt _ e).2; omega
  have HN := hid (HO1.out.apart 0 rfl rfl)
  have hbW : b < W.heap.size := HO1.out.lt
  clear hB hL he' hW c3 hS
  go_region_law
    ((refine step_append_mine _ rfl (.tmp 15) (.tmp 18) 66 rfl 121 _ 7 72 Tryz.underlying66 info113 rfl (by omega) (.slice a Y.all.length cap) Y.all.length (Y.all.flatMap RKept.cells) ?_ ?_ ⟨W.heap.size, 0, none⟩ 1 1 (RKept.mk e' false).cells ?_ rfl ?_ (RKept.one _) ⟨by omega, by omega⟩ ?_; rfl; exact (World.ownsRow.alloc (w := W) HW1.out _); rfl; exact (news_new W (RKept.mk e' false).cells 121); intro v' w1 o1 k1 p1; obtain ⟨a', cap', rfl, _, _⟩ := ownsRow_view o1; have O1 := hid o1; have K1 := hid k1; have P1 := hid p1; have c3w : w1.cell? ⟨b, 3, none⟩ = some (.slice a Y.all.length cap) := Kept.cell k1 (by exact (World.cell?_alloc_lt _ _ _ hbW).trans c3') HN.out; have f3w : w1.frozen? ⟨b, 3, none⟩ = false := (Kept.frozen k1 (by simp; omega) HN.out).trans (by exact (World.frozen?_alloc_past _ _ _ hbW).trans (HO1.out.frozen 3)); clear o1 k1 p1))
  all_goals go_end0
  all_goals
    obtain ⟨q1, q2⟩ := HO.out.appended HL.out 0 rfl rfl K1.out.of_drew O1.out P1.out (Y.offs 0 rfl)
    refine ⟨rfl, ⟨h8, .slice a' (Y.all.length + 1) cap', vK, vS, vO, vN, q1.cast rfl ?_⟩, q2⟩
    simp [RS.rows, HE.out]
end Go.Proofs.YtphapknfkbgapaaGreatDoor
namespace Go.Proofs.YtphapknfkbgapaaGreatDoor
open Go.RowKit

variable {F : Nat → Prop} {b : Nat} {Y : RS}

def isPath (p : ByteArray) : Bool := decide (0 < p.size) && decide (p.size ≤ 16)
theorem path_any (w : World) (p : ByteArray) (hp : p.size ≤ maxLen) :
    Calls Tryz.prog 95 #[.string p] w fun e w' => e = .returned (.bool (isPath p)) ∧ w' = w := by
  unfold maxLen at hp
  by_cases h1 : 0 < p.size
  · have q1 : decide ((0 : Int) < (p.size : Int)) = true := by simp; omega
    by_cases h2 : p.size ≤ 16
    · have q2 : decide ((p.size : Int) ≤ 16) = true := by simp; omega
      have HE : Hid (isPath p = true) := by show _ = _; simp [isPath, h1, h2]
      go_enter Tryz.func95, Tryz.ntmps95
      go_wp2
      go_ret
      exact ⟨by rw [HE.out]; simp, rfl⟩
    · have q2 : decide ((p.size : Int) ≤ 16) = false := by simp; omega
      have HE : Hid (isPath p = false) := by show _ = _; simp [isPath, h2]
      go_enter Tryz.func95, Tryz.ntmps95
      go_wp2
      go_ret
      exact ⟨by rw [HE.out]; simp, rfl⟩
  · have q1 : decide ((0 : Int) < (p.size : Int)) = false := by rw [decide_eq_false_iff_not]; omega
    have HE : Hid (isPath p = false) := by show _ = _; simp [isPath, h1]
    go_enter Tryz.func95, Tryz.ntmps95
    go_wp2
    go_ret
    exact ⟨by rw [HE.out]; simp, rfl⟩
def fullOf (Y : RS) : Bool := decide (Y.room ≤ ((keptOf Y.all).length : Int))
set_option maxHeartbeats 400000 in
theorem full_any (w : World) (h : RIn w F b Y) (hn : Y.all.length ≤ 100000000) :
    Calls Tryz.prog 71 #[.pointer (some ⟨b, 0, none⟩)] w fun e w' => e = .returned (.bool (fullOf Y)) ∧ Low w.heap.size w w' := by
  have HR := hid h
  clear h
  go_enter Tryz.func71, Tryz.ntmps71
  go_wp2_with (go_at_call 58; refine (Entries_any _ HR.out hn).mono ?_; rintro e y1 ⟨v, rfl, l1, o1, b1⟩; obtain ⟨a, cap, rfl, _, _⟩ := ownsRow_view o1; have c1 := (HR.out.low l1).room; have L1 := hid l1; clear l1 o1 b1)
  go_ret
  exact ⟨by simp [fullOf], L1.out⟩
/-- The state as it is told. -/
def stCells (rev floor epoch write turn : Int) : List Value := [.int .i64 rev, .int .i64 floor, .int .i64 epoch, .int .i64 write, .int .i64 turn]
theorem sz54 (a b c d e : Int) : (Tryz.prog.info? 54).map (·.size) = some (stCells a b c d e).length := show _ = some 5 by kernel_rfl
set_option maxRecDepth 100000 in
set_option maxHeartbeats 400000 in
theorem State_any (w : World) (h : RIn w F b Y) (hk : Y.keys.length ≤ 6) :
    Calls Tryz.prog 56 #[.pointer (some ⟨b, 0, none⟩)] w fun e w' => e = .returned (.agg (stCells Y.all.length Y.floor Y.epoch (writesOf Y.keys Y.epoch) Y.turn).toArray) ∧ Low w.heap.size w w' := by
  obtain ⟨a, cap, hc, _⟩ := h.all
  rw [List.length_map] at hc
  have c7 := h.epoch
  have c8 := h.floor
  have c10 := h.turn
  have hb := h.lt
  have HR := hid h
  clear h
  go_enter Tryz.func56, Tryz.ntmps56
  go_upto_region 2 with (go_at_call 65; refine (writes_any _ _ (by exact HR.out.alloc _) hk).mono ?_; rintro e y1 ⟨rfl, rfl⟩)
  go_region
  all_goals go_wp2_with fail
  refine bodyPost_ret (results_cell rfl w.heap.size (stCells Y.all.length Y.floor Y.epoch (writesOf Y.keys Y.epoch) Y.turn) _ rfl (by exact (Blk.new w 54 (stCells Y.all.length Y.floor Y.epoch (writesOf Y.keys Y.epoch) Y.turn)).whole) Tryz.underlying54 rfl (sz54 _ _ _ _ _)) rfl ?_
  exact ⟨rfl, ((Low.refl _ w).alloc (Nat.le_refl _) _).drew⟩
/-- The bytes of a draw's nonce. -/
def nonceB (n : Int) (j : Nat) : UInt8 := UInt8.ofNat (n / 256 ^ j % 256).toNat
def nonceTo (n : Int) (k : Nat) : ByteArray := ⟨((List.range k).map (nonceB n)).toArray⟩
theorem nonceTo_size (n : Int) (k : Nat) : (nonceTo n k).size = k := by simp [nonceTo, ByteArray.size]
theorem nonceTo_succ (n : Int) (k : Nat) : nonceTo n (k + 1) = nonceTo n k ++ ⟨#[nonceB n k]⟩ := by
  apply ByteArray.ext
  simp [nonceTo, List.range_succ]
theorem bytes256 (x : Int) (h : 0 ≤ x) : 0 ≤ x / 256 := Int.ediv_nonneg h (by omega)
set_option maxRecDepth 100000 in
set_option maxHeartbeats 400000 in
theorem drawn_any (w : World) (n : Int) (h0 : 0 ≤ n) (h1 : n ≤ 1000000000000) :
    Calls Tryz.prog 102 #[.int .i64 n] w fun e w' => e = .returned (.string (nonceTo n 12)) ∧ Low w.heap.size w w' := by
  have hns := nonceTo_size n
  go_enter Tryz.func102, Tryz.ntmps102
  go_wp2
  go_loopw [0, 3, 4] (fun nv sv iv wr => ∃ (i : Nat) (x : Int) (s : ByteArray), i ≤ 12 ∧ 0 ≤ x ∧ x ≤ 1000000000000 ∧ s.size ≤ 12 ∧ nv = .int .i64 x ∧ sv = .string s ∧ iv = .int .i64 (i : Int) ∧ Hid (x = n / 256 ^ i ∧ s = nonceTo n i ∧ Low w.heap.size w wr)) (fun _ _ iv _ => 12 - (intOf iv).toNat)
  case atStart => exact ⟨0, n, nonceTo n 0, by omega, h0, h1, by rw [hns]; omega, rfl, rfl, rfl, by simp, rfl, Low.refl _ _⟩
  case round =>
    obtain ⟨i, x, s, hi, x0, x1, hs, rfl, rfl, rfl, HI⟩ := hrel
    clear h0 h1 hns
    by_cases h2 : i < 12
    · have q1 : decide ((i : Int) < 12) = true := by simp; omega
      obtain ⟨y, hy⟩ : ∃ y : Nat, x % 256 = (y : Int) := ⟨(x % 256).toNat, by omega⟩
      have y1 : y < 256 := by omega
      have hcv := conv1 wr y y1
      have HY := hid hy
      have t1 : Int.tmod x 256 = (y : Int) := by rw [Int.tmod_eq_emod_of_nonneg x0]; exact hy
      have t2 : Int.tdiv x 256 = x / 256 := Int.tdiv_eq_ediv_of_nonneg x0
      have hz := bytes256 x x0
      clear hy
      go_wp2_with fail
      obtain ⟨e1, e2, e3⟩ := HI.out
      have eb : (⟨#[UInt8.ofNat y]⟩ : ByteArray) = ⟨#[nonceB n i]⟩ := by
        unfold nonceB
        rw [← e1, HY.out, Int.toNat_natCast]
      have es : s ++ ⟨#[UInt8.ofNat y]⟩ = nonceTo n (i + 1) := by rw [nonceTo_succ, ← e2, eb]
      refine ⟨⟨i + 1, x / 256, nonceTo n (i + 1), by omega, hz, by omega, by rw [nonceTo_size]; omega, rfl, by rw [es], by simp, ?_, rfl, e3.alloc e3.size _⟩, by simp [intOf]; omega⟩
      rw [e1, Int.ediv_ediv_of_nonneg (Int.pow_nonneg (by omega)), ← Int.pow_succ]
    · have q1 : decide ((i : Int) < 12) = false := by simp; omega
      obtain rfl : i = 12 := by omega
      go_wp2_with fail
      go_ret
      exact ⟨by rw [HI.out.2.1]; rfl, HI.out.2.2⟩
end Go.Proofs.YtphapknfkbgapaaGreatDoor
namespace Go.Proofs.YtphapknfkbgapaaGreatDoor
open Go.RowKit

variable {F : Nat → Prop} {b : Nat} {Y : RS}

/-- What opens, and what it is. -/
def openB (key nonce path s : ByteArray) : Bool := decide (rd64 s (s.size - 8) = tagI key nonce path (coverOf s))
def openT (key nonce path s : ByteArray) : ByteArray := if openB key nonce path s then maskOf key nonce (coverOf s) else ⟨#[]⟩
def openE (key nonce path s : ByteArray) : Int := if openB key nonce path s then 0 else 3
theorem OpenR_any (key nonce path s : ByteArray) (w : World) (h : goodP key nonce path) (s0 : 8 ≤ s.size) (s1 : s.size ≤ 72) :
    Calls Tryz.prog 114 #[.string key, .string nonce, .string path, .string s] w fun e w' => e = .returned (.tuple #[.string (openT key nonce path s), .int .i64 (openE key nonce path s)]) ∧ Low w.heap.size w w' := by
  unfold openT openE
  by_cases ho : opens key nonce path s
  · have : openB key nonce path s = true := by simp only [openB]; exact decide_eq_true ho
    rw [this]
    exact OpenR_yes _ _ _ _ w h s0 s1 ho
  · have : openB key nonce path s = false := by simp only [openB]; exact decide_eq_false ho
    rw [this]
    exact OpenR_bad _ _ _ _ w h s0 s1 ho
/-- What an entry tells to one who has seen an epoch. -/
def openedOf (K : RKey) (e : Ent) (seen : Int) : ByteArray × Int :=
  if decide (seen < K.came) then (⟨#[]⟩, 13) else if K.gone then (⟨#[]⟩, 14) else
  if openB K.text (nonceTo e.draw 12) e.path e.sealed then (maskOf K.text (nonceTo e.draw 12) (coverOf e.sealed), 0) else (⟨#[]⟩, 3)
theorem wrap_id (x : Int) (h0 : -1000000000000000 ≤ x) (h1 : x ≤ 1000000000000000) : IntKind.i64.wrap x = x := by
  rw [IntKind.wrap_i64]; omega
structure EntOk (e : Ent) : Prop where
  path : 1 ≤ e.path.size ∧ e.path.size ≤ 16
  draw : 0 ≤ e.draw ∧ e.draw ≤ 1000000000000
  sealed : 8 ≤ e.sealed.size ∧ e.sealed.size ≤ 72

set_option maxRecDepth 100000 in
set_option maxHeartbeats 1000000 in
theorem opened_any (w : World) (e : Ent) (seen : Int) (K : RKey) (i : Nat) (h : RIn w F b Y) (hk : Y.keys[i]? = some K) (hi : e.key = (i : Int) + 1) (hi6 : i ≤ 6) (hK : K.text.size = 48) (hE : EntOk e) :
    Calls Tryz.prog 105 #[.pointer (some ⟨b, 0, none⟩), .agg #[.string e.path, .int .i64 e.rev, .int .i64 e.key, .int .i64 e.draw, .string e.sealed, .bool e.gone], .int .i64 seen] w fun r w' =>
      r = .returned (.tuple #[.string (openedOf K e seen).1, .int .i64 (openedOf K e seen).2]) ∧ Low w.heap.size w w' := by
  obtain ⟨a, cap, hc, hel⟩ := h.keys
  rw [List.length_map] at hc
  obtain ⟨g, rfl, hg, hcs, _⟩ := hel i K.cells (by simp [hk])
  have c0 : w.cell? ⟨g, i * 4, none⟩ = some (.string K.text) := hcs 0 (by omega)
  have c1 : w.cell? ⟨g, i * 4 + 1, none⟩ = some (.int .i64 K.came) := hcs 1 (by omega)
  have c3 : w.cell? ⟨g, i * 4 + 3, none⟩ = some (.bool K.gone) := hcs 3 (by omega)
  have hil : i < Y.keys.length := (List.getElem?_eq_some_iff.1 hk).1
  have hb := h.lt
  have HG : Hid (goodP K.text (nonceTo e.draw 12) e.path) := ⟨hK, nonceTo_size _ _, hE.path.1, hE.path.2⟩
  have HE := hid hE
  have hD := hE.draw
  have HK := hid hi
  have he1 : e.key - 1 = (i : Int) := by omega
  have hi1 : (i : Int) < (Y.keys.length : Int) := by omega
  have hi0 : (0 : Int) ≤ (i : Int) := by omega
  have hwr : IntKind.i64.wrap (i : Int) = (i : Int) := wrap_id _ (by omega) (by omega)
  have ek0 : 1 ≤ e.key := by omega
  have ek1 : e.key ≤ 7 := by omega
  clear hcs hel hk h hK hE hi
  cases q1 : decide (seen < K.came)
  · cases q2 : K.gone
    · go_enter Tryz.func105, Tryz.ntmps105
      go_upto_region 1 with fail
      go_region
      go_upto_region 3 with fail
      go_region
      go_upto_region 5 with fail
      go_name_world W hW
      have hs : W.heap.size = w.heap.size + 1 := by rw [← hW]; simp
      have hS : W.cell? ⟨b, 4, none⟩ = some (.slice (some ⟨g, 0, none⟩) Y.keys.length cap) ∧ W.cell? ⟨g, i * 4, none⟩ = some (.string K.text) ∧ W.cell? ⟨w.heap.size, 0, none⟩ = some (.string e.path) ∧ W.cell? ⟨w.heap.size, 2, none⟩ = some (.int .i64 e.key) ∧ W.cell? ⟨w.heap.size, 3, none⟩ = some (.int .i64 e.draw) ∧ W.cell? ⟨w.heap.size, 4, none⟩ = some (.string e.sealed) := by
        rw [← hW]
        exact ⟨(World.cell?_alloc_lt w _ _ hb).trans hc, (World.cell?_alloc_lt w _ _ hg).trans c0, (Blk.new w 50 e.cells).cell 0, (Blk.new w 50 e.cells).cell 2, (Blk.new w 50 e.cells).cell 3, (Blk.new w 50 e.cells).cell 4⟩
      have hL : Low w.heap.size w W := by rw [← hW]; exact ((Low.refl _ w).alloc (Nat.le_refl _) _).drew.drew
      have HL := hid hL
      have HS := hid hs
      have lb : b < W.heap.size := by omega
      have lg : g < W.heap.size := by omega
      have lw : w.heap.size < W.heap.size := by omega
      obtain ⟨s1, s2, s3, s4, s5, s6⟩ := hS
      clear hW hL hs hb hg hc c0 c1 c3
      go_region_held3 (fun W' => W'.cell? ⟨b, 4, none⟩ = some (.slice (some ⟨g, 0, none⟩) Y.keys.length cap) ∧ W'.cell? ⟨g, i * 4, none⟩ = some (.string K.text) ∧ W'.cell? ⟨w.heap.size, 0, none⟩ = some (.string e.path) ∧ W'.cell? ⟨w.heap.size, 2, none⟩ = some (.int .i64 e.key) ∧ W'.cell? ⟨w.heap.size, 3, none⟩ = some (.int .i64 e.draw) ∧ W'.cell? ⟨w.heap.size, 4, none⟩ = some (.string e.sealed)) (first | assumption | go_keep)
        (first | (go_at_call 102; refine (drawn_any _ _ hD.1 hD.2).mono ?_; rintro r y1 ⟨rfl, l1⟩; have S1 : y1.cell? ⟨b, 4, none⟩ = some (.slice (some ⟨g, 0, none⟩) Y.keys.length cap) ∧ y1.cell? ⟨g, i * 4, none⟩ = some (.string K.text) ∧ y1.cell? ⟨w.heap.size, 0, none⟩ = some (.string e.path) ∧ y1.cell? ⟨w.heap.size, 2, none⟩ = some (.int .i64 e.key) ∧ y1.cell? ⟨w.heap.size, 3, none⟩ = some (.int .i64 e.draw) ∧ y1.cell? ⟨w.heap.size, 4, none⟩ = some (.string e.sealed) := ⟨(l1.cell lb).trans s1, (l1.cell lg).trans s2, (l1.cell lw).trans s3, (l1.cell lw).trans s4, (l1.cell lw).trans s5, (l1.cell lw).trans s6⟩; have L1 := hid l1; clear l1)
               | (go_at_call 114; refine (OpenR_any _ _ _ _ _ HG.out HE.out.sealed.1 HE.out.sealed.2).mono ?_; rintro r y2 ⟨rfl, l2⟩; have S2 : y2.cell? ⟨b, 4, none⟩ = some (.slice (some ⟨g, 0, none⟩) Y.keys.length cap) ∧ y2.cell? ⟨g, i * 4, none⟩ = some (.string K.text) ∧ y2.cell? ⟨w.heap.size, 0, none⟩ = some (.string e.path) ∧ y2.cell? ⟨w.heap.size, 2, none⟩ = some (.int .i64 e.key) ∧ y2.cell? ⟨w.heap.size, 3, none⟩ = some (.int .i64 e.draw) ∧ y2.cell? ⟨w.heap.size, 4, none⟩ = some (.string e.sealed) := ⟨(l2.cell (Nat.lt_of_lt_of_le lb L1.out.size)).trans S1.1, (l2.cell (Nat.lt_of_lt_of_le lg L1.out.size)).trans S1.2.1, (l2.cell (Nat.lt_of_lt_of_le lw L1.out.size)).trans S1.2.2.1, (l2.cell (Nat.lt_of_lt_of_le lw L1.out.size)).trans S1.2.2.2.1, (l2.cell (Nat.lt_of_lt_of_le lw L1.out.size)).trans S1.2.2.2.2.1, (l2.cell (Nat.lt_of_lt_of_le lw L1.out.size)).trans S1.2.2.2.2.2⟩; have L2 := hid l2; clear l2))
      cases q3 : openB K.text (nonceTo e.draw 12) e.path e.sealed
      · have q4 : (openE K.text (nonceTo e.draw 12) e.path e.sealed != 0) = true := by simp [openE, q3]
        go_wp2_with fail
        go_ret2
        exact ⟨by simp [openedOf, q1, q2, q3], HL.out.drew.trans ((L1.out.mono (by have := HL.out.size; simpa using this)).trans (L2.out.mono (Nat.le_trans HL.out.size L1.out.size)))⟩
      · have q4 : (openE K.text (nonceTo e.draw 12) e.path e.sealed != 0) = false := by simp [openE, q3]
        go_wp2_with fail
        go_ret2
        exact ⟨by simp [openedOf, q1, q2, q3, openT], HL.out.drew.trans ((L1.out.mono (by have := HL.out.size; simpa using this)).trans (L2.out.mono (Nat.le_trans HL.out.size L1.out.size)))⟩
    · go_enter Tryz.func105, Tryz.ntmps105
      go_upto_region 1 with fail
      go_region
      go_upto_region 3 with fail
      go_region
      go_wp2_with fail
      go_ret2
      exact ⟨by simp [openedOf, q1, q2], ((Low.refl _ w).alloc (Nat.le_refl _) _).drew.drew⟩
  · go_enter Tryz.func105, Tryz.ntmps105
    go_upto_region 1 with fail
    go_region
    go_wp2_with fail
    go_ret2
    exact ⟨by simp [openedOf, q1], ((Low.refl _ w).alloc (Nat.le_refl _) _).drew⟩
end Go.Proofs.YtphapknfkbgapaaGreatDoor
namespace Go.Proofs.YtphapknfkbgapaaGreatDoor
open Go.RowKit

variable {F : Nat → Prop} {b : Nat} {Y : RS}

/-- The draws are counted up. -/
theorem RIn.setDraws {w : World} (h : RIn w F b Y) (n : Int) : RIn (w.setCell ⟨b, 9, none⟩ (.int .i64 n)) F b { Y with draws := n } := by
  obtain ⟨h8, vA, vK, vS, vO, vN, h⟩ := h
  exact ⟨h8, vA, vK, vS, vO, vN, (h.set 9 (.int .i64 n) (by simp [RS.rows])).cast rfl rfl⟩
theorem RIn.inF {w : World} (h : RIn w F b Y) : F b := by
  obtain ⟨h8, vA, vK, vS, vO, vN, h⟩ := h
  exact h.inF
theorem RIn.frozen {w : World} (h : RIn w F b Y) (i : Nat) : w.frozen? ⟨b, i, none⟩ = false := by
  obtain ⟨h8, vA, vK, vS, vO, vN, h⟩ := h
  exact h.frozen i
theorem RIn.more {w : World} {G : Nat → Prop} (h : RIn w F b Y) (hs : ∀ k, F k → G k) (hb : ∀ k, G k → k < w.heap.size) : RIn w G b Y := by
  obtain ⟨h8, vA, vK, vS, vO, vN, h⟩ := h
  exact ⟨h8, vA, vK, vS, vO, vN, h.more hs hb⟩
/-- F may grow by what has come. -/
theorem RIn.grow {w w' : World} (h : RIn w' F b Y) : RIn w' (grow F w w') b Y :=
  h.more (fun _ e => Or.inl e) (fun k e => e.elim (h.below k) (fun e => e.2))
/-- The entry that a secret comes to be. -/
def closedOf (text : ByteArray) (k : Int) (path plain : ByteArray) (draw : Int) : Ent := ⟨path, 0, k, draw, sealOf text (nonceTo draw 12) path plain, false⟩
set_option maxRecDepth 100000 in
set_option maxHeartbeats 1000000 in
theorem closed_any (w : World) (k : Int) (path plain : ByteArray) (K : RKey) (i : Nat) (h : RIn w F b Y) (hk : Y.keys[i]? = some K) (hi : k = (i : Int) + 1) (hi6 : i ≤ 6) (hK : K.text.size = 48) (hp : 1 ≤ path.size ∧ path.size ≤ 16) (hs : plain.size ≤ 64) (hd : 0 ≤ Y.draws ∧ Y.draws + 1 ≤ 1000000000000) :
    Calls Tryz.prog 66 #[.pointer (some ⟨b, 0, none⟩), .int .i64 k, .string path, .string plain] w fun r w' =>
      r = .returned (.agg (closedOf K.text k path plain (Y.draws + 1)).cells.toArray) ∧ RIn w' F b { Y with draws := Y.draws + 1 } ∧ Kept F w w' := by
  obtain ⟨a, cap, hc, hel⟩ := h.keys
  rw [List.length_map] at hc
  obtain ⟨g, rfl, hg, hcs, _⟩ := hel i K.cells (by simp [hk])
  have c9 := h.draws
  have f9 := h.frozen 9
  have hil : i < Y.keys.length := (List.getElem?_eq_some_iff.1 hk).1
  have hb := h.lt
  have HR := hid h
  have HG : Hid (goodP K.text (nonceTo (Y.draws + 1) 12) path) := ⟨hK, nonceTo_size _ _, hp.1, hp.2⟩
  have he1 : k - 1 = (i : Int) := by omega
  have hi1 : (i : Int) < (Y.keys.length : Int) := by omega
  have hi0 : (0 : Int) ≤ (i : Int) := by omega
  have hwr : IntKind.i64.wrap (i : Int) = (i : Int) := wrap_id _ (by omega) (by omega)
  have k0 : 1 ≤ k := by omega
  have k1 : k ≤ 7 := by omega
  have hd0 := hd.1
  have hd1 := hd.2
  have HKK := hid hk
  clear hcs hel h hK hi hk hd
  go_enter Tryz.func66, Tryz.ntmps66
  go_upto_region 2 with fail
  go_name_world W hW
  have hR : RIn W F b { Y with draws := Y.draws + 1 } := by rw [← hW]; exact (HR.out.setDraws _).alloc _
  have hZ : Blk W w.heap.size 50 Ent.zero.cells := by
    have q := Blk.new (w.setCell ⟨b, 9, none⟩ (.int .i64 (Y.draws + 1))) 50 Ent.zero.cells
    rw [World.size_setCell] at q
    rw [← hW]; exact q
  have hKp : Kept F w W := by
    rw [← hW]
    exact (setCell_kept w ⟨b, 9, none⟩ _).trans ((Low.refl _ _).alloc (Nat.le_refl _) _).kept (fun q e => by rw [show q = b from e]; exact HR.out.inF) (fun _ _ f => f.elim)
  have hsz : W.heap.size = w.heap.size + 1 := by rw [← hW]; simp
  obtain ⟨a2, cap2, hc2, hel2⟩ := hR.keys
  rw [List.length_map] at hc2
  obtain ⟨g2, rfl, hg2, hcs2, _⟩ := hel2 i K.cells (by simp [HKK.out])
  have s2 : W.cell? ⟨g2, i * 4, none⟩ = some (.string K.text) := hcs2 0 (by omega)
  have s3 : W.cell? ⟨b, 9, none⟩ = some (.int .i64 (Y.draws + 1)) := hR.draws
  have s1 : W.cell? ⟨b, 4, none⟩ = some (.slice (some ⟨g2, 0, none⟩) Y.keys.length cap2) := hc2
  have lb : b < W.heap.size := by omega
  have HZ := hid hZ
  have HKp := hid hKp
  have HR2 := hid hR
  have HSZ := hid hsz
  have hl : Hid (w.heap.size < W.heap.size) := by show _ < _; omega
  clear hR hZ hKp hsz hc2 hel2 hcs2 hW hg hc c9 f9 HKK
  go_region_held3 (fun W' => W'.cell? ⟨b, 4, none⟩ = some (.slice (some ⟨g2, 0, none⟩) Y.keys.length cap2) ∧ W'.cell? ⟨g2, i * 4, none⟩ = some (.string K.text) ∧ W'.cell? ⟨b, 9, none⟩ = some (.int .i64 (Y.draws + 1))) (first | assumption | go_keep)
    (first | (go_at_call 102; refine (drawn_any _ _ (by omega) hd1).mono ?_; rintro r y1 ⟨rfl, l1⟩; have S1 : y1.cell? ⟨b, 4, none⟩ = some (.slice (some ⟨g2, 0, none⟩) Y.keys.length cap2) ∧ y1.cell? ⟨g2, i * 4, none⟩ = some (.string K.text) ∧ y1.cell? ⟨b, 9, none⟩ = some (.int .i64 (Y.draws + 1)) := ⟨(l1.cell lb).trans s1, (l1.cell hg2).trans s2, (l1.cell lb).trans s3⟩; have L1 := hid l1; clear l1)
           | (go_at_call 101; refine (SealR_yes _ _ _ _ _ HG.out hs).mono ?_; rintro r y2 ⟨rfl, l2⟩; have S2 : y2.cell? ⟨b, 4, none⟩ = some (.slice (some ⟨g2, 0, none⟩) Y.keys.length cap2) ∧ y2.cell? ⟨g2, i * 4, none⟩ = some (.string K.text) ∧ y2.cell? ⟨b, 9, none⟩ = some (.int .i64 (Y.draws + 1)) := ⟨(l2.cell (Nat.lt_of_lt_of_le lb L1.out.size)).trans S1.1, (l2.cell (Nat.lt_of_lt_of_le hg2 L1.out.size)).trans S1.2.1, (l2.cell (Nat.lt_of_lt_of_le lb L1.out.size)).trans S1.2.2⟩; have L2 := hid l2; clear l2))
  have L3 : Hid (Low W.heap.size W y2) := (Low.refl _ W).drew.trans (L1.out.trans (L2.out.mono L1.out.size))
  have B3 := hid (HZ.out.low L3.out hl.out)
  obtain ⟨z1, z2, z3⟩ := S2
  clear S1 L1 L2
  go_wp2_with ((with_reducible refine st50 (.tmp 8) (.tmp 46) w.heap.size Ent.zero (closedOf K.text k path plain (Y.draws + 1)) ?_ ?_ B3.out ?_); rfl; rfl; intro w1 b1 k1 t1; have B1 := hid b1; have K1 := hid k1; have T1 := hid t1; clear b1 k1 t1)
  (try simp only [Exit.inBlock, Exit.then])
  refine bodyPost_ret (results_cell rfl w.heap.size (closedOf K.text k path plain (Y.draws + 1)).cells _ rfl B1.out.whole Tryz.underlying50 rfl (sz50 _)) rfl ?_
  refine ⟨rfl, ?_, ?_⟩
  · exact (HR2.out.low L3.out).kept K1.out (fun q hq e => by have := HR.out.below q hq; omega)
  · exact (HKp.out.trans L3.out.kept (H := F) (fun _ f => f) (fun _ _ f => f.elim)).trans K1.out (fun _ f => f) (fun q hq e => by omega)
end Go.Proofs.YtphapknfkbgapaaGreatDoor
namespace Go.Proofs.YtphapknfkbgapaaGreatDoor
open Go.RowKit

variable {F : Nat → Prop} {b : Nat} {Y : RS}
theorem beq0 (n : Nat) : ((n : Int) == 0) = (n == 0) := by
  cases n with
  | zero => rfl
  | succ n => simp; omega
structure AOp where
  kind : Int
  path : ByteArray
  plain : ByteArray
  rev : Int
def AOp.cells (o : AOp) : List Value := [.int .i64 o.kind, .string o.path, .string o.plain, .int .i64 o.rev]
def properOf (o : AOp) : Bool := (isPath o.path && decide (-1 ≤ o.rev)) && ((o.kind == 1 && decide (o.plain.size ≤ 64)) || (o.kind == 2 && (o.plain.size == 0)))
set_option maxRecDepth 100000 in
set_option maxHeartbeats 1000000 in
theorem proper_any (w : World) (o : AOp) (hp : o.path.size ≤ maxLen) (hq : o.plain.size ≤ maxLen) :
    Calls Tryz.prog 64 #[.agg #[.int .i64 o.kind, .string o.path, .string o.plain, .int .i64 o.rev]] w fun e w' => e = .returned (.bool (properOf o)) ∧ Low w.heap.size w w' := by
  have HP := hid hp
  unfold maxLen at hq
  clear hp
  go_enter Tryz.func64, Tryz.ntmps64
  go_wp2_with (go_at_call 95; refine (path_any _ _ HP.out).mono ?_; rintro e y1 ⟨rfl, rfl⟩; generalize hI : isPath o.path = I; have HI := hid hI; clear hI)
  all_goals
    go_ret
    have hI := HI.out
    clear HI
    refine ⟨?_, (Low.refl _ w).alloc (Nat.le_refl _) _⟩
    simp only [properOf, hI]
    simp [*]
  all_goals first | omega | exact beq0 _

theorem isSrv_iff (n : Nat) (s : Int) : isSrv n s = true ↔ 0 ≤ s ∧ s < (n : Int) := by simp [isSrv]
/-- The document's Refresh. -/
def RS.refresh (Y : RS) (s : Int) : RS := { Y with seen := Y.seen.set s.toNat Y.epoch }
def RS.crash (Y : RS) (s : Int) : RS := { Y with seen := Y.seen.set s.toNat 0, ops := Y.ops.set s.toNat RUnd.zero }
set_option maxRecDepth 100000 in
set_option maxHeartbeats 1000000 in
theorem Refresh_yes (w : World) (s : Int) (h : RIn w F b Y) (hs : isSrv Y.seen.length s = true) :
    Calls Tryz.prog 24 #[.pointer (some ⟨b, 0, none⟩), .int .i64 s] w fun e w' => e = .returned (.int .i64 0) ∧ RIn w' F b (Y.refresh s) ∧ Kept F w w' := by
  obtain ⟨h0, h1⟩ := (isSrv_iff _ _).1 hs
  obtain ⟨i, rfl⟩ := Int.eq_ofNat_of_zero_le h0
  have hi : i < Y.seen.length := by omega
  obtain ⟨a, cap, hc, hel⟩ := h.seen
  rw [List.length_map] at hc
  obtain ⟨g, rfl, hg, hcs, hfz⟩ := hel i (one Y.seen[i]) (by rw [List.getElem?_map, List.getElem?_eq_getElem hi]; rfl)
  have c0 : w.cell? ⟨g, i, none⟩ = some (.int .i64 Y.seen[i]) := by have := hcs 0 (by omega); simpa [one] using this
  have f0 := hfz i
  have c7 := h.epoch
  obtain ⟨p1, p2, _⟩ := h.putSeen hc i hi Y.epoch
  have P1 := hid p1
  have P2 := hid p2
  have HR := hid h
  have HS := hid hs
  generalize Y.seen[i] = old at c0
  clear hel hcs hfz p1 p2 h hs
  go_enter Tryz.func24, Tryz.ntmps24
  go_upto_region 4 with (go_at_call 61; refine (server_any _ _ HR.out).mono ?_; rw [HS.out]; rintro e y1 ⟨rfl, rfl⟩)
  go_region
  all_goals go_wp2_with fail
  all_goals go_ret
  all_goals exact ⟨rfl, P1.out.drew, P2.out.drew⟩
theorem Refresh_no (w : World) (s : Int) (h : RIn w F b Y) (hs : isSrv Y.seen.length s = false) :
    Calls Tryz.prog 24 #[.pointer (some ⟨b, 0, none⟩), .int .i64 s] w fun e w' => e = .returned (.int .i64 4) ∧ w' = w := by
  have HR := hid h
  have HS := hid hs
  clear h hs
  go_enter Tryz.func24, Tryz.ntmps24
  go_wp2_with (go_at_call 61; refine (server_any _ _ HR.out).mono ?_; rw [HS.out]; rintro e y1 ⟨rfl, rfl⟩)
  go_ret
  exact ⟨rfl, rfl⟩
set_option maxRecDepth 100000 in
set_option maxHeartbeats 1000000 in
theorem Crash_yes (w : World) (s : Int) (h : RIn w F b Y) (hs : isSrv Y.seen.length s = true) (hl : Y.ops.length = Y.seen.length) :
    Calls Tryz.prog 26 #[.pointer (some ⟨b, 0, none⟩), .int .i64 s] w fun e w' => e = .returned (.int .i64 0) ∧ RIn w' F b (Y.crash s) ∧ Kept F w w' := by
  obtain ⟨h0, h1⟩ := (isSrv_iff _ _).1 hs
  obtain ⟨i, rfl⟩ := Int.eq_ofNat_of_zero_le h0
  have hi : i < Y.seen.length := by omega
  obtain ⟨a, cap, hc, hel⟩ := h.seen
  rw [List.length_map] at hc
  obtain ⟨g, rfl, hg, hcs, hfz⟩ := hel i (one Y.seen[i]) (by rw [List.getElem?_map, List.getElem?_eq_getElem hi]; rfl)
  have c0 : w.cell? ⟨g, i, none⟩ = some (.int .i64 Y.seen[i]) := by have := hcs 0 (by omega); simpa [one] using this
  have f0 := hfz i
  obtain ⟨p1, p2, _⟩ := h.putSeen hc i hi 0
  generalize Y.seen[i] = old at c0
  have P1 := hid p1
  have P2 := hid p2
  have HR := hid h
  have HS := hid hs
  have HI := hid hi
  have HL := hid hl
  clear hel hcs hfz p1 p2 h hs hl
  go_enter Tryz.func26, Tryz.ntmps26
  go_upto_region 5 with (go_at_call 61; refine (server_any _ _ HR.out).mono ?_; rw [HS.out]; rintro e y1 ⟨rfl, rfl⟩)
  go_name_world W hW
  rw [hW] at P1 P2
  obtain ⟨a2, cap2, hc2, hel2⟩ := P1.out.ops
  rw [List.length_map] at hc2
  have hi2 : i < Y.ops.length := by have := HL.out; have := HI.out; omega
  have hi3 : (i : Int) < (Y.ops.length : Int) := by omega
  obtain ⟨g2, rfl, hg2, _, _⟩ := hel2 i (Y.ops[i]).cells (by rw [List.getElem?_map, List.getElem?_eq_getElem hi2]; rfl)
  obtain ⟨r1, r2, r3⟩ := P1.out.putOp hc2 i hi2 RUnd.zero
  have R1 := hid r1
  have R2 := hid r2
  have R3 := hid r3
  clear r1 r2 r3 hel2 hW
  have hc3 : W.cell? ⟨b, 6, none⟩ = some (.slice (some ⟨g2, 0, none⟩) Y.ops.length cap2) := hc2
  clear hc2
  go_wp2_with ((with_reducible refine st72 (.tmp 23) (.tmp 22) g2 (i * 9) RUnd.zero ?_ ?_ R3.out ?_); rfl; rfl)
  go_ret
  exact ⟨rfl, R1.out, P2.out.trans R2.out (fun _ f => f) (fun _ _ f => f)⟩
theorem Crash_no (w : World) (s : Int) (h : RIn w F b Y) (hs : isSrv Y.seen.length s = false) :
    Calls Tryz.prog 26 #[.pointer (some ⟨b, 0, none⟩), .int .i64 s] w fun e w' => e = .returned (.int .i64 4) ∧ w' = w := by
  have HR := hid h
  have HS := hid hs
  clear h hs
  go_enter Tryz.func26, Tryz.ntmps26
  go_wp2_with (go_at_call 61; refine (server_any _ _ HR.out).mono ?_; rw [HS.out]; rintro e y1 ⟨rfl, rfl⟩)
  go_ret
  exact ⟨rfl, rfl⟩
end Go.Proofs.YtphapknfkbgapaaGreatDoor
namespace Go.Proofs.YtphapknfkbgapaaGreatDoor
open Go.RowKit

variable {F : Nat → Prop} {b : Nat} {Y : RS}

/-- A server's place in the lists. -/
structure At (Y : RS) (i : Nat) (sn : Int) (u : RUnd) : Prop where
  seen : Y.seen[i]? = some sn
  op : Y.ops[i]? = some u
theorem RIn.seenAt {w : World} {i : Nat} {sn : Int} {u : RUnd} (h : RIn w F b Y) (ha : At Y i sn u) : ∃ g cap, w.cell? ⟨b, 5, none⟩ = some (.slice (some ⟨g, 0, none⟩) Y.seen.length cap) ∧ g < w.heap.size ∧ w.cell? ⟨g, i, none⟩ = some (.int .i64 sn) := by
  obtain ⟨a, cap, hc, hel⟩ := h.seen
  rw [List.length_map] at hc
  obtain ⟨g, rfl, hg, hcs, _⟩ := hel i (one sn) (by rw [List.getElem?_map, ha.seen]; rfl)
  exact ⟨g, cap, hc, hg, by have := hcs 0 (by omega); simpa [one] using this⟩
theorem RIn.opAt {w : World} {i : Nat} {sn : Int} {u : RUnd} (h : RIn w F b Y) (ha : At Y i sn u) : ∃ g cap, w.cell? ⟨b, 6, none⟩ = some (.slice (some ⟨g, 0, none⟩) Y.ops.length cap) ∧ g < w.heap.size ∧ (∀ j, j < 9 → w.cell? ⟨g, i * 9 + j, none⟩ = u.cells[j]?) := by
  obtain ⟨a, cap, hc, hel⟩ := h.ops
  rw [List.length_map] at hc
  obtain ⟨g, rfl, hg, hcs, _⟩ := hel i u.cells (by rw [List.getElem?_map, ha.op]; rfl)
  exact ⟨g, cap, hc, hg, hcs⟩
theorem RIn.keyAt {w : World} {i : Nat} {K : RKey} (h : RIn w F b Y) (hk : Y.keys[i]? = some K) : ∃ g cap, w.cell? ⟨b, 4, none⟩ = some (.slice (some ⟨g, 0, none⟩) Y.keys.length cap) ∧ g < w.heap.size ∧ (∀ j, j < 4 → w.cell? ⟨g, i * 4 + j, none⟩ = K.cells[j]?) := by
  obtain ⟨a, cap, hc, hel⟩ := h.keys
  rw [List.length_map] at hc
  obtain ⟨g, rfl, hg, hcs, _⟩ := hel i K.cells (by rw [List.getElem?_map, hk]; rfl)
  exact ⟨g, cap, hc, hg, hcs⟩
theorem At.len {i : Nat} {sn : Int} {u : RUnd} (ha : At Y i sn u) : i < Y.seen.length ∧ i < Y.ops.length :=
  ⟨(List.getElem?_eq_some_iff.1 ha.seen).1, (List.getElem?_eq_some_iff.1 ha.op).1⟩
theorem At.srv {i : Nat} {sn : Int} {u : RUnd} (ha : At Y i sn u) : isSrv Y.seen.length (i : Int) = true := by
  have := ha.len.1
  rw [isSrv_iff]; omega
set_option maxRecDepth 100000 in
set_option maxHeartbeats 1000000 in
theorem Begin_srv (w : World) (s : Int) (o : AOp) (h : RIn w F b Y) (hs : isSrv Y.seen.length s = false) :
    Calls Tryz.prog 28 #[.pointer (some ⟨b, 0, none⟩), .int .i64 s, .agg #[.int .i64 o.kind, .string o.path, .string o.plain, .int .i64 o.rev]] w fun e w' => e = .returned (.int .i64 4) ∧ Low w.heap.size w w' := by
  have HR := hid h
  have HS := hid hs
  clear h hs
  go_enter Tryz.func28, Tryz.ntmps28
  go_wp2_with (go_at_call 61; refine (server_any _ _ (by exact HR.out.alloc _)).mono ?_; rw [HS.out]; rintro e y1 ⟨rfl, rfl⟩)
  go_ret
  exact ⟨rfl, (Low.refl _ w).alloc (Nat.le_refl _) _⟩
set_option maxRecDepth 100000 in
set_option maxHeartbeats 1000000 in
theorem Begin_busy (w : World) (i : Nat) (sn : Int) (u : RUnd) (o : AOp) (h : RIn w F b Y) (ha : At Y i sn u) (hu : u.on = true) :
    Calls Tryz.prog 28 #[.pointer (some ⟨b, 0, none⟩), .int .i64 i, .agg #[.int .i64 o.kind, .string o.path, .string o.plain, .int .i64 o.rev]] w fun e w' => e = .returned (.int .i64 5) ∧ Low w.heap.size w w' := by
  have HR := hid h
  have HA := hid ha
  have HS := hid ha.srv
  have hb := h.lt
  obtain ⟨gO, capO, hcO, hgO, hcs⟩ := h.opAt ha
  have o0 : w.cell? ⟨gO, i * 9, none⟩ = some (.bool u.on) := hcs 0 (by omega)
  obtain ⟨gS, capS, hcS, hgS, s0⟩ := h.seenAt ha
  have i1 : (i : Int) < (Y.ops.length : Int) := by have := ha.len.2; omega
  have i2 : (i : Int) < (Y.seen.length : Int) := by have := ha.len.1; omega
  clear h hcs ha
  go_enter Tryz.func28, Tryz.ntmps28
  go_wp2_with (go_at_call 61; refine (server_any _ _ (by exact HR.out.alloc _)).mono ?_; rw [HS.out]; rintro e y1 ⟨rfl, rfl⟩)
  go_ret
  exact ⟨rfl, (Low.refl _ w).alloc (Nat.le_refl _) _⟩
set_option maxRecDepth 100000 in
set_option maxHeartbeats 1000000 in
theorem Begin_blind (w : World) (i : Nat) (sn : Int) (u : RUnd) (o : AOp) (h : RIn w F b Y) (ha : At Y i sn u) (hu : u.on = false) (hsn : (sn == 0) = true) :
    Calls Tryz.prog 28 #[.pointer (some ⟨b, 0, none⟩), .int .i64 i, .agg #[.int .i64 o.kind, .string o.path, .string o.plain, .int .i64 o.rev]] w fun e w' => e = .returned (.int .i64 6) ∧ Low w.heap.size w w' := by
  have HR := hid h
  have HA := hid ha
  have HS := hid ha.srv
  have hb := h.lt
  obtain ⟨gO, capO, hcO, hgO, hcs⟩ := h.opAt ha
  have o0 : w.cell? ⟨gO, i * 9, none⟩ = some (.bool u.on) := hcs 0 (by omega)
  obtain ⟨gS, capS, hcS, hgS, s0⟩ := h.seenAt ha
  have i1 : (i : Int) < (Y.ops.length : Int) := by have := ha.len.2; omega
  have i2 : (i : Int) < (Y.seen.length : Int) := by have := ha.len.1; omega
  clear h hcs ha
  go_enter Tryz.func28, Tryz.ntmps28
  go_wp2_with (go_at_call 61; refine (server_any _ _ (by exact HR.out.alloc _)).mono ?_; rw [HS.out]; rintro e y1 ⟨rfl, rfl⟩)
  go_ret
  exact ⟨rfl, (Low.refl _ w).alloc (Nat.le_refl _) _⟩
set_option maxRecDepth 100000 in
set_option maxHeartbeats 1000000 in
theorem Begin_op (w : World) (i : Nat) (sn : Int) (u : RUnd) (o : AOp) (h : RIn w F b Y) (ha : At Y i sn u) (hu : u.on = false) (hsn : (sn == 0) = false) (hp : o.path.size ≤ maxLen) (hq : o.plain.size ≤ maxLen) (ho : properOf o = false) :
    Calls Tryz.prog 28 #[.pointer (some ⟨b, 0, none⟩), .int .i64 i, .agg #[.int .i64 o.kind, .string o.path, .string o.plain, .int .i64 o.rev]] w fun e w' => e = .returned (.int .i64 7) ∧ Low w.heap.size w w' := by
  have HR := hid h
  have HA := hid ha
  have HS := hid ha.srv
  have hb := h.lt
  obtain ⟨gO, capO, hcO, hgO, hcs⟩ := h.opAt ha
  have o0 : w.cell? ⟨gO, i * 9, none⟩ = some (.bool u.on) := hcs 0 (by omega)
  obtain ⟨gS, capS, hcS, hgS, s0⟩ := h.seenAt ha
  have i1 : (i : Int) < (Y.ops.length : Int) := by have := ha.len.2; omega
  have i2 : (i : Int) < (Y.seen.length : Int) := by have := ha.len.1; omega
  clear h hcs ha
  have HP := hid hp
  have HQ := hid hq
  have HO := hid ho
  clear hp hq ho
  go_enter Tryz.func28, Tryz.ntmps28
  go_wp2_with (first | (go_at_call 61; refine (server_any _ _ (by exact HR.out.alloc _)).mono ?_; rw [HS.out]; rintro e y1 ⟨rfl, rfl⟩) | (go_at_call 64; refine (proper_any _ o HP.out HQ.out).mono ?_; rw [HO.out]; rintro e y1 ⟨rfl, l1⟩; have L1 := hid l1; clear l1))
  go_ret
  exact ⟨rfl, ((Low.refl _ w).alloc (Nat.le_refl _) _).trans (L1.out.mono (by simp))⟩
end Go.Proofs.YtphapknfkbgapaaGreatDoor
