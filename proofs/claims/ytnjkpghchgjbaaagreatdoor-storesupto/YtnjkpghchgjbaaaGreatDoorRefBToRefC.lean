import Derived.Deep.DeepMust
import Derived.Test.YtnjkpghchgjbaaaGreatDoorRepToRefA
import Derived.Deep.Cut
import Derived.Lib.ItoaWalk
import Derived.Deep.RegionLaw
import Derived.Deep.AppendLies
namespace Go.Proofs.YtnjkpghchgjbaaaGreatDoor
open Go.RowKit

variable {F : Nat → Prop} {b : Nat} {Y : RS}

/-- What is kept of a list. -/
def keptOf (l : List RKept) : List Ent := (l.filter (fun k => !k.out)).map (·.e)
theorem keptOf_snoc (l : List RKept) (k : RKept) : keptOf (l ++ [k]) = if k.out then keptOf l else keptOf l ++ [k.e] := by
  cases h : k.out <;> simp [keptOf, h]
theorem info50 : (Tryz.prog.info? 50).map (fun i => (i.zero, i.size, i.bytes)) = some (some (.agg #[.string ⟨#[]⟩, .int .i64 0, .int .i64 0, .int .i64 0, .string ⟨#[]⟩, .bool false]), 6, 64) := by kernel_rfl
theorem news50 (w : World) (e : Ent) : ∀ (j : Nat) (u : Value), e.cells[j]? = some u →
    (w.alloc (Obj.cells (List.foldl (fun cs x => cs.setIfInBounds x.snd x.fst) #[Value.string ⟨#[]⟩, Value.int IntKind.i64 0, Value.int IntKind.i64 0, Value.int IntKind.i64 0, Value.string ⟨#[]⟩, Value.bool false] e.cells.zipIdx) 50)).cell? ((⟨w.heap.size, 0, none⟩ : Addr).add j) = some u := by
  intro j u h
  rw [show (List.foldl (fun cs x => cs.setIfInBounds x.snd x.fst) #[Value.string ⟨#[]⟩, Value.int IntKind.i64 0, Value.int IntKind.i64 0, Value.int IntKind.i64 0, Value.string ⟨#[]⟩, Value.bool false] e.cells.zipIdx) = e.cells.toArray from rfl, Addr.add_mid, Nat.zero_add, (Blk.new w 50 e.cells).cell]
  exact h
theorem keptOf_le (l : List RKept) : (keptOf l).length ≤ l.length := by
  simp only [keptOf, List.length_map]; exact List.length_filter_le _ _
set_option maxRecDepth 100000 in
set_option maxHeartbeats 400000 in
theorem Entries_any (w : World) (h : RIn w F b Y) (hn : Y.all.length ≤ 100000000) :
    Calls Tryz.prog 57 #[.pointer (some ⟨b, 0, none⟩)] w fun e w' => ∃ v, e = .returned v ∧ Low w.heap.size w w' ∧ w'.ownsRow 0 50 6 v (keptOf Y.all).length ((keptOf Y.all).flatMap Ent.cells) ∧ ∀ k, v.ownBlock = some k → w.heap.size ≤ k := by
  have HR : Hid (RIn w F b Y) := h
  clear h
  go_enter Tryz.func57, Tryz.ntmps57
  go_wp2
  go_loopw [3, 4] (fun v iv wr => ∃ i : Nat, i ≤ Y.all.length ∧ iv = .int .i64 (i : Int) ∧ Hid (Low w.heap.size w wr ∧ wr.ownsRow 0 50 6 v (keptOf (Y.all.take i)).length ((keptOf (Y.all.take i)).flatMap Ent.cells) ∧ ∀ k, v.ownBlock = some k → w.heap.size ≤ k)) (fun _ iv _ => Y.all.length - (intOf iv).toNat)
  case atStart => exact ⟨0, Nat.zero_le _, rfl, Low.refl _ _, World.ownsRow_nil _ _ _ _, fun k hk => by cases hk⟩
  case round v =>
    obtain ⟨i, hi, rfl, HI⟩ := hrel
    obtain ⟨a, cap, hc, hel⟩ := (HR.out.low HI.out.1).all
    rw [List.length_map] at hc
    by_cases h1 : i < Y.all.length
    · have q1 : decide ((i : Int) < (Y.all.length : Int)) = true := by simp; omega
      obtain ⟨k, hk2⟩ : ∃ k, Y.all[i]? = some k := ⟨_, List.getElem?_eq_getElem h1⟩
      obtain ⟨g, rfl, hg, hcs, _⟩ := hel i k.cells (by simp [hk2])
      have c6 : wr.cell? ⟨g, i * 7 + 6, none⟩ = some (.bool k.out) := hcs 6 (by omega)
      have HC : Hid (wr.rangeAt g (i * 7) k.e.cells) := RKept.entry hcs
      have HS := hid (keptOf_snoc (Y.all.take i) k)
      have HT := hid (take_snoc hk2)
      clear hcs hk2 hel
      cases q3 : k.out
      · have hsz : (keptOf (Y.all.take i)).length + 1 ≤ 1000000000 := by have := keptOf_le (Y.all.take i); simp at this; omega
        have HZ := hid hsz
        have h6 : k.e.cells.length = 6 := rfl
        clear hsz
        go_wp2_with (first | ((with_reducible refine ld50 (.tmp 30) g (i * 7) k.e ?_ HC.out ?_); rfl) | (at_builtin; refine wpList_append_mine _ rfl (.tmp 23) (.tmp 32) 46 rfl 50 _ 6 64 Tryz.underlying46 info50 rfl (by omega) u3 _ _ rfl (HI.out.2.1.alloc _) ⟨wr.heap.size, 0, none⟩ 1 1 k.e.cells rfl rfl (news50 _ _) (Ent.one _) ⟨HZ.out, by omega⟩ ?_; intro v' w1 o1 k1 p1; have O1 := hid o1; have K1 := hid k1; have P1 := hid p1; clear o1 k1 p1))
        go_roundw
        case rel =>
          obtain ⟨l0, o0, b0⟩ := HI.out
          obtain ⟨l1, b1⟩ := append_low l0 b0 K1.out P1.out
          refine ⟨i + 1, by omega, by simp, l1, ?_, b1⟩
          rw [HT.out, HS.out, q3, if_neg (by simp), List.length_append, flat_snoc]
          exact O1.out
        case measure => simp [intOf]; omega
      · go_wp2_with fail
        go_roundw
        case rel => exact ⟨i + 1, by omega, by simp, by rw [HT.out, HS.out, q3]; exact HI.out⟩
        case measure => simp [intOf]; omega
    · have q1 : decide ((i : Int) < (Y.all.length : Int)) = false := by simp; omega
      obtain rfl : i = Y.all.length := by omega
      clear hel
      go_wp2_with fail
      go_ret
      exact ⟨_, rfl, by have := HI.out; rw [List.take_length] at this; exact this⟩

/-- The newest entry of a path among these. -/
def lastOf (l : List RKept) (p : ByteArray) : Option Ent := (l.reverse.find? (fun k => !k.out && (k.e.path.toList == p.toList))).map (·.e)
theorem lastOf_snoc (l : List RKept) (k : RKept) (p : ByteArray) : lastOf (l ++ [k]) p = if !k.out && (k.e.path.toList == p.toList) then some k.e else lastOf l p := by
  unfold lastOf
  rw [List.reverse_append]
  simp only [List.reverse_cons, List.reverse_nil, List.nil_append, List.singleton_append, List.find?_cons]
  cases !k.out && (k.e.path.toList == p.toList) <;> rfl
theorem low_set {B : Nat} {w wr w1 : World} {b : Nat} (l : Low B w wr) (k : Kept (fun q => q = b) wr w1) (hb : B ≤ b) (hs : B ≤ wr.heap.size) : Low B w w1 :=
  ⟨k.os.trans l.os, k.output.trans l.output, Nat.le_trans l.size k.size, fun q hq => (k.block q (by omega) (by omega)).trans (l.block q hq)⟩
set_option maxRecDepth 100000 in
set_option maxHeartbeats 400000 in
theorem last_any (w : World) (p : ByteArray) (rev : Int) (h : RIn w F b Y) (hn : Y.all.length ≤ 100000000) :
    Calls Tryz.prog 69 #[.pointer (some ⟨b, 0, none⟩), .string p, .int .i64 rev] w fun e w' =>
      e = .returned (.tuple #[.agg ((lastOf (Y.all.take rev.toNat) p).getD Ent.zero).cells.toArray, .bool (lastOf (Y.all.take rev.toNat) p).isSome]) ∧ Low w.heap.size w w' := by
  have HR : Hid (RIn w F b Y) := h
  clear h
  go_enter Tryz.func69, Tryz.ntmps69
  go_wp2
  go_loopw [9, 10] (fun ok iv wr => ∃ (i : Nat), i ≤ Y.all.length ∧ i ≤ rev.toNat ∧ ok = .bool (lastOf (Y.all.take i) p).isSome ∧ iv = .int .i64 (i : Int) ∧ Hid (Low w.heap.size w wr ∧ wr.heap.size = w.heap.size + 2 ∧ Blk wr w.heap.size 50 Ent.zero.cells ∧ Blk wr (w.heap.size + 1) 50 ((lastOf (Y.all.take i) p).getD Ent.zero).cells)) (fun _ iv _ => Y.all.length - (intOf iv).toNat)
  case atStart =>
    refine ⟨0, Nat.zero_le _, Nat.zero_le _, rfl, rfl, ?_, by simp, (Blk.new w 50 Ent.zero.cells).alloc _, ?_⟩
    · exact ((Low.refl _ w).alloc (Nat.le_refl _) _).alloc (by simp) _
    · have := Blk.new (w.alloc (.cells Ent.zero.cells.toArray 50)) 50 Ent.zero.cells
      rw [World.size_alloc] at this
      exact this
  case round =>
    obtain ⟨i, hi, hir, rfl, rfl, HI⟩ := hrel
    obtain ⟨a, cap, hc, hel⟩ := (HR.out.low HI.out.1).all
    rw [List.length_map] at hc
    generalize hM : lastOf (Y.all.take i) p = M at HI ⊢
    have HM := hid hM
    clear hM
    by_cases h1 : i < Y.all.length ∧ (i : Int) < rev
    · have q1 : decide ((i : Int) < (Y.all.length : Int)) = true := by simp; omega
      have q2 : decide ((i : Int) < rev) = true := by simp; omega
      obtain ⟨k, hk2⟩ : ∃ k, Y.all[i]? = some k := ⟨_, List.getElem?_eq_getElem h1.1⟩
      obtain ⟨g, rfl, hg, hcs, _⟩ := hel i k.cells (by simp [hk2])
      have c6 : wr.cell? ⟨g, i * 7 + 6, none⟩ = some (.bool k.out) := hcs 6 (by omega)
      have c0 : wr.cell? ⟨g, i * 7, none⟩ = some (.string k.e.path) := hcs 0 (by omega)
      have HC : Hid (wr.rangeAt g (i * 7) k.e.cells) := RKept.entry hcs
      have HS := hid (lastOf_snoc (Y.all.take i) k p)
      have HT := hid (take_snoc hk2)
      have hi1 := h1.1
      have hi2 := h1.2
      clear hcs hk2 hel h1
      cases q3 : k.out
      · cases q4 : (k.e.path.toList == p.toList)
        · go_wp2_with fail
          go_roundw
          case rel => exact ⟨i + 1, by omega, by omega, by rw [HT.out, HS.out, q3, q4, HM.out]; rfl, by simp, by rw [HT.out, HS.out, q3, q4, HM.out]; exact HI.out⟩
          case measure => simp [intOf]; omega
        · go_wp2_with (first | ((with_reducible refine ld50 (.tmp 53) g (i * 7) k.e ?_ HC.out ?_); rfl) | ((with_reducible refine st50 (.tmp 8) (.tmp 54) (w.heap.size + 1) _ k.e ?_ ?_ HI.out.2.2.2 ?_); rfl; rfl; intro w1 b1 k1 s1; have B1 := hid b1; have K1 := hid k1; have S1 := hid s1; clear b1 k1 s1))
          go_roundw
          case rel =>
            have hE : lastOf (Y.all.take (i + 1)) p = some k.e := by rw [HT.out, HS.out, q3, q4]; rfl
            obtain ⟨l0, s0, z0, e0⟩ := HI.out
            exact ⟨i + 1, by omega, by omega, by rw [hE]; rfl, by simp, low_set l0 K1.out (by omega) l0.size, S1.out.trans s0, z0.kept K1.out (by omega), by rw [hE]; exact B1.out⟩
          case measure => simp [intOf]; omega
      · go_wp2_with fail
        go_roundw
        case rel => exact ⟨i + 1, by omega, by omega, by rw [HT.out, HS.out, q3, HM.out]; rfl, by simp, by rw [HT.out, HS.out, q3, HM.out]; exact HI.out⟩
        case measure => simp [intOf]; omega
    · have hE : lastOf (Y.all.take rev.toNat) p = M := by
        rw [← HM.out]
        by_cases h2 : i < Y.all.length
        · rw [show rev.toNat = i by omega]
        · rw [List.take_of_length_le (by omega), List.take_of_length_le (by omega)]
      have HE := hid hE
      clear hE hel HM
      by_cases h2 : i < Y.all.length
      · have q1 : decide ((i : Int) < (Y.all.length : Int)) = true := by simp; omega
        have q2 : decide ((i : Int) < rev) = false := by simp; omega
        clear h1
        go_wp2_with (first | ((with_reducible refine ld50 (.tmp 8) (w.heap.size + 1) 0 (M.getD Ent.zero) ?_ HI.out.2.2.2.whole ?_); rfl) | ((with_reducible refine st50 (.tmp 6) (.tmp 55) w.heap.size Ent.zero (M.getD Ent.zero) ?_ ?_ HI.out.2.2.1 ?_); rfl; rfl; intro w1 b1 k1 s1; have B1 := hid b1; have K1 := hid k1; clear b1 k1 s1))
        (try simp only [Exit.inBlock, Exit.then])
        refine bodyPost_ret (results_cell_tmp rfl w.heap.size (M.getD Ent.zero).cells _ rfl B1.out.whole Tryz.underlying50 rfl (sz50 _)) rfl ?_
        rw [HE.out]
        exact ⟨rfl, low_set HI.out.1 K1.out (Nat.le_refl _) HI.out.1.size⟩
      · have q1 : decide ((i : Int) < (Y.all.length : Int)) = false := by simp; omega
        clear h1
        go_wp2_with (first | ((with_reducible refine ld50 (.tmp 8) (w.heap.size + 1) 0 (M.getD Ent.zero) ?_ HI.out.2.2.2.whole ?_); rfl) | ((with_reducible refine st50 (.tmp 6) (.tmp 55) w.heap.size Ent.zero (M.getD Ent.zero) ?_ ?_ HI.out.2.2.1 ?_); rfl; rfl; intro w1 b1 k1 s1; have B1 := hid b1; have K1 := hid k1; clear b1 k1 s1))
        (try simp only [Exit.inBlock, Exit.then])
        refine bodyPost_ret (results_cell_tmp rfl w.heap.size (M.getD Ent.zero).cells _ rfl B1.out.whole Tryz.underlying50 rfl (sz50 _)) rfl ?_
        rw [HE.out]
        exact ⟨rfl, low_set HI.out.1 K1.out (Nat.le_refl _) HI.out.1.size⟩
end Go.Proofs.YtnjkpghchgjbaaaGreatDoor
namespace Go.Proofs.YtnjkpghchgjbaaaGreatDoor
open Go.RowKit

variable {F : Nat → Prop} {b : Nat} {Y : RS}

theorem info113 : (Tryz.prog.info? 113).map (fun i => (i.zero, i.size, i.bytes)) = some (some (.agg #[.string ⟨#[]⟩, .int .i64 0, .int .i64 0, .int .i64 0, .string ⟨#[]⟩, .bool false, .bool false]), 7, 72) := by kernel_rfl
set_option maxRecDepth 100000 in
set_option maxHeartbeats 400000 in
theorem put_any (w : World) (e : Ent) (h : RIn w F b Y) (hn : Y.all.length ≤ 100000000) :
    Calls Tryz.prog 71 #[.pointer (some ⟨b, 0, none⟩), .agg e.cells.toArray] w fun r w' =>
      r = .returned (.tuple #[]) ∧ RIn w' (grow F w w') b { Y with all := Y.all ++ [⟨{ e with rev := Y.all.length + 1 }, false⟩] } ∧ Kept F w w' := by
  obtain ⟨h8, vA, vK, vS, vO, vN, hO⟩ := h
  obtain ⟨vA', hv, hown, hF⟩ := hO.row 0 rfl
  obtain rfl : vA' = vA := (Option.some.inj hv).symm
  have HO := hid hO
  have HW := hid hown
  obtain ⟨a, cap, rfl, _, _⟩ := ownsRow_view hown
  have c3 : w.cell? ⟨b, 3, none⟩ = some (.slice a Y.all.length cap) := hO.cell 3
  have hb := hO.lt
  clear hO hown hv hF
  have hl6 : e.cells.length = 6 := rfl
  go_enter Tryz.func71, Tryz.ntmps71
  go_upto_region 2 with fail
  go_name_world W hW
  obtain ⟨e', he'⟩ : ∃ e' : Ent, e' = { e with rev := (Y.all.length : Int) + 1 } := ⟨_, rfl⟩
  have hB : Blk W w.heap.size 50 e'.cells := by rw [← hW, he']; exact Blk.new w 50 _
  have hL : Low w.heap.size w W := by rw [← hW]; exact (Low.refl _ w).alloc (Nat.le_refl _) _
  have hS : W.heap.size = w.heap.size + 1 := by rw [← hW]; simp
  have HO1 := hid (HO.out.low hL)
  have HW1 := hid (ownsRow_at HW.out (fun k hk => hL.block k (HW.out.lt k hk).2))
  have HB := hid hB
  have HL := hid hL
  have c3' : W.cell? ⟨b, 3, none⟩ = some (.slice a Y.all.length cap) := HO1.out.cell 3
  have e0 : W.cell? ⟨w.heap.size, 0, none⟩ = some (.string e'.path) := hB.cell 0
  have e1 : W.cell? ⟨w.heap.size, 1, none⟩ = some (.int .i64 e'.rev) := hB.cell 1
  have e2 : W.cell? ⟨w.heap.size, 2, none⟩ = some (.int .i64 e'.key) := hB.cell 2
  have e3 : W.cell? ⟨w.heap.size, 3, none⟩ = some (.int .i64 e'.draw) := hB.cell 3
  have e4 : W.cell? ⟨w.heap.size, 4, none⟩ = some (.string e'.sealed) := hB.cell 4
  have e5 : W.cell? ⟨w.heap.size, 5, none⟩ = some (.bool e'.gone) := hB.cell 5
  have HE := hid he'
  have HS := hid hS
  have HN2 : Hid ((Value.slice a Y.all.length cap).ownBlock ≠ some w.heap.size) := fun e => by have := (HW.out.lt _ e).2; omega
  have HN := hid (HO1.out.apart 0 rfl rfl)
  have hbW : b < W.heap.size := HO1.out.lt
  clear hB hL he' hW c3 hS
  go_region_law
    ((refine step_append_mine _ rfl (.tmp 15) (.tmp 18) 61 rfl 113 _ 7 72 Tryz.underlying61 info113 rfl (by omega) (.slice a Y.all.length cap) Y.all.length (Y.all.flatMap RKept.cells) ?_ ?_ ⟨W.heap.size, 0, none⟩ 1 1 (RKept.mk e' false).cells ?_ rfl ?_ (RKept.one _) ⟨by omega, by omega⟩ ?_; rfl; exact (World.ownsRow.alloc (w := W) HW1.out _); rfl; exact (news_new W (RKept.mk e' false).cells 113); intro v' w1 o1 k1 p1; obtain ⟨a', cap', rfl, _, _⟩ := ownsRow_view o1; have O1 := hid o1; have K1 := hid k1; have P1 := hid p1; have c3w : w1.cell? ⟨b, 3, none⟩ = some (.slice a Y.all.length cap) := Kept.cell k1 (by exact (World.cell?_alloc_lt _ _ _ hbW).trans c3') HN.out; have f3w : w1.frozen? ⟨b, 3, none⟩ = false := (Kept.frozen k1 (by simp; omega) HN.out).trans (by exact (World.frozen?_alloc_past _ _ _ hbW).trans (HO1.out.frozen 3)); clear o1 k1 p1))
  all_goals go_end0
  all_goals
    obtain ⟨q1, q2⟩ := HO.out.appended HL.out 0 rfl rfl K1.out.of_drew O1.out P1.out (Y.offs 0 rfl)
    refine ⟨rfl, ⟨h8, .slice a' (Y.all.length + 1) cap', vK, vS, vO, vN, q1.cast rfl ?_⟩, q2⟩
    simp [RS.rows, HE.out]
end Go.Proofs.YtnjkpghchgjbaaaGreatDoor
