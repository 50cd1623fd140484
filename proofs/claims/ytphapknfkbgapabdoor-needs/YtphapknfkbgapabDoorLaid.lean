import Derived.Test.YtphapknfkbgapabDoorBlock
import Derived.Test.YtphapknfkbgapabDoorTie
import Derived.Test.YtphapknfkbgapabDoorCards
import Derived.ProofKit
import Derived.LaidMore
import Derived.OpenShut
import Derived.ShutString
import Derived.Stop.Joined
import Derived.Lib.LaidTab
import Derived.SevenTiedAt
namespace Go.Proofs.YtphapknfkbgapabDoor
open Go.ChangeShapes Go.WideShapes Go.ChangeAt Go.RowKit

theorem own : ownKnob Tryd.prog.godebug = none := by kernel_rfl
theorem gFours : Tryd.prog.globalNamed "coffer/seal.fours" = some 0 := by kernel_rfl
theorem tFours : (Tryd.prog.globals[0]?).map (·.type) = some 140 := by kernel_rfl

theorem door_met (os : Os) (args : Array Value) : laidMetH Tryd.prog [("coffer/seal.fours", Rows.laid_coffer_seal_fours)] ((World.doorLaid Tryd.prog 400 os).forCall (fun _ _ => 0) ⟨#[], args, []⟩).memory :=
  laidMetH_of_parts3 (fuel := 8) (laidMet_of_run' 8 (by kernel_rfl) (by kernel_rfl)) (by kernel_rfl) (by kernel_rfl)

theorem of_laid {W : World} (h : laidMetH Tryd.prog [("coffer/seal.fours", Rows.laid_coffer_seal_fours)] W) : Fours W ∧ 1 ≤ W.heap.size := by
  rw [MakeChecks.laidMetH_plain _ _ _ (by kernel_rfl)] at h
  obtain ⟨ps, ⟨g0, t0, cs0, f0, p0, q0, hg0, ht0, hv0, hd0, _, _⟩, _, _⟩ := h
  obtain rfl := Option.some.inj (gFours.symm.trans hg0)
  obtain rfl := Option.some.inj (tFours.symm.trans ht0)
  obtain ⟨xs, m1, rfl, hx1, hlen, hn8, hel⟩ := DataW.trod_array Tryd.underlying140 hd0
  have c3 : Tryd.prog.cellsOf 3 = 1 := by kernel_rfl
  have c59 : Tryd.prog.cellsOf 139 = 4 := by kernel_rfl
  simp only [Prod.mk.injEq, Rows.laid_coffer_seal_fours, DataW.agg.injEq] at hx1
  have row : ∀ (i : Nat) (zs : List Int), i < 8 → (xs.map (·.1))[i]? = some (Lib.tabData .i64 zs) → (cs0.toList.drop (i * 4)).take 4 = zs.map (Value.int .i64) := by
    intro i zs hi hz
    have he := hel i hi
    rw [c59] at he
    rw [List.getElem?_map] at hz
    cases hxi : xs[i]? with
    | none => rw [hxi] at hz; simp at hz
    | some x =>
      rw [hxi] at hz he
      obtain ⟨d, p⟩ := x
      simp only [Option.map_some, Option.some.injEq] at hz
      subst hz
      exact Lib.cells_of_tab Tryd.underlying139 Tryd.underlying3 c3 c59 he
  have cell : ∀ (i k : Nat) (zs : List Int), i < 8 → k < 4 → (xs.map (·.1))[i]? = some (Lib.tabData .i64 zs) → W.cell? ⟨0, i * 4 + k, none⟩ = (zs.map (Value.int .i64))[k]? := by
    intro i k zs hi hk hz
    rw [World.var?_cell hg0 hv0, ← row i zs hi hz, List.getElem?_take, if_pos hk, List.getElem?_drop, Array.getElem?_toList]
  rw [← hx1.1] at cell
  have hsz : 1 ≤ W.heap.size := by
    have c00 := cell 0 0 [0, 4, 8, 12] (by omega) (by omega) rfl
    exact World.block_lt_of_cell? W ⟨0, 0 * 4 + 0, none⟩ c00
  refine ⟨⟨cell 0 0 [0, 4, 8, 12] (by omega) (by omega) rfl, cell 0 1 [0, 4, 8, 12] (by omega) (by omega) rfl, cell 0 2 [0, 4, 8, 12] (by omega) (by omega) rfl, cell 0 3 [0, 4, 8, 12] (by omega) (by omega) rfl, cell 1 0 [1, 5, 9, 13] (by omega) (by omega) rfl, cell 1 1 [1, 5, 9, 13] (by omega) (by omega) rfl, cell 1 2 [1, 5, 9, 13] (by omega) (by omega) rfl, cell 1 3 [1, 5, 9, 13] (by omega) (by omega) rfl, cell 2 0 [2, 6, 10, 14] (by omega) (by omega) rfl, cell 2 1 [2, 6, 10, 14] (by omega) (by omega) rfl, cell 2 2 [2, 6, 10, 14] (by omega) (by omega) rfl, cell 2 3 [2, 6, 10, 14] (by omega) (by omega) rfl, cell 3 0 [3, 7, 11, 15] (by omega) (by omega) rfl, cell 3 1 [3, 7, 11, 15] (by omega) (by omega) rfl, cell 3 2 [3, 7, 11, 15] (by omega) (by omega) rfl, cell 3 3 [3, 7, 11, 15] (by omega) (by omega) rfl, cell 4 0 [0, 5, 10, 15] (by omega) (by omega) rfl, cell 4 1 [0, 5, 10, 15] (by omega) (by omega) rfl, cell 4 2 [0, 5, 10, 15] (by omega) (by omega) rfl, cell 4 3 [0, 5, 10, 15] (by omega) (by omega) rfl, cell 5 0 [1, 6, 11, 12] (by omega) (by omega) rfl, cell 5 1 [1, 6, 11, 12] (by omega) (by omega) rfl, cell 5 2 [1, 6, 11, 12] (by omega) (by omega) rfl, cell 5 3 [1, 6, 11, 12] (by omega) (by omega) rfl, cell 6 0 [2, 7, 8, 13] (by omega) (by omega) rfl, cell 6 1 [2, 7, 8, 13] (by omega) (by omega) rfl, cell 6 2 [2, 7, 8, 13] (by omega) (by omega) rfl, cell 6 3 [2, 7, 8, 13] (by omega) (by omega) rfl, cell 7 0 [3, 4, 9, 14] (by omega) (by omega) rfl, cell 7 1 [3, 4, 9, 14] (by omega) (by omega) rfl, cell 7 2 [3, 4, 9, 14] (by omega) (by omega) rfl, cell 7 3 [3, 4, 9, 14] (by omega) (by omega) rfl⟩, hsz⟩
end Go.Proofs.YtphapknfkbgapabDoor
