import Derived.Test.YtphapknfkbgapabDoorStirred
import Derived.Test.YtphapknfkbgapabDoorStream
import Derived.Laws.CopyOwn
import Derived.Laws.MakeOwn
import Derived.Deep.RegionHeld3
namespace Go.Proofs.YtphapknfkbgapabDoor
open Go.RowKit

theorem lt4 (k : Nat) (h : k < 4) : k = 0 ∨ k = 1 ∨ k = 2 ∨ k = 3 := by omega
theorem col_eq (G : Nat → Int) (i : Nat) (hi : i < 4) : ∀ k, k < 16 → halves G i (4 + i) (8 + i) (12 + i) 4 k = stirJ i G k := by
  intro k hk
  rcases lt4 i hi with rfl | rfl | rfl | rfl
  all_goals
    rcases lt16 k hk with rfl | rfl | rfl | rfl | rfl | rfl | rfl | rfl | rfl | rfl | rfl | rfl | rfl | rfl | rfl | rfl
    all_goals rfl
theorem diag_eq (G : Nat → Int) (i : Nat) (hi : i < 4) : ∀ k, k < 16 → halves G i (4 + (i + 1) % 4) (8 + (i + 2) % 4) (12 + (i + 3) % 4) 4 k = stirJ (4 + i) G k := by
  intro k hk
  rcases lt4 i hi with rfl | rfl | rfl | rfl
  all_goals
    rcases lt16 k hk with rfl | rfl | rfl | rfl | rfl | rfl | rfl | rfl | rfl | rfl | rfl | rfl | rfl | rfl | rfl | rfl
    all_goals rfl
theorem Zx.cast {g : Nat} {G G' : Nat → Int} {w : World} (h : Zx g G w) (e : ∀ k, k < 16 → G k = G' k) : Zx g G' w :=
  ⟨fun k hk => by rw [h.c k hk, e k hk], h.f, fun k hk => by rw [← e k hk]; exact h.i k hk⟩
theorem Zx.later {g B : Nat} {G : Nat → Int} {w w1 : World} (h : Zx g G w) (k : Below B w w1) (hg : g < B) : Zx g G w1 :=
  ⟨fun i hi => (k.cell (p := ⟨g, i, none⟩) hg).trans (h.c i hi), fun i hi => (k.frozen (p := ⟨g, i, none⟩) hg).trans (h.f i hi), h.i⟩

/-- The first n of the words, as cells. -/
def firstN (F : Nat → Int) (n : Nat) : List Value := (List.range n).map fun k => .int .i64 (F k)
theorem firstN_succ (F : Nat → Int) (n : Nat) : firstN F (n + 1) = firstN F n ++ [.int .i64 (F n)] := by simp [firstN, List.range_succ]
theorem firstN_len (F : Nat → Int) (n : Nat) : (firstN F n).length = n := by simp [firstN]
theorem firstN_get (F : Nat → Int) (n k : Nat) (h : k < n) : (firstN F n)[k]? = some (.int .i64 (F k)) := by simp [firstN, h]
theorem fw_key (key nonce : ByteArray) (c : Int) (i : Nat) (h : i < 8) : fw key nonce c (4 + i) = rd32 key (4 * i) := by
  rcases lt8 i h with rfl | rfl | rfl | rfl | rfl | rfl | rfl | rfl
  all_goals rfl
theorem fw_nonce (key nonce : ByteArray) (c : Int) (i : Nat) (h : i < 3) : fw key nonce c (13 + i) = rd32 nonce (4 * i) := by
  have : i = 0 ∨ i = 1 ∨ i = 2 := by omega
  rcases this with rfl | rfl | rfl
  all_goals rfl
theorem fw_bd (key nonce : ByteArray) (c : Int) (h0 : 0 ≤ c) (h1 : c < 4294967296) (k : Nat) (hk : k < 16) : 0 ≤ fw key nonce c k ∧ fw key nonce c k < 4294967296 := by
  rcases lt16 k hk with rfl | rfl | rfl | rfl | rfl | rfl | rfl | rfl | rfl | rfl | rfl | rfl | rfl | rfl | rfl | rfl
  all_goals first | exact rd32_bd _ _ | exact ⟨h0, h1⟩ | (show (0 : Int) ≤ 1634760805 ∧ (1634760805 : Int) < 4294967296; omega) | (show (0 : Int) ≤ 857760878 ∧ (857760878 : Int) < 4294967296; omega) | (show (0 : Int) ≤ 2036477234 ∧ (2036477234 : Int) < 4294967296; omega) | (show (0 : Int) ≤ 1797285236 ∧ (1797285236 : Int) < 4294967296; omega)
theorem own_drewN {w : World} {base : Nat} {e : TypeId} {size : Nat} {v : Value} {n : Nat} {xs : List Value} (h : w.ownsRow base e size v n xs) (k : Nat) : (w.drewN k).ownsRow base e size v n xs := h
theorem info3 : (Tryd.prog.info? 3).map (fun i => (i.zero, i.size, i.bytes)) = some (some (.int .i64 0), 1, 8) := by kernel_rfl
theorem own_slice {w : World} {base : Nat} {e : TypeId} {v : Value} {n : Nat} {xs : List Value} (h : w.ownsRow base e 1 v n xs) (hn : 0 < n) : ∃ g cap, v = .slice (some ⟨g, 0, none⟩) n cap ∧ base ≤ g ∧ g < w.heap.size := by
  rcases h.2 with ⟨_, h0⟩ | ⟨g, cap, cur, rfl, hb, hg, _⟩
  · omega
  · refine ⟨g, cap, rfl, hb, ?_⟩
    rcases Nat.lt_or_ge g w.heap.size with h' | h'
    · exact h'
    · simp [Array.getElem?_eq_none h'] at hg
theorem own_zx {w : World} {base g cap : Nat} {F : Nat → Int} (h : w.ownsRow base 3 1 (.slice (some ⟨g, 0, none⟩) 16 cap) 16 (firstN F 16)) (hF : ∀ k, k < 16 → 0 ≤ F k ∧ F k < 4294967296) : Zx g F w :=
  ⟨fun k hk => by rw [h.cellAt k (by omega), firstN_get F 16 k hk], fun k _ => h.frozenAt k, hF⟩

theorem splice_all (F : Nat → Int) : splice ([.int .i64 0, .int .i64 0, .int .i64 0, .int .i64 0, .int .i64 0, .int .i64 0, .int .i64 0, .int .i64 0, .int .i64 0, .int .i64 0, .int .i64 0, .int .i64 0, .int .i64 0, .int .i64 0, .int .i64 0, .int .i64 0] : List Value) 0 (firstN F 16) = firstN F 16 := by
  simp [splice, firstN_len]
theorem row_zx {w : World} {g : Nat} {F : Nat → Int} (h : w.heap[g]? = some (.cells (firstN F 16).toArray 3 (0, 0))) (hF : ∀ k, k < 16 → 0 ≤ F k ∧ F k < 4294967296) : Zx g F w := by
  refine ⟨fun k hk => ?_, fun k _ => ?_, hF⟩
  · rw [cell_of_row w g k _ 3 (0, 0) h]
    simpa using firstN_get F 16 k hk
  · simp [World.frozen?, h]

theorem src_cell {w : World} {g : Nat} {F : Nat → Int} (h : Zx g F w) {j : Nat} {v : Value} (hj : (firstN F 16)[j]? = some v) : w.cell? ((⟨g, 0, none⟩ : Addr).add j) = some v := by
  have hj' : j < 16 := by
    have := (List.getElem?_eq_some_iff.1 hj).1
    rwa [firstN_len] at this
  rw [firstN_get F 16 j hj'] at hj
  rw [Addr.add_mid, Nat.zero_add, h.c j hj', hj]
theorem firstN_one (F : Nat → Int) (n : Nat) : ∀ v ∈ firstN F n, v.oneCell' = true := by
  intro v hv
  simp only [firstN, List.mem_map] at hv
  obtain ⟨k, _, rfl⟩ := hv
  rfl

theorem wrap_sum (x y : Int) (hx : 0 ≤ x ∧ x < 4294967296) (hy : 0 ≤ y ∧ y < 4294967296) : IntKind.i64.wrap (x + y) = x + y := by
  simp [IntKind.wrap, IntKind.bits, IntKind.signed]
  omega
theorem tmod_sum (x y : Int) (hx : 0 ≤ x ∧ x < 4294967296) (hy : 0 ≤ y ∧ y < 4294967296) : (x + y).tmod 4294967296 = (x + y) % 4294967296 := Int.tmod_eq_emod_of_nonneg (by omega)

end Go.Proofs.YtphapknfkbgapabDoor
