import Derived.Test.YtphapknfkbgapaaDoorStirred
import Derived.Test.YtphapknfkbgapaaDoorStream
import Derived.Laws.CopyOwn
import Derived.Laws.MakeOwn
import Derived.Deep.RegionHeld3
namespace Go.Proofs.YtphapknfkbgapaaDoor
open Go.RowKit

theorem lt4 (k : Nat) (h : k < 4) : k = 0 ∨ k = 1 ∨ k = 2 ∨ k = 3 := by omega
theorem col_eq (G : Nat → Int) (i : Nat) (hi : i < 4) : ∀ k, k < 16 → halves G i (4 + i) (8 + i) (12 + i) 4 k = stirJ i G k := by
  intro k hk
  rcases lt4 i hi with rfl | rfl | rfl | rfl
  all_goals
    rcases lt16 k hk with rfl | rfl | rfl | rfl | rfl | rfl | rfl | rfl | rfl | rfl | rfl | rfl | rfl | rfl | rfl | rfl
    all_goals rfl
theorem diag_eq (G : Nat → Int) (i : Nat) (hi : i < 4) : ∀ k, k < 16 → halves G i (4 + (i + 1) % 4) (8 + (i + 2) % 4) (12 + (i + 3) % 4) 4 k = stirJ (4 + i) G k := by
  intro k hk
  rcases lt4 i hi with rfl | rfl | rfl | rfl
  all_goals
    rcases lt16 k hk with rfl | rfl | rfl | rfl | rfl | rfl | rfl | rfl | rfl | rfl | rfl | rfl | rfl | rfl | rfl | rfl
    all_goals rfl
theorem Zx.cast {g : Nat} {G G' : Nat → Int} {w : World} (h : Zx g G w) (e : ∀ k, k < 16 → G k = G' k) : Zx g G' w :=
  ⟨fun k hk => by rw [h.c k hk, e k hk], h.f, fun k hk => by rw [← e k hk]; exact h.i k hk⟩
theorem Zx.later {g B : Nat} {G : Nat → Int} {w w1 : World} (h : Zx g G w) (k : Below B w w1) (hg : g < B) : Zx g G w1 :=
  ⟨fun i hi => (k.cell (p := ⟨g, i, none⟩) hg).trans (h.c i hi), fun i hi => (k.frozen (p := ⟨g, i, none⟩) hg).trans (h.f i hi), h.i⟩

theorem stirred_at (g cap : Nat) (a b c d : Int) (a' b' c' d' : Nat) (G : Nat → Int) (w : World) (ea : a = a') (eb : b = b') (ec : c = c') (ed : d = d') (ha : a' < 16) (hb : b' < 16) (hc : c' < 16) (hd : d' < 16) (had : a' ≠ d') (hbc : b' ≠ c') (hz : Zx g G w) (hg : g < w.heap.size) :
    Calls Tryd.prog 63 #[.slice (some ⟨g, 0, none⟩) 16 cap, .int .i64 a, .int .i64 b, .int .i64 c, .int .i64 d] w fun e w' => e = .returned (.tuple #[]) ∧ Zx g (halves G a' b' c' d' 4) w' ∧ But g w w' := by
  subst ea; subst eb; subst ec; subst ed
  exact stirred_any g cap a' b' c' d' G w ha hb hc hd had hbc hz hg

/-- The first n of the words, as cells. -/
def firstN (F : Nat → Int) (n : Nat) : List Value := (List.range n).map fun k => .int .i64 (F k)
theorem firstN_succ (F : Nat → Int) (n : Nat) : firstN F (n + 1) = firstN F n ++ [.int .i64 (F n)] := by simp [firstN, List.range_succ]
theorem firstN_len (F : Nat → Int) (n : Nat) : (firstN F n).length = n := by simp [firstN]
theorem firstN_get (F : Nat → Int) (n k : Nat) (h : k < n) : (firstN F n)[k]? = some (.int .i64 (F k)) := by simp [firstN, h]
theorem fw_key (key nonce : ByteArray) (c : Int) (i : Nat) (h : i < 8) : fw key nonce c (4 + i) = rd32 key (4 * i) := by
  rcases lt8 i h with rfl | rfl | rfl | rfl | rfl | rfl | rfl | rfl
  all_goals rfl
theorem fw_nonce (key nonce : ByteArray) (c : Int) (i : Nat) (h : i < 3) : fw key nonce c (13 + i) = rd32 nonce (4 * i) := by
  have : i = 0 ∨ i = 1 ∨ i = 2 := by omega
  rcases this with rfl | rfl | rfl
  all_goals rfl
theorem fw_bd (key nonce : ByteArray) (c : Int) (h0 : 0 ≤ c) (h1 : c < 4294967296) (k : Nat) (hk : k < 16) : 0 ≤ fw key nonce c k ∧ fw key nonce c k < 4294967296 := by
  rcases lt16 k hk with rfl | rfl | rfl | rfl | rfl | rfl | rfl | rfl | rfl | rfl | rfl | rfl | rfl | rfl | rfl | rfl
  all_goals first | exact rd32_bd _ _ | exact ⟨h0, h1⟩ | (show (0 : Int) ≤ 1634760805 ∧ (1634760805 : Int) < 4294967296; omega) | (show (0 : Int) ≤ 857760878 ∧ (857760878 : Int) < 4294967296; omega) | (show (0 : Int) ≤ 2036477234 ∧ (2036477234 : Int) < 4294967296; omega) | (show (0 : Int) ≤ 1797285236 ∧ (1797285236 : Int) < 4294967296; omega)
theorem own_drewN {w : World} {base : Nat} {e : TypeId} {size : Nat} {v : Value} {n : Nat} {xs : List Value} (h : w.ownsRow base e size v n xs) (k : Nat) : (w.drewN k).ownsRow base e size v n xs := h
theorem info3 : (Tryd.prog.info? 3).map (fun i => (i.zero, i.size, i.bytes)) = some (some (.int .i64 0), 1, 8) := by kernel_rfl
theorem own_slice {w : World} {base : Nat} {e : TypeId} {v : Value} {n : Nat} {xs : List Value} (h : w.ownsRow base e 1 v n xs) (hn : 0 < n) : ∃ g cap, v = .slice (some ⟨g, 0, none⟩) n cap ∧ base ≤ g ∧ g < w.heap.size := by
  rcases h.2 with ⟨_, h0⟩ | ⟨g, cap, cur, rfl, hb, hg, _⟩
  · omega
  · refine ⟨g, cap, rfl, hb, ?_⟩
    rcases Nat.lt_or_ge g w.heap.size with h' | h'
    · exact h'
    · simp [Array.getElem?_eq_none h'] at hg
theorem own_zx {w : World} {base g cap : Nat} {F : Nat → Int} (h : w.ownsRow base 3 1 (.slice (some ⟨g, 0, none⟩) 16 cap) 16 (firstN F 16)) (hF : ∀ k, k < 16 → 0 ≤ F k ∧ F k < 4294967296) : Zx g F w :=
  ⟨fun k hk => by rw [h.cellAt k (by omega), firstN_get F 16 k hk], fun k _ => h.frozenAt k, hF⟩

theorem splice_all (F : Nat → Int) : splice ([.int .i64 0, .int .i64 0, .int .i64 0, .int .i64 0, .int .i64 0, .int .i64 0, .int .i64 0, .int .i64 0, .int .i64 0, .int .i64 0, .int .i64 0, .int .i64 0, .int .i64 0, .int .i64 0, .int .i64 0, .int .i64 0] : List Value) 0 (firstN F 16) = firstN F 16 := by
  simp [splice, firstN_len]
theorem row_zx {w : World} {g : Nat} {F : Nat → Int} (h : w.heap[g]? = some (.cells (firstN F 16).toArray 3 (0, 0))) (hF : ∀ k, k < 16 → 0 ≤ F k ∧ F k < 4294967296) : Zx g F w := by
  refine ⟨fun k hk => ?_, fun k _ => ?_, hF⟩
  · rw [cell_of_row w g k _ 3 (0, 0) h]
    simpa using firstN_get F 16 k hk
  · simp [World.frozen?, h]

theorem src_cell {w : World} {g : Nat} {F : Nat → Int} (h : Zx g F w) {j : Nat} {v : Value} (hj : (firstN F 16)[j]? = some v) : w.cell? ((⟨g, 0, none⟩ : Addr).add j) = some v := by
  have hj' : j < 16 := by
    have := (List.getElem?_eq_some_iff.1 hj).1
    rwa [firstN_len] at this
  rw [firstN_get F 16 j hj'] at hj
  rw [Addr.add_mid, Nat.zero_add, h.c j hj', hj]
theorem firstN_one (F : Nat → Int) (n : Nat) : ∀ v ∈ firstN F n, v.oneCell' = true := by
  intro v hv
  simp only [firstN, List.mem_map] at hv
  obtain ⟨k, _, rfl⟩ := hv
  rfl

theorem wrap_sum (x y : Int) (hx : 0 ≤ x ∧ x < 4294967296) (hy : 0 ≤ y ∧ y < 4294967296) : IntKind.i64.wrap (x + y) = x + y := by
  simp [IntKind.wrap, IntKind.bits, IntKind.signed]
  omega
theorem tmod_sum (x y : Int) (hx : 0 ≤ x ∧ x < 4294967296) (hy : 0 ≤ y ∧ y < 4294967296) : (x + y).tmod 4294967296 = (x + y) % 4294967296 := Int.tmod_eq_emod_of_nonneg (by omega)

set_option maxRecDepth 100000 in
set_option maxHeartbeats 2000000 in
theorem blockR_any (key nonce : ByteArray) (c : Int) (w : World) (hk : key.size = 32) (hn : nonce.size = 12) (c0 : 0 ≤ c) (c1 : c < 4294967296) :
    Calls Tryd.prog 31 #[.string key, .string nonce, .int .i64 c] w fun e w' => e = .returned (.string (blockOf (fw key nonce c))) ∧ Below w.heap.size w w' := by
  obtain ⟨i0, hi, hz0, hz1, hz2⟩ := info_parts info3
  have HK : Hid (key.size = 32) := hk
  have HN : Hid (nonce.size = 12) := hn
  clear hk hn
  obtain ⟨F, hF⟩ : ∃ F, Hid (F = fw key nonce c) := ⟨_, rfl⟩
  have hFb : Hid (∀ k, k < 16 → 0 ≤ F k ∧ F k < 4294967296) := by rw [hF.out]; exact fun k hk => fw_bd key nonce c c0 c1 k hk
  go_enter Tryd.func31, Tryd.ntmps31
  go_upto_region 3 with fail
  have hO0 : Hid ((w.alloc (.cells #[.int .i64 1634760805, .int .i64 857760878, .int .i64 2036477234, .int .i64 1797285236] 3)).ownsRow w.heap.size 3 1 (.slice (some ⟨w.heap.size, 0, none⟩) 4 4) 4 (firstN F 4)) := by
    have q := World.ownsRow_lit (base := w.heap.size) (e := 3) (size := 1) w #[.int .i64 1634760805, .int .i64 857760878, .int .i64 2036477234, .int .i64 1797285236] 4 (Nat.le_refl _) (by unfold maxLen; omega) rfl
    rw [hF.out]
    exact q
  have hB0 : Hid (Below w.heap.size w (w.alloc (.cells #[.int .i64 1634760805, .int .i64 857760878, .int .i64 2036477234, .int .i64 1797285236] 3))) := (Below.refl _ _).alloc (Nat.le_refl _) _
  go_loopw [7, 8] (fun v s wr => ∃ i : Nat, i ≤ 8 ∧ s = .int .i64 i ∧ Hid (wr.ownsRow w.heap.size 3 1 v (4 + i) (firstN F (4 + i))) ∧ Hid (Below w.heap.size w wr)) (fun _ s _ => 8 - (intOf s).toNat)
  case atStart => exact ⟨0, by omega, rfl, hO0, hB0⟩
  case round =>
    clear hO0 hB0
    obtain ⟨i, hi8, rfl, hO, hB⟩ := hrel
    have hsw := hB.out.size
    by_cases hlt : i < 8
    · have hdi : decide ((i : Int) < 8) = true := by simp; omega
      go_wp2_with (first | (go_at_call 62; refine (rread_any _ _ _ (by rw [HK.out]; omega) (by omega) (by rw [HK.out]; omega)).mono ?_; rintro e w1 ⟨rfl, n1, rfl⟩) | (at_builtin; refine wpList_append_own _ rfl (.tmp 21) (.tmp 26) 108 rfl w.heap.size 3 i0 (.int .i64 0) 1 8 Tryd.underlying108 hi hz0 hz1 hz2 rfl (by decide) u7 _ _ rfl ((own_drewN hO.out n1).alloc _) ⟨wr.heap.size, 0, none⟩ 1 1 [.int .i64 (rd32 key (4 * i))] rfl rfl (cell_one_new _ _ _) (by simp [Value.oneCell']) (by unfold maxLen; omega) (by omega) (by simp; omega) ?_; intro v' w2 hown2 hgrow2 _; have HO2 : Hid _ := hown2; have HG2 : Hid _ := hgrow2; clear hown2 hgrow2))
      go_roundw
      case rel =>
        refine ⟨i + 1, by omega, by go_num, ?_, ?_⟩
        · have q := HO2.out
          rw [← fw_key key nonce c i hlt, ← hF.out, ← firstN_succ] at q
          exact q
        · exact ((below_drewN hB.out n1).alloc hsw _).grown HG2.out (by simp; omega) (fun k e => (hO.out.lt k e).1)
      case measure => simp [intOf]; omega
    · have hdi : decide ((i : Int) < 8) = false := by simp; omega
      have hi12 : Hid (4 + i = 12) := by (show _ = _; omega)
      go_upto_region 7 with (at_builtin; refine wpList_append_own _ rfl (.tmp 28) (.tmp 30) 108 rfl w.heap.size 3 i0 (.int .i64 0) 1 8 Tryd.underlying108 hi hz0 hz1 hz2 rfl (by decide) u7 _ _ rfl ((hO.out).alloc _) ⟨wr.heap.size, 0, none⟩ 1 1 [.int .i64 (c)] rfl rfl (cell_one_new _ _ _) (by simp [Value.oneCell']) (by unfold maxLen; omega) (by omega) (by simp; omega) ?_; intro v' w2 hown2 hgrow2 _; have HO2 : Hid _ := hown2; have HG2 : Hid _ := hgrow2; clear hown2 hgrow2)
      have hO2 : Hid (w2.ownsRow w.heap.size 3 1 v' 13 (firstN F 13)) := by
        have q := HO2.out
        rw [hi12.out] at q
        have e12 : F 12 = c := by rw [hF.out]; rfl
        rw [← e12, ← firstN_succ] at q
        exact q
      have hB2 : Hid (Below w.heap.size w w2) := (hB.out.alloc hsw _).grown HG2.out (by simp; omega) (fun k e => (hO.out.lt k e).1)
      clear hO hB HO2 HG2 hsw hi12
      go_upto_region 8 with fail
      go_loopw [7, 9] (fun v s wr => ∃ i : Nat, i ≤ 3 ∧ s = .int .i64 i ∧ Hid (wr.ownsRow w.heap.size 3 1 v (13 + i) (firstN F (13 + i))) ∧ Hid (Below w.heap.size w wr)) (fun _ s _ => 3 - (intOf s).toNat)
      case atStart => exact ⟨0, by omega, rfl, hO2, hB2⟩
      case round =>
        clear hO2 hB2
        obtain ⟨i, hi3, rfl, hO, hB⟩ := hrel
        have hsw := hB.out.size
        by_cases hlt3 : i < 3
        · go_wp2_with (first | (go_at_call 62; refine (rread_any _ _ _ (by rw [HN.out]; omega) (by omega) (by rw [HN.out]; omega)).mono ?_; rintro e w1 ⟨rfl, n1, rfl⟩) | (at_builtin; refine wpList_append_own _ rfl (.tmp 36) (.tmp 41) 108 rfl w.heap.size 3 i0 (.int .i64 0) 1 8 Tryd.underlying108 hi hz0 hz1 hz2 rfl (by decide) u7 _ _ rfl ((own_drewN hO.out n1).alloc _) ⟨wr.heap.size, 0, none⟩ 1 1 [.int .i64 (rd32 nonce (4 * i))] rfl rfl (cell_one_new _ _ _) (by simp [Value.oneCell']) (by unfold maxLen; omega) (by omega) (by simp; omega) ?_; intro v' w2 hown2 hgrow2 _; have HO2 : Hid _ := hown2; have HG2 : Hid _ := hgrow2; clear hown2 hgrow2))
          go_roundw
          case rel =>
            refine ⟨i + 1, by omega, by go_num, ?_, ?_⟩
            · have q := HO2.out
              rw [← fw_nonce key nonce c i hlt3, ← hF.out, ← firstN_succ] at q
              exact q
            · exact ((below_drewN hB.out n1).alloc hsw _).grown HG2.out (by simp; omega) (fun k e => (hO.out.lt k e).1)
          case measure => simp [intOf]; omega
        · have hdi3 : decide ((i : Int) < 3) = false := by simp; omega
          have hi16 : 13 + i = 16 := by omega
          rw [hi16] at hO
          clear hi16
          obtain ⟨g, cap, rfl, hg1, hg2⟩ := own_slice hO.out (by omega)
          have hZ : Hid (Zx g F wr) := own_zx hO.out hFb.out
          clear hO
          have hmk : ∀ w, (Instr.makeSlice 108 (.int .i64 16) (.int .i64 16)).run Tryd.prog w = .ok (.slice (some ⟨w.heap.size, 0, none⟩) 16 16) (w.alloc (.cells #[.int .i64 0, .int .i64 0, .int .i64 0, .int .i64 0, .int .i64 0, .int .i64 0, .int .i64 0, .int .i64 0, .int .i64 0, .int .i64 0, .int .i64 0, .int .i64 0, .int .i64 0, .int .i64 0, .int .i64 0, .int .i64 0] 3)) := fun _ => by kernel_rfl
          go_upto_region 12 with fail
          clear hmk
          have hZa : Zx g F (wr.alloc (.cells #[.int .i64 0, .int .i64 0, .int .i64 0, .int .i64 0, .int .i64 0, .int .i64 0, .int .i64 0, .int .i64 0, .int .i64 0, .int .i64 0, .int .i64 0, .int .i64 0, .int .i64 0, .int .i64 0, .int .i64 0, .int .i64 0] 3)) := hZ.out.alloc hg2 _
          have HZa : Hid (Zx g F (wr.alloc (.cells #[.int .i64 0, .int .i64 0, .int .i64 0, .int .i64 0, .int .i64 0, .int .i64 0, .int .i64 0, .int .i64 0, .int .i64 0, .int .i64 0, .int .i64 0, .int .i64 0, .int .i64 0, .int .i64 0, .int .i64 0, .int .i64 0] 3))) := hZa
          have hhe : (wr.alloc (.cells #[.int .i64 0, .int .i64 0, .int .i64 0, .int .i64 0, .int .i64 0, .int .i64 0, .int .i64 0, .int .i64 0, .int .i64 0, .int .i64 0, .int .i64 0, .int .i64 0, .int .i64 0, .int .i64 0, .int .i64 0, .int .i64 0] 3)).heap[wr.heap.size]? = some (.cells ([.int .i64 0, .int .i64 0, .int .i64 0, .int .i64 0, .int .i64 0, .int .i64 0, .int .i64 0, .int .i64 0, .int .i64 0, .int .i64 0, .int .i64 0, .int .i64 0, .int .i64 0, .int .i64 0, .int .i64 0, .int .i64 0] : List Value).toArray 3 (0, 0)) := heap_alloc_new wr _
          have HHE : Hid _ := hhe
          clear hZa hhe hZ
          go_upto_region 13 with (refine wpList_copy_splice rfl (.tmp 44) (.tmp 45) 108 108 rfl 3 Tryd.underlying108 (by kernel_rfl) _ _ 16 16 16 cap rfl rfl wr.heap.size 0 [.int .i64 0, .int .i64 0, .int .i64 0, .int .i64 0, .int .i64 0, .int .i64 0, .int .i64 0, .int .i64 0, .int .i64 0, .int .i64 0, .int .i64 0, .int .i64 0, .int .i64 0, .int .i64 0, .int .i64 0, .int .i64 0] 3 HHE.out (firstN F 16) (firstN_len F 16) (fun _ => ⟨rfl, ⟨g, 0, none⟩, rfl, fun j v hj => src_cell HZa.out hj⟩) (by rw [firstN_len]; exact Nat.le_refl _) (firstN_one F 16) wr.heap.size (wr.alloc (.cells #[.int .i64 0, .int .i64 0, .int .i64 0, .int .i64 0, .int .i64 0, .int .i64 0, .int .i64 0, .int .i64 0, .int .i64 0, .int .i64 0, .int .i64 0, .int .i64 0, .int .i64 0, .int .i64 0, .int .i64 0, .int .i64 0] 3)) (Below.refl _ _) (Nat.le_refl _) ?_; intro w3 hg3 hb3; have HB3 : Hid _ := hb3; clear hb3)
          have hX1 : Hid (Zx g F w3) := HZa.out.later HB3.out hg2
          have hX2 : Hid (Zx wr.heap.size F w3) := by
            have q := hg3.out
            rw [splice_all] at q
            exact row_zx q hFb.out
          have hX3 : Hid (Below w.heap.size w w3) := (hB.out.alloc hsw _).trans (HB3.out.mono hsw)
          have hX4 : wr.heap.size < w3.heap.size := by
            have := HB3.out.size
            simp at this
            omega
          clear HZa HHE hg3 HB3 hB hsw
          go_upto_region 14 with fail
          generalize hge : wr.heap.size = g2 at *
          clear hge
          have hgn : g2 ≠ g := by omega
          have hX5 : g < w3.heap.size := by omega
          go_loopw [11, 12, 13] (fun s _ _ wx => ∃ k : Nat, k ≤ 10 ∧ s = .int .i64 k ∧ Hid (Zx g (outer k F) wx) ∧ Hid (Zx g2 F wx) ∧ Hid (Below w.heap.size w wx) ∧ g2 < wx.heap.size) (fun s _ _ _ => 10 - (intOf s).toNat)
          case atStart => exact ⟨0, by omega, rfl, hX1, hX2, hX3, hX4⟩
          case round =>
            clear hX1 hX2 hX3 hX4 hX5
            obtain ⟨k, hk10, rfl, hX1, hX2, hX3, hX4⟩ := hrel
            by_cases hltk : k < 10
            · have hdk : decide ((k : Int) < 10) = true := by simp; omega
              obtain ⟨H, hH⟩ : ∃ H, Hid (H = outer k F) := ⟨_, rfl⟩
              rw [← hH.out] at hX1
              go_upto_region 17 with fail
              go_loopw [12] (fun s wx => ∃ i : Nat, i ≤ 4 ∧ s = .int .i64 i ∧ Hid (Zx g (inner i H) wx) ∧ Hid (Zx g2 F wx) ∧ Hid (Below w.heap.size w wx) ∧ g2 < wx.heap.size) (fun s _ => 4 - (intOf s).toNat)
              case atStart => exact ⟨0, by omega, rfl, hX1, hX2, hX3, hX4⟩
              case round =>
                clear hX1 hX2 hX3 hX4
                obtain ⟨p, hp4, rfl, hX1, hX2, hX3, hX4⟩ := hrel
                by_cases hltp : p < 4
                · go_wp2_with (go_at_call 63; refine (stirred_at g cap _ _ _ _ p (4 + p) (8 + p) (12 + p) (inner p H) _ (by omega) (by omega) (by omega) (by omega) (by omega) (by omega) (by omega) (by omega) (by omega) (by omega) hX1.out (by omega)).mono ?_; rintro e w4 ⟨rfl, hz4, hb4⟩; have HZ4 : Hid _ := hz4; have HB4 : Hid _ := hb4; clear hz4 hb4)
                  go_roundw
                  case rel => exact ⟨p + 1, by omega, by go_num, HZ4.out.cast (col_eq _ p hltp), hX2.out.but HB4.out hX4 hgn, HB4.out.below hX3.out hg1 hX3.out.size, Nat.lt_of_lt_of_le hX4 HB4.out.size⟩
                  case measure => simp [intOf]; omega
                · have hdp : decide ((p : Int) < 4) = false := by simp; omega
                  have hp44 : p = 4 := by omega
                  rw [hp44] at hX1
                  clear hp44
                  go_upto_region 21 with fail
                  go_loopw [13] (fun s wx => ∃ i : Nat, i ≤ 4 ∧ s = .int .i64 i ∧ Hid (Zx g (inner (4 + i) H) wx) ∧ Hid (Zx g2 F wx) ∧ Hid (Below w.heap.size w wx) ∧ g2 < wx.heap.size) (fun s _ => 4 - (intOf s).toNat)
                  case atStart => exact ⟨0, by omega, rfl, hX1, hX2, hX3, hX4⟩
                  case round =>
                    clear hX1 hX2 hX3 hX4
                    obtain ⟨r, hr4, rfl, hX1, hX2, hX3, hX4⟩ := hrel
                    by_cases hltr : r < 4
                    · go_wp2_with (go_at_call 63; refine (stirred_at g cap _ _ _ _ r (4 + (r + 1) % 4) (8 + (r + 2) % 4) (12 + (r + 3) % 4) (inner (4 + r) H) _ (by omega) (by omega) (by omega) (by omega) (by omega) (by omega) (by omega) (by omega) (by omega) (by omega) hX1.out (by omega)).mono ?_; rintro e w4 ⟨rfl, hz4, hb4⟩; have HZ4 : Hid _ := hz4; have HB4 : Hid _ := hb4; clear hz4 hb4)
                      go_roundw
                      case rel => exact ⟨r + 1, by omega, by go_num, HZ4.out.cast (diag_eq _ r hltr), hX2.out.but HB4.out hX4 hgn, HB4.out.below hX3.out hg1 hX3.out.size, Nat.lt_of_lt_of_le hX4 HB4.out.size⟩
                      case measure => simp [intOf]; omega
                    · have hr44 : r = 4 := by omega
                      rw [hr44] at hX1
                      clear hr44
                      go_wp2_with fail
                      go_roundw
                      case rel =>
                        refine ⟨k + 1, by omega, by go_num, ?_, hX2, hX3, hX4⟩
                        have q := hX1.out
                        rw [hH.out] at q
                        exact q
                      case measure => simp [intOf]; omega
            · have hdk : decide ((k : Int) < 10) = false := by simp; omega
              have hk1 : k = 10 := by omega
              rw [hk1] at hX1
              clear hk1
              obtain ⟨t, ht⟩ : ∃ t, Hid (t = outer 10 F) := ⟨_, rfl⟩
              rw [← ht.out] at hX1
              go_upto_region 26 with fail
              go_loopw [14, 15] (fun s6 s7 wx => ∃ k : Nat, k ≤ 16 ∧ s7 = .int .i64 k ∧ s6 = .string (outTo t F k) ∧ Hid (Zx g t wx) ∧ Hid (Zx g2 F wx) ∧ Hid (Below w.heap.size w wx) ∧ g2 < wx.heap.size) (fun _ s7 _ => 16 - (intOf s7).toNat)
              case atStart => exact ⟨0, by omega, rfl, rfl, hX1, hX2, hX3, hX4⟩
              case round =>
                clear hX1 hX2 hX3 hX4
                obtain ⟨k, hk, rfl, rfl, hX1, hX2, hX3, hX4⟩ := hrel
                have hX5 : g < wr.heap.size := by omega
                by_cases hlt3 : k < 16
                · have hc1 := hX1.out.c k hlt3
                  have hc2 := hX2.out.c k hlt3
                  have hb1 := hX1.out.i k hlt3
                  have hb2 := hX2.out.i k hlt3
                  have hsz := outTo_size t F k
                  have ha0 : (0 : Int) ≤ (t k + F k) % 4294967296 ∧ (t k + F k) % 4294967296 < 4294967296 := by omega
                  have hq1 : (9223372036854775807 < (outTo t F k).size + 4) = False := by (simp only [eq_iff_iff, iff_false]; omega)
                  clear hsz
                  have hw4 := wr32_size
                  have hkI : (k : Int) < 16 := by omega
                  have hws := wrap_sum (t k) (F k) hb1 hb2
                  have htm := tmod_sum (t k) (F k) hb1 hb2
                  go_upto_region 28 with fail
                  go_region_held3 (fun W => W.cell? ⟨g, k, none⟩ = some (.int .i64 (t k)) ∧ W.cell? ⟨g2, k, none⟩ = some (.int .i64 (F k))) (go_keep)
                    (first | (go_at_call 64; refine (written_any _ _ ?_ ?_).mono ?_; (exact ha0.1); (exact ha0.2); rintro e w4 ⟨rfl, hb4⟩; have hb5 : Below wr.heap.size wr w4 := below_of_drew hb4; have hk1 := (bcell hb5).1))
                  go_wp2_with fail
                  go_roundw
                  case rel =>
                    exact ⟨k + 1, by omega, by go_num, rfl, hX1.out.later hb5 hX5, hX2.out.later hb5 hX4, hX3.out.trans (hb5.mono (by have := hX3.out.size; omega)), Nat.lt_of_lt_of_le hX4 hb5.size⟩
                  case measure => simp [intOf]; omega
                · go_wp2_with fail
                  go_ret
                  refine ⟨?_, hX3.out⟩
                  have e16 : k = 16 := by omega
                  subst e16
                  rw [ht.out, hF.out]
                  rfl
end Go.Proofs.YtphapknfkbgapaaDoor
