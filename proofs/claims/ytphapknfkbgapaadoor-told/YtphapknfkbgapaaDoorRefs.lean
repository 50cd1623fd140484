import Derived.Test.YtphapknfkbgapaaDoorBackWalk
import Derived.Test.YtphapknfkbgapaaDoorStreamsWalk
import Derived.Deep.CutRange
import Derived.Deep.RegionHeld3
namespace Go.Proofs.YtphapknfkbgapaaDoor
open Go.RowKit

theorem names_yes (key nonce path : ByteArray) (w : World) (h : goodP key nonce path) :
    Calls Tryd.prog 36 #[.string key, .string nonce, .string path] w fun e w' => e = .returned (.bool true) ∧ w' = w := by
  obtain ⟨hk, hn, p1, p2⟩ := h
  have q1 : ((key.size : Int) == 48) = true := by rw [beq_iff_eq]; omega
  have q2 : ((nonce.size : Int) == 12) = true := by rw [beq_iff_eq]; omega
  have q3 : decide ((0 : Int) < (path.size : Int)) = true := by simp; omega
  have q4 : decide ((path.size : Int) ≤ 16) = true := by simp; omega
  clear hk hn
  go_enter Tryd.func36, Tryd.ntmps36
  go_wp2
  go_ret
  exact ⟨by simp, rfl⟩
theorem names_no (key nonce path : ByteArray) (w : World) (h : ¬ goodP key nonce path) :
    Calls Tryd.prog 36 #[.string key, .string nonce, .string path] w fun e w' => e = .returned (.bool false) ∧ w' = w := by
  unfold goodP at h
  by_cases hk : key.size = 48
  · have q1 : ((key.size : Int) == 48) = true := by rw [beq_iff_eq]; omega
    by_cases hn : nonce.size = 12
    · have q2 : ((nonce.size : Int) == 12) = true := by rw [beq_iff_eq]; omega
      by_cases p1 : 1 ≤ path.size
      · have q3 : decide ((0 : Int) < (path.size : Int)) = true := by simp; omega
        have q4 : decide ((path.size : Int) ≤ 16) = false := by simp; omega
        clear hk hn h
        go_enter Tryd.func36, Tryd.ntmps36
        go_wp2
        go_ret
        exact ⟨by simp, rfl⟩
      · have q3 : decide ((0 : Int) < (path.size : Int)) = false := decide_eq_false (by omega)
        clear hk hn h
        go_enter Tryd.func36, Tryd.ntmps36
        go_wp2
        go_ret
        exact ⟨by simp, rfl⟩
    · have q2 : ((nonce.size : Int) == 12) = false := by rw [beq_eq_false_iff_ne]; omega
      clear hk hn h
      go_enter Tryd.func36, Tryd.ntmps36
      go_wp2
      go_ret
      exact ⟨by simp, rfl⟩
  · have q1 : ((key.size : Int) == 48) = false := by rw [beq_eq_false_iff_ne]; omega
    clear hk h
    go_enter Tryd.func36, Tryd.ntmps36
    go_wp2
    go_ret
    exact ⟨by simp, rfl⟩

/-- The first k bytes, mixed. -/
def mixP (text over : ByteArray) (k : Nat) : ByteArray := ⟨((List.range k).map fun k => byteN text k ^^^ byteN over k).toArray⟩
theorem mixP_size (text over : ByteArray) (k : Nat) : (mixP text over k).size = k := by
  show (((List.range k).map _).toArray).size = _
  simp
theorem mixP_succ (text over : ByteArray) (k : Nat) : mixP text over k ++ ⟨#[UInt8.ofNat (byteN text k ^^^ byteN over k).toNat]⟩ = mixP text over (k + 1) := by
  unfold mixP
  rw [show (#[UInt8.ofNat (byteN text k ^^^ byteN over k).toNat] : Array UInt8) = [byteN text k ^^^ byteN over k].toArray from by rw [UInt8.ofNat_toNat], ByteArray.mk_append_mk, List.range_succ, List.map_append]
  rfl

set_option maxRecDepth 100000 in
set_option maxHeartbeats 1000000 in
theorem mixed_any (key nonce text : ByteArray) (w : World) (hk : key.size = 48) (hn : nonce.size = 12) (ht : text.size ≤ 64) :
    Calls Tryd.prog 37 #[.string key, .string nonce, .string text] w fun e w' => e = .returned (.string (maskOf key nonce text)) ∧ Below w.heap.size w w' := by
  have hk48 : (32 : Int) ≤ (key.size : Int) := by omega
  have HG : Hid (goodS (key.extract 0 32) nonce (text.size : Int)) := ⟨by rw [ByteArray.size_extract]; omega, hn, by omega, by omega⟩
  clear hk hn
  obtain ⟨O, hO⟩ : ∃ O, Hid (O = streamOf (key.extract 0 32) nonce 1 text.size) := ⟨_, rfl⟩
  have hOs : Hid (O.size = text.size) := by rw [hO.out]; exact streamOf_size _ _ _ _
  have HTN : Hid ((text.size : Int).toNat = text.size) := Int.toNat_natCast _
  go_enter Tryd.func37, Tryd.ntmps37
  go_upto_region 4 with (go_at_call 11; refine (StreamR_yes _ _ _ _ _ (by omega) (by omega) HG.out).mono ?_; rw [HTN.out, ← hO.out]; rintro e w1 ⟨rfl, hb1⟩)
  have hB0 : Hid (Below w.heap.size w w1) := hb1
  clear hb1
  go_loopw [9, 10] (fun t s wr => ∃ k : Nat, k ≤ text.size ∧ s = .int .i64 k ∧ t = .string (mixP text O k) ∧ Hid (Below w.heap.size w wr)) (fun _ s _ => text.size - (intOf s).toNat)
  case atStart => exact ⟨0, Nat.zero_le _, rfl, rfl, hB0⟩
  case round =>
    clear hB0
    obtain ⟨k, hk, rfl, rfl, hB⟩ := hrel
    have hms : (mixP text O k).size ≤ 64 := by rw [mixP_size]; omega
    by_cases hlt : k < text.size
    · have hOk : k < O.size := by rw [hOs.out]; exact hlt
      have I1 : (k : Int) < (text.size : Int) := by omega
      have I2 : (k : Int) < (O.size : Int) := by omega
      obtain ⟨n, hnn⟩ : ∃ n, Hid (n = (byteN text k ^^^ byteN O k).toNat) := ⟨_, rfl⟩
      have hxx : bits .xor .u8 ((text[k]).toNat : Int) ((O[k]).toNat : Int) = (n : Int) := by
        rw [get_byteN, get_byteN, hnn.out]; exact xor8 _ _
      have hcv : (convert 111 9 (.slice (some ⟨wr.heap.size, 0, none⟩) 1 1)).run Tryd.prog (wr.alloc (.cells #[.int .u8 (n : Int)] 5)).drew = .ok (.string ⟨#[UInt8.ofNat n]⟩) (wr.alloc (.cells #[.int .u8 (n : Int)] 5)).drew :=
        conv1 wr.drew n (by rw [hnn.out]; exact UInt8.toNat_lt _)
      go_upto_region 6 with fail
      go_region
      all_goals
        go_wp2_with fail
        go_roundw
        case rel =>
          refine ⟨k + 1, by omega, by go_num, ?_, ?_⟩
          · rw [hnn.out, mixP_succ]
          · exact (hB.out.alloc hB.out.size _).drew
        case measure => simp [intOf]; omega
    · have hke : k = text.size := by omega
      go_wp2_with fail
      go_ret
      refine ⟨?_, hB.out⟩
      unfold maskOf
      rw [← hO.out, hke]
      rfl
theorem conv1g (W : World) (b n : Nat) (hn : n < 256) (h : W.cell? ⟨b, 0, none⟩ = some (.int .u8 (n : Int))) :
    (convert 111 9 (.slice (some ⟨b, 0, none⟩) 1 1)).run Tryd.prog W = .ok (.string ⟨#[UInt8.ofNat n]⟩) W := by
  have e := run_convert_bytes_back (P := Tryd.prog) W 111 9 5 ⟨b, 0, none⟩ 1 [UInt8.ofNat n] Tryd.underlying111 Tryd.underlying5 Tryd.underlying9 (fun j hj => by
    have : j = 0 := by simpa using hj
    subst this
    have hm : n % 256 = n := Nat.mod_eq_of_lt hn
    rw [Addr.add_mid, Nat.zero_add, h]
    simp [hm])
  exact e
theorem low_from {w E w1 : World} (hE : Below w.heap.size w E) (h : Low E.heap.size E w1) : Low w.heap.size w w1 := (Low.of hE).trans (h.mono hE.size)
theorem lcell {W w1 : World} (hb : Low W.heap.size W w1) : (∀ b o, b < W.heap.size → w1.cell? ⟨b, o, none⟩ = W.cell? ⟨b, o, none⟩) ∧ (∀ b o, b < W.heap.size → w1.frozen? ⟨b, o, none⟩ = W.frozen? ⟨b, o, none⟩) :=
  ⟨fun b o h => hb.cell (p := ⟨b, o, none⟩) h, fun b o h => hb.frozen (p := ⟨b, o, none⟩) h⟩
set_option maxRecDepth 100000 in
set_option maxHeartbeats 1000000 in
theorem mark_any (key nonce path cover : ByteArray) (w : World) (hk : key.size = 48) (hn : nonce.size = 12) (hp : path.size ≤ 16) (hc : cover.size ≤ 64) :
    Calls Tryd.prog 38 #[.string key, .string nonce, .string path, .string cover] w fun e w' => e = .returned (.string (w64 (tagI key nonce path cover))) ∧ Low w.heap.size w w' := by
  have hcv : ∀ (W : World) (b : Nat), W.cell? ⟨b, 0, none⟩ = some (.int .u8 (path.size : Int)) → (convert 111 9 (.slice (some ⟨b, 0, none⟩) 1 1)).run Tryd.prog W = .ok (.string ⟨#[UInt8.ofNat path.size]⟩) W := fun W b => conv1g W b path.size (by omega)
  have hwp : IntKind.u8.wrap (path.size : Int) = (path.size : Int) := by rw [IntKind.wrap_u8']; omega
  have hk2 : (32 : Int) ≤ (key.size : Int) := by omega
  have HKs : Hid ((key.extract 32 key.size).size = 16) := by (show _ = _; rw [ByteArray.size_extract]; omega)
  have hn2 : nonce.size ≤ 12 := by omega
  have h1s : (⟨#[UInt8.ofNat path.size]⟩ : ByteArray).size = 1 := rfl
  have HS : Hid ((((⟨#[UInt8.ofNat path.size]⟩ ++ path) ++ nonce) ++ cover).size ≤ 400) := by
    show _ ≤ _
    simp only [ByteArray.size_append', h1s]; omega
  clear hk hn
  obtain ⟨t, ht⟩ : ∃ t, Hid (t = tagI key nonce path cover) := ⟨_, rfl⟩
  have HT : Hid (hashOf (key.extract 32 key.size) (((⟨#[UInt8.ofNat path.size]⟩ ++ path) ++ nonce) ++ cover) = t) := by rw [ht.out]; rfl
  go_enter Tryd.func38, Tryd.ntmps38
  go_upto_region 1 with fail
  go_cut [9] from 10 to 23 (fun s9 wx => ∃ b9, s9 = .pointer (some ⟨b9, 0, none⟩) ∧ wx.cell? ⟨b9, 0, none⟩ = some (.int .i64 (hi t)) ∧ wx.cell? ⟨b9, 1, none⟩ = some (.int .i64 (lo t)) ∧ b9 < wx.heap.size ∧ Low w.heap.size w wx)
  case first =>
    go_region_with (go_at_call 67; refine (hashed_any _ _ _ HKs.out HS.out).mono ?_; rw [HT.out]; rintro e w1 ⟨rfl, hl⟩; obtain ⟨hc, hf⟩ := lcell hl; have HL : Hid _ := hl; clear hl)
    all_goals
      go_wp2_with fail
      go_meet
      have hz0 : w.heap.size < w.heap.size + 1 + 1 := by omega
      have hsz := HL.out.size
      simp at hsz
      refine ⟨_, rfl, ?_, ?_, ?_, ?_⟩
      · go_simp
      · go_simp
      · first | (simp; done) | (simp; omega)
      · refine (low_from ?_ HL.out).trans (Low.of ?_)
        · repeat (first | exact Below.refl _ _ | refine Below.drew ?_ | refine Below.alloc ?_ (by simp) _ | refine Below.alloc ?_ (by simp; omega) _)
        · first | exact (Below.refl _ _).alloc (by omega) _ | exact ((Below.refl _ _).setCell (by exact Nat.le_succ _) _).setCell (by exact Nat.le_succ _) _ | exact ((Below.refl _ _).setCell (by exact Nat.le_refl _) _).setCell (by exact Nat.le_refl _) _
  case rest =>
  obtain ⟨b9, rfl, hc0, hc1, hb9, hL⟩ := hcut
  have HL : Hid _ := hL
  clear hL hcv hwp hk2 hn2 h1s
  have it : In64 t := by rw [ht.out]; exact tagI_bd _ _ _ _
  have bh := hi_bd t it
  have bl := lo_bd t
  have E1 : Hid (w64 t = wr32 (lo t) ++ wr32 (hi t)) := rfl
  have hw4 := wr32_size
  clear it
  go_upto_region 2 with fail
  go_region_held3 (fun W => W.cell? ⟨b9, 0, none⟩ = some (.int .i64 (hi t)) ∧ W.cell? ⟨b9, 1, none⟩ = some (.int .i64 (lo t))) (go_keep)
    (first | (go_at_call_of 64 (Value.int IntKind.i64 (lo t)); refine (written_any _ _ bl.1 bl.2).mono ?_; rintro e w1 ⟨rfl, hb1⟩; have hb2 : Below wc.heap.size wc w1 := below_of_drew hb1; have hk1 := (bcell hb2).1; have hz1 : b9 < w1.heap.size := Nat.lt_of_lt_of_le hb9 hb2.size) | (go_at_call_of 64 (Value.int IntKind.i64 (hi t)); refine (written_any _ _ bh.1 bh.2).mono ?_; rintro e w2 ⟨rfl, hb3⟩; have hk3 := (bcell hb3).1))
  go_wp2_with fail
  go_ret
  refine ⟨?_, HL.out.trans ((Low.of (hb2.trans (hb3.mono hb2.size))).mono HL.out.size)⟩
  rw [← ht.out, E1.out]
  rfl
end Go.Proofs.YtphapknfkbgapaaDoor
