import Derived.Test.YtphapknfkbgapaaGreatDoorLawEToRefK
import Derived.Test.YtphapknfkbgapaaGreatDoorPRepToPO
import Derived.Deep.OwnRows
import Derived.Deep.DeepCutAuto
namespace Go.Proofs.YtphapknfkbgapaaGreatDoor
open Go.RowKit

variable {F : Nat → Prop} {b : Nat} {X : PS}

def opCells (u : PSrv) : List Value := [.int .i64 u.epoch, .int .i64 u.rev, .string u.e.path, .int .i64 u.e.rev, .int .i64 u.e.key, .int .i64 u.e.draw, .string u.e.sealed, .bool u.e.gone]
/-- Why an operation may not be committed. -/
def pErr (wrote : Int) (rev : Int) (fu : Bool) (u : PSrv) : Int :=
  if decide (u.epoch < wrote) then 9 else if (u.rev != -1) && (u.rev != rev) then 10 else if u.e.gone && (rev == 0) then 12 else if fu then 11 else 0
set_option maxRecDepth 100000 in
set_option maxHeartbeats 1000000 in
theorem mayCommit_any (w : World) (u : PSrv) (K : PKey) (ki : Nat) (h : XIn w F b X) (hw : X.write = (ki : Int) + 1) (hk : X.keys[ki]? = some K) (hl : X.keys.length ≤ 6) (hn : X.entries.length ≤ 1000) :
    Calls Tryz.prog 67 #[.pointer (some ⟨b, 0, none⟩), .agg #[.int .i64 u.epoch, .int .i64 u.rev, .string u.e.path, .int .i64 u.e.rev, .int .i64 u.e.key, .int .i64 u.e.draw, .string u.e.sealed, .bool u.e.gone]] w fun e w' => e = .returned (.int .i64 (pErr K.wrote (pRevOf X u.e.path) (pFull X) u)) ∧ Low w.heap.size w w' := by
  have HR := hid h
  have HK := hid hk
  have c3 : w.cell? ⟨b, 3, none⟩ = some (.int .i64 ((ki : Int) + 1)) := by rw [← hw]; exact xin_write h
  have hb := h.lt
  have hki : ki < X.keys.length := (List.getElem?_eq_some_iff.1 hk).1
  obtain ⟨rv, hrv⟩ : ∃ rv, pRevOf X u.e.path = rv := ⟨_, rfl⟩
  obtain ⟨fu, hfu⟩ : ∃ fu, pFull X = fu := ⟨_, rfl⟩
  have HRV := hid hrv
  have HFU := hid hfu
  obtain ⟨er, her⟩ : ∃ er, er = pErr K.wrote rv fu u := ⟨_, rfl⟩
  have HER := hid her
  rw [hrv, hfu, ← her]
  clear h hk hw hrv hfu her
  go_enter Tryz.func67, Tryz.ntmps67
  go_wp2_with (first | (go_at_call 103; refine (key_any _ ki K (by exact HR.out.alloc _) HK.out (by omega)).mono ?_; rintro r y1 ⟨rfl, l1⟩; have b1 : Blk y1 w.heap.size 99 (opCells u) := (Blk.new w 99 (opCells u)).low l1 (by simp); have L1 : Hid (Low w.heap.size w y1) := ((Low.refl _ w).alloc (Nat.le_refl _) _).trans (l1.mono (by simp)); have v0a : y1.cell? ⟨w.heap.size, 0, none⟩ = some (.int .i64 u.epoch) := b1.cell 0; have v1a : y1.cell? ⟨w.heap.size, 1, none⟩ = some (.int .i64 u.rev) := b1.cell 1; have v2a : y1.cell? ⟨w.heap.size, 2, none⟩ = some (.string u.e.path) := b1.cell 2; have v7a : y1.cell? ⟨w.heap.size, 7, none⟩ = some (.bool u.e.gone) := b1.cell 7; have ly := b1.lt; have B1 := hid b1; have X1 := hid (HR.out.low L1.out); clear l1 b1) | (go_at_call 104; refine (revOf_any _ _ (by exact X1.out.alloc _) hn).mono ?_; rw [HRV.out]; rintro r y2 ⟨rfl, l2⟩; have b2 : Blk y2 w.heap.size 99 (opCells u) := (B1.out.alloc _).low l2 (by have := B1.out.lt; simp; omega); have L2 : Hid (Low w.heap.size w y2) := (L1.out.alloc L1.out.size _).trans (l2.mono (by have := L1.out.size; simp; omega)); have v0b : y2.cell? ⟨w.heap.size, 0, none⟩ = some (.int .i64 u.epoch) := b2.cell 0; have v1b : y2.cell? ⟨w.heap.size, 1, none⟩ = some (.int .i64 u.rev) := b2.cell 1; have v2b : y2.cell? ⟨w.heap.size, 2, none⟩ = some (.string u.e.path) := b2.cell 2; have v7b : y2.cell? ⟨w.heap.size, 7, none⟩ = some (.bool u.e.gone) := b2.cell 7; have B2 := hid b2; have X2 := hid (HR.out.low L2.out); clear l2 b2) | (go_at_call 86; refine (pfull_any _ X2.out).mono ?_; rw [HFU.out]; rintro r y3 ⟨rfl, l3⟩; have L3 : Hid (Low w.heap.size w y3) := L2.out.trans (l3.mono L2.out.size); clear l3))
  all_goals
    go_ret
    refine ⟨?_, ?_⟩
    · rw [HER.out]
      (try have hh : ¬ u.epoch < K.wrote := by omega)
      (first | (simp [pErr, *]; done) | (simp [pErr, *]; omega) | (simp [pErr, *]; simp_all; done))
    · first | exact L3.out | exact L2.out | exact L1.out.alloc L1.out.size _
end Go.Proofs.YtphapknfkbgapaaGreatDoor
namespace Go.Proofs.YtphapknfkbgapaaGreatDoor
open Go.RowKit

variable {F : Nat → Prop} {b : Nat} {X : PS}

def byteV (n : Int) (i j : Nat) : Value := .int .u8 (if j < i then ((nonceB n j).toNat : Int) else 0)
def bytesTo (n : Int) (i : Nat) : List Value := (List.range 12).map (byteV n i)
theorem bytesTo_len (n : Int) (i : Nat) : (bytesTo n i).length = 12 := by simp [bytesTo]
theorem bytesTo_at (n : Int) (i j : Nat) (h : j < 12) : (bytesTo n i)[j]? = some (byteV n i j) := by simp [bytesTo, h]
theorem bytesTo_succ (n : Int) (i : Nat) : (bytesTo n i).set i (.int .u8 ((nonceB n i).toNat : Int)) = bytesTo n (i + 1) := by
  apply List.ext_getElem?
  intro p
  by_cases hr : p < 12
  · by_cases hp : p = i
    · subst hp
      rw [List.getElem?_set_self (by rw [bytesTo_len]; exact hr), bytesTo_at _ _ _ hr]
      simp [byteV]
    · rw [List.getElem?_set_ne (fun e => hp e.symm), bytesTo_at _ _ _ hr, bytesTo_at _ _ _ hr]
      unfold byteV
      by_cases h2 : p < i
      · rw [if_pos h2, if_pos (by omega)]
      · rw [if_neg h2, if_neg (by omega)]
  · rw [List.getElem?_eq_none (by rw [List.length_set, bytesTo_len]; omega), List.getElem?_eq_none (by rw [bytesTo_len]; omega)]
theorem byte_of (n x : Int) (i : Nat) (h : x = n / 256 ^ i) : ((nonceB n i).toNat : Int) = x % 256 := by
  unfold nonceB
  rw [← h]
  have h1 : 0 ≤ x % 256 ∧ x % 256 < 256 := by omega
  rw [UInt8.toNat_ofNat']
  omega
theorem made_bytes (n : Int) : madeCells #[Value.int .u8 0] 12 = (bytesTo n 0).toArray := by
  have : bytesTo n 0 = List.replicate 12 (Value.int .u8 0) := by
    apply List.ext_getElem?
    intro p
    by_cases hr : p < 12
    · rw [bytesTo_at _ _ _ hr, List.getElem?_replicate, if_pos hr]; simp [byteV]
    · rw [List.getElem?_eq_none (by rw [bytesTo_len]; omega), List.getElem?_eq_none (by simp; omega)]
  rw [this, ← toList_madeCells_one]
theorem info5b : (Tryz.prog.info? 5).map (fun i => (i.zero, i.size, i.bytes)) = some (some (.int .u8 0), 1, 1) := by kernel_rfl
theorem make12 (n : Int) (w : World) : (Instr.makeSlice 136 (.int .i64 12) (.int .i64 12)).run Tryz.prog w = .ok (.slice (some ⟨w.heap.size, 0, none⟩) 12 12) (w.alloc (.cells (bytesTo n 0).toArray 5)) := by
  rw [← made_bytes n]
  exact run_make_row' (P := Tryz.prog) 136 5 (.int .u8 0) 1 Tryz.underlying136 info5b rfl .i64 .i64 12 (by omega) (by omega) w
set_option maxRecDepth 100000 in
set_option maxHeartbeats 1000000 in
theorem nonceOf_any (w : World) (n : Int) (h0 : 0 ≤ n) (h1 : n ≤ 1000000000000) :
    Calls Tryz.prog 108 #[.int .i64 n] w fun e w' => e = .returned (.string (nonceTo n 12)) ∧ Low w.heap.size w w' := by
  have hmk := make12 n
  go_enter Tryz.func108, Tryz.ntmps108
  go_wp2_with fail
  clear hmk
  generalize hG : w.heap.size = G at *
  go_loopg [4, 5] 12 (fun left xv iv wr => ∃ (i : Nat) (x : Int), left = 12 - i ∧ i ≤ 12 ∧ 0 ≤ x ∧ x ≤ 1000000000000 ∧ xv = .int .i64 x ∧ iv = .int .i64 (i : Int) ∧ Hid (x = n / 256 ^ i ∧ Low G w wr ∧ Blk wr G 5 (bytesTo n i)))
  case atStart =>
    refine ⟨0, n, rfl, by omega, h0, h1, rfl, rfl, by simp, ?_, ?_⟩
    · exact (Low.refl _ w).alloc (by omega) _
    · have q := Blk.new w 5 (bytesTo n 0)
      rw [hG] at q
      exact q
  case round =>
    obtain ⟨i, x, hgk, hi, x0, x1, rfl, rfl, HI⟩ := hrel
    have HGK := hid hgk
    clear hgk h0 h1
    by_cases h2 : i < 12
    · have q1 : decide ((i : Int) < 12) = true := by simp; omega
      have c0 : wr.cell? ⟨G, i, none⟩ = some (.int .u8 0) := by rw [HI.out.2.2.cell, bytesTo_at _ _ _ h2, byteV, if_neg (by omega)]
      have f0 := HI.out.2.2.frozen i
      have i1 : (i : Int) < 12 := by omega
      go_wp2_with fail
      go_roundg (12 - (i + 1))
      case rel =>
        obtain ⟨e1, e2, e3⟩ := HI.out
        refine ⟨i + 1, x / 256, rfl, by omega, Int.ediv_nonneg x0 (by omega), by omega, rfl, by simp, ?_, e2.setCell (Nat.le_refl _) _, ?_⟩
        · rw [e1, Int.ediv_ediv_of_nonneg (Int.pow_nonneg (by omega)), ← Int.pow_succ]
        · rw [← bytesTo_succ, byte_of n x i e1]
          exact e3.set i _
      case measure => have := HGK.out; omega
    · have q1 : decide ((i : Int) < 12) = false := by simp; omega
      obtain rfl : i = 12 := by omega
      have hcv : (convert 136 9 (.slice (some ⟨G, 0, none⟩) 12 12)).run Tryz.prog wr = .ok (.string (nonceTo n 12)) wr := by
        have hl : (nonceTo n 12).data.toList.length = 12 := nonceTo_size n 12
        have e := run_convert_bytes_back (P := Tryz.prog) wr 136 9 5 ⟨G, 0, none⟩ 12 (nonceTo n 12).data.toList Tryz.underlying136 Tryz.underlying5 Tryz.underlying9 (fun j hj => by
          rw [hl] at hj
          rw [Addr.add_mid, Nat.zero_add, HI.out.2.2.cell, bytesTo_at _ _ _ hj, byteV, if_pos hj]
          simp [nonceTo])
        rw [hl] at e
        rw [e]
      go_wp2_with fail
      go_ret
      exact ⟨rfl, by rw [hG]; exact HI.out.2.1⟩
end Go.Proofs.YtphapknfkbgapaaGreatDoor
namespace Go.Proofs.YtphapknfkbgapaaGreatDoor
open Go.RowKit

variable {F : Nat → Prop} {b : Nat} {X : PS}

theorem Open_any (key nonce path s : ByteArray) (w : World) (h : goodP key nonce path) (s0 : 8 ≤ s.size) (s1 : s.size ≤ 72) (hF : Fours w) (h1 : 1 ≤ w.heap.size) :
    Calls Tryz.prog 115 #[.string key, .string nonce, .string path, .string s] w fun e w' => e = .returned (.tuple #[.string (openT key nonce path s), .int .i64 (openE key nonce path s)]) ∧ Low w.heap.size w w' := by
  unfold openT openE
  by_cases ho : opens key nonce path s
  · have : openB key nonce path s = true := by simp only [openB]; exact decide_eq_true ho
    rw [this]
    exact Open_yes _ _ _ _ w h s0 s1 ho hF h1
  · have : openB key nonce path s = false := by simp only [openB]; exact decide_eq_false ho
    rw [this]
    exact Open_bad _ _ _ _ w h s0 s1 ho
/-- The table is where it was. -/
theorem fours_low {w w' : World} (h : Fours w) (h1 : 1 ≤ w.heap.size) (k : Low w.heap.size w w') : Fours w' := h.later (k.mono h1)
def pOpened (K : PKey) (e : Ent) : ByteArray × Int := if keyGone K then (⟨#[]⟩, 14) else if openB K.text (nonceTo e.draw 12) e.path e.sealed then (maskOf K.text (nonceTo e.draw 12) (coverOf e.sealed), 0) else (⟨#[]⟩, 3)
set_option maxRecDepth 100000 in
set_option maxHeartbeats 1000000 in
theorem popened_any (w : World) (e : Ent) (K : PKey) (i : Nat) (h : XIn w F b X) (hk : X.keys[i]? = some K) (hi : e.key = (i : Int) + 1) (hi6 : i ≤ 6) (hK : K.text.size = 48) (hE : EntOk e) (hF : Fours w) (h1 : 1 ≤ w.heap.size) :
    Calls Tryz.prog 107 #[.pointer (some ⟨b, 0, none⟩), .agg #[.string e.path, .int .i64 e.rev, .int .i64 e.key, .int .i64 e.draw, .string e.sealed, .bool e.gone]] w fun r w' =>
      r = .returned (.tuple #[.string (pOpened K e).1, .int .i64 (pOpened K e).2]) ∧ Low w.heap.size w w' := by
  have HG : Hid (goodP K.text (nonceTo e.draw 12) e.path) := ⟨hK, nonceTo_size _ _, hE.path.1, hE.path.2⟩
  have HE := hid hE
  have HF := hid hF
  have hD := hE.draw
  have HR := hid h
  have HK := hid hk
  have kg : keyGone K = false := by
    unfold keyGone
    rw [beq_eq_false_iff_ne]
    intro q
    have := toList_inj q
    rw [this] at hK
    cases hK
  have KG := hid kg
  rw [hi]
  clear h hk hK hE hF hi kg
  go_enter Tryz.func107, Tryz.ntmps107
  go_upto_region 6 with (first | (go_at_call 103; refine (key_any _ i K (by exact HR.out.alloc _) HK.out (by omega)).mono ?_; rintro r y1 ⟨rfl, l1⟩; have bEa : Blk y1 w.heap.size 50 (Ent.mk e.path e.rev ((i : Int) + 1) e.draw e.sealed e.gone).cells := (Blk.new w 50 (Ent.mk e.path e.rev ((i : Int) + 1) e.draw e.sealed e.gone).cells).low l1 (by simp); have L1 : Hid (Low w.heap.size w y1) := ((Low.refl _ w).alloc (Nat.le_refl _) _).trans (l1.mono (by simp)); have x0a : y1.cell? ⟨w.heap.size, 0, none⟩ = some (.string e.path) := bEa.cell 0; have x3a : y1.cell? ⟨w.heap.size, 3, none⟩ = some (.int .i64 e.draw) := bEa.cell 3; have x4a : y1.cell? ⟨w.heap.size, 4, none⟩ = some (.string e.sealed) := bEa.cell 4; have BE1 := hid bEa; clear l1 bEa) | (go_at_call 91; refine (destroyed_any _ K).mono ?_; rw [KG.out]; rintro r y2 ⟨rfl, l2⟩; have bEb : Blk y2 w.heap.size 50 (Ent.mk e.path e.rev ((i : Int) + 1) e.draw e.sealed e.gone).cells := (BE1.out.alloc _).low l2 (by have := BE1.out.lt; simp; omega); have bKb : Blk y2 y1.heap.size 56 K.cells := (Blk.new y1 56 K.cells).low l2 (by simp); have x0b : y2.cell? ⟨w.heap.size, 0, none⟩ = some (.string e.path) := bEb.cell 0; have x3b : y2.cell? ⟨w.heap.size, 3, none⟩ = some (.int .i64 e.draw) := bEb.cell 3; have x4b : y2.cell? ⟨w.heap.size, 4, none⟩ = some (.string e.sealed) := bEb.cell 4; have t0b : y2.cell? ⟨y1.heap.size, 0, none⟩ = some (.string K.text) := bKb.cell 0; have L2 : Hid (Low w.heap.size w y2) := (L1.out.alloc L1.out.size _).trans (l2.mono (by have := L1.out.size; simp; omega)); have BE2 := hid bEb; have BK2 := hid bKb; clear l2 bEb bKb x0a x3a x4a) | (go_at_call 108; refine (nonceOf_any _ _ hD.1 hD.2).mono ?_; rintro r y3 ⟨rfl, l3⟩; have bEc : Blk y3 w.heap.size 50 (Ent.mk e.path e.rev ((i : Int) + 1) e.draw e.sealed e.gone).cells := BE2.out.low l3 BE2.out.lt; have bKc : Blk y3 y1.heap.size 56 K.cells := BK2.out.low l3 BK2.out.lt; have x0c : y3.cell? ⟨w.heap.size, 0, none⟩ = some (.string e.path) := bEc.cell 0; have x3c : y3.cell? ⟨w.heap.size, 3, none⟩ = some (.int .i64 e.draw) := bEc.cell 3; have x4c : y3.cell? ⟨w.heap.size, 4, none⟩ = some (.string e.sealed) := bEc.cell 4; have t0c : y3.cell? ⟨y1.heap.size, 0, none⟩ = some (.string K.text) := bKc.cell 0; have L3 : Hid (Low w.heap.size w y3) := L2.out.trans (l3.mono L2.out.size); clear l3 bEc bKc x0b x3b x4b t0b) | (go_at_call 115; refine (Open_any _ _ _ _ _ HG.out HE.out.sealed.1 HE.out.sealed.2 (fours_low HF.out h1 L3.out) (Nat.le_trans h1 L3.out.size)).mono ?_; rintro r y4 ⟨rfl, l4⟩; have L4 : Hid (Low w.heap.size w y4) := L3.out.trans (l4.mono L3.out.size); clear l4))
  cases q3 : openB K.text (nonceTo e.draw 12) e.path e.sealed
  · have q4 : (openE K.text (nonceTo e.draw 12) e.path e.sealed != 0) = true := by simp [openE, q3]
    go_wp2_with fail
    go_ret2
    exact ⟨by simp [pOpened, KG.out, q3], L4.out⟩
  · have q4 : (openE K.text (nonceTo e.draw 12) e.path e.sealed != 0) = false := by simp [openE, q3]
    go_wp2_with fail
    go_ret2
    exact ⟨by simp [pOpened, KG.out, q3, openT], L4.out⟩
end Go.Proofs.YtphapknfkbgapaaGreatDoor
namespace Go.Proofs.YtphapknfkbgapaaGreatDoor
open Go.RowKit

variable {F : Nat → Prop} {b : Nat} {X : PS}

theorem keyGone_no {K : PKey} (hK : K.text.size = 48) : keyGone K = false := by
  unfold keyGone
  rw [beq_eq_false_iff_ne]
  intro q
  have := toList_inj q
  rw [this] at hK
  cases hK
set_option maxRecDepth 100000 in
set_option maxHeartbeats 1000000 in
theorem sealed_any (w : World) (path plain : ByteArray) (K : PKey) (i : Nat) (h : XIn w F b X) (hk : X.keys[i]? = some K) (hi6 : i ≤ 6) (hK : K.text.size = 48) (hp : 1 ≤ path.size ∧ path.size ≤ 16) (hs : plain.size ≤ 64) (hd : 0 ≤ X.draws ∧ X.draws + 1 ≤ 1000000000000) (hF : Fours w) (h1 : 1 ≤ w.heap.size) :
    Calls Tryz.prog 87 #[.pointer (some ⟨b, 0, none⟩), .int .i64 ((i : Int) + 1), .string path, .string plain] w fun r w' =>
      r = .returned (.tuple #[.agg (closedOf K.text ((i : Int) + 1) path plain (X.draws + 1)).cells.toArray, .int .i64 0]) ∧ XIn w' F b { X with draws := X.draws + 1 } ∧ Kept F w w' := by
  have HG : Hid (goodP K.text (nonceTo (X.draws + 1) 12) path) := ⟨hK, nonceTo_size _ _, hp.1, hp.2⟩
  have HF := hid hF
  have HR := hid h
  have HK := hid hk
  have KG := hid (keyGone_no hK)
  have hd0 := hd.1
  have hd1 := hd.2
  have hb := h.lt
  clear h hk hK hF hd
  go_enter Tryz.func87, Tryz.ntmps87
  go_upto_region 10 with (first | (go_at_call 103; refine (key_any _ i K (by exact HR.out.alloc _) HK.out (by omega)).mono ?_; rintro r y1 ⟨rfl, l1⟩; have bN : Blk y1 w.heap.size 50 Ent.zero.cells := (Blk.new w 50 Ent.zero.cells).low l1 (by simp); have L1 : Hid (Low w.heap.size w y1) := ((Low.refl _ w).alloc (Nat.le_refl _) _).trans (l1.mono (by simp)); have BN1 := hid bN; clear l1 bN) | (go_at_call 91; refine (destroyed_any _ K).mono ?_; rw [KG.out]; rintro r y2 ⟨rfl, l2⟩; have bNb : Blk y2 w.heap.size 50 Ent.zero.cells := (BN1.out.alloc _).low l2 (by have := BN1.out.lt; simp; omega); have bKb : Blk y2 y1.heap.size 56 K.cells := (Blk.new y1 56 K.cells).low l2 (by simp); have L2 : Hid (Low w.heap.size w y2) := (L1.out.alloc L1.out.size _).trans (l2.mono (by have := L1.out.size; simp; omega)); have d2 := xin_draws (HR.out.low L2.out); have BN2 := hid bNb; have BK2 := hid bKb; clear l2 bNb bKb) | (go_at_call 108; refine (nonceOf_any _ _ (by omega) hd1).mono ?_; rintro r y3 ⟨rfl, l3⟩; have bNc : Blk y3 w.heap.size 50 Ent.zero.cells := BN2.out.low l3 BN2.out.lt; have bKc : Blk y3 y1.heap.size 56 K.cells := BK2.out.low l3 BK2.out.lt; have t0c : y3.cell? ⟨y1.heap.size, 0, none⟩ = some (.string K.text) := bKc.cell 0; have L3 : Hid (Low w.heap.size w y3) := L2.out.trans (l3.mono L2.out.size); have BN3 := hid bNc; clear l3 bNc bKc d2) | (go_at_call 109; refine (Seal_yes _ _ _ _ _ HG.out hs (fours_low HF.out h1 L3.out) (Nat.le_trans h1 L3.out.size)).mono ?_; rintro r y4 ⟨rfl, l4⟩; have L4 : Hid (Low w.heap.size w y4) := L3.out.trans (l4.mono L3.out.size); have BN4 := hid (BN3.out.low l4 BN3.out.lt); have X4 := hid (HR.out.low L4.out); have d4 := xin_draws X4.out; have f4 := X4.out.frozen 6; clear l4))
  go_name_world W hW
  have RW : Hid (XIn W F b { X with draws := X.draws + 1 }) := by
    show XIn W F b _
    rw [← hW]; exact xin_set_draws X4.out (X.draws + 1)
  have hne : w.heap.size ≠ b := by omega
  have BW : Hid (Blk W w.heap.size 50 Ent.zero.cells) := by
    show Blk W _ _ _
    rw [← hW]; exact BN4.out.setOther hne _
  have KW : Hid (Kept F w W) := by
    show Kept F w W
    rw [← hW]; exact L4.out.kept.trans (setCell_kept y4 ⟨b, 6, none⟩ _) (fun _ f => f.elim) (fun q _ e => by rw [show q = b from e]; exact HR.out.inF)
  clear hW d4 f4
  go_wp2_with ((with_reducible refine st50 (.tmp 8) (.tmp 49) w.heap.size Ent.zero (closedOf K.text ((i : Int) + 1) path plain (X.draws + 1)) ?_ ?_ BW.out ?_); rfl; rfl; intro w1 b1 k1 t1; have B1 := hid b1; have K1 := hid k1; clear b1 k1 t1)
  (try simp only [Exit.inBlock, Exit.then])
  refine bodyPost_ret (results_cell_tmp rfl w.heap.size (closedOf K.text ((i : Int) + 1) path plain (X.draws + 1)).cells _ rfl B1.out.whole Tryz.underlying50 rfl (sz50 _)) rfl ?_
  refine ⟨rfl, RW.out.kept K1.out (fun q hq e => by have := HR.out.below q hq; omega), KW.out.trans K1.out (fun _ f => f) (fun q hq e => by omega)⟩
end Go.Proofs.YtphapknfkbgapaaGreatDoor
namespace Go.Proofs.YtphapknfkbgapaaGreatDoor
open Go.RowKit

variable {F : Nat → Prop} {b : Nat} {X : PS}

theorem nilB (p : ByteArray) : (p.toList == (⟨#[]⟩ : ByteArray).toList) = (p.size == 0) := by
  rw [Bool.eq_iff_iff]
  simp only [beq_iff_eq]
  constructor
  · intro e
    have := toList_inj e
    rw [this]; rfl
  · intro e
    have : p = ⟨#[]⟩ := by
      apply bytes_ext
      exact List.eq_nil_of_length_eq_zero (by simpa using e)
    rw [this]
set_option maxRecDepth 100000 in
set_option maxHeartbeats 1000000 in
theorem isOperation_any (w : World) (o : AOp) (hp : o.path.size ≤ maxLen) (hq : o.plain.size ≤ maxLen) :
    Calls Tryz.prog 62 #[.agg #[.int .i64 o.kind, .string o.path, .string o.plain, .int .i64 o.rev]] w fun e w' => e = .returned (.bool (properOf o)) ∧ Low w.heap.size w w' := by
  have HP := hid hp
  have HQ := hid hq
  clear hp hq
  cases hN : (o.plain.toList == (⟨#[]⟩ : ByteArray).toList)
  · have hN2 : (o.plain.toList != (⟨#[]⟩ : ByteArray).toList) = true := by rw [bne, hN]; rfl
    have HN : Hid ((o.plain.size == 0) = false) := by show _ = _; rw [← nilB]; exact hN
    go_enter Tryz.func62, Tryz.ntmps62
    go_wp2_with (first | (go_at_call 93; refine (pisPath_any _ _ HP.out).mono ?_; rintro e y1 ⟨rfl, hy⟩; obtain rfl := hy.symm; generalize hI : isPath o.path = I; have HI := hid hI; clear hI) | (go_at_call 99; refine (isSecret_any _ _ HQ.out).mono ?_; rintro e y1 ⟨rfl, hy⟩; obtain rfl := hy.symm; generalize hJ : decide (o.plain.size ≤ 64) = J; have HJ := hid hJ; clear hJ))
    all_goals
      go_ret
      refine ⟨?_, (Low.refl _ w).alloc (Nat.le_refl _) _⟩
      have hz := HN.out
      simp only [properOf, hz]
      (try rw [HI.out])
      (try rw [HJ.out])
      simp_all
    all_goals exact False.elim HJ.out
  · have hN2 : (o.plain.toList != (⟨#[]⟩ : ByteArray).toList) = false := by rw [bne, hN]; rfl
    have HN : Hid ((o.plain.size == 0) = true) := by show _ = _; rw [← nilB]; exact hN
    go_enter Tryz.func62, Tryz.ntmps62
    go_wp2_with (first | (go_at_call 93; refine (pisPath_any _ _ HP.out).mono ?_; rintro e y1 ⟨rfl, hy⟩; obtain rfl := hy.symm; generalize hI : isPath o.path = I; have HI := hid hI; clear hI) | (go_at_call 99; refine (isSecret_any _ _ HQ.out).mono ?_; rintro e y1 ⟨rfl, hy⟩; obtain rfl := hy.symm; generalize hJ : decide (o.plain.size ≤ 64) = J; have HJ := hid hJ; clear hJ))
    all_goals
      go_ret
      refine ⟨?_, (Low.refl _ w).alloc (Nat.le_refl _) _⟩
      have hz := HN.out
      simp only [properOf, hz]
      (try rw [HI.out])
      (try rw [HJ.out])
      simp_all
    all_goals exact False.elim HJ.out
/-- What an operation comes to be. -/
theorem prepared_del (w : World) (seen : Int) (o : AOp) (hk : (o.kind == 2) = true) :
    Calls Tryz.prog 63 #[.pointer (some ⟨b, 0, none⟩), .int .i64 seen, .agg #[.int .i64 o.kind, .string o.path, .string o.plain, .int .i64 o.rev]] w fun e w' => e = .returned (.tuple #[.agg (delEnt o.path).cells.toArray, .int .i64 0]) ∧ Low w.heap.size w w' := by
  go_enter Tryz.func63, Tryz.ntmps63
  go_wp2
  (try simp only [Exit.inBlock, Exit.then])
  refine bodyPost_ret (results_cell_tmp rfl (w.heap.size + 1) (delEnt o.path).cells _ rfl ?_ Tryz.underlying50 rfl (sz50 _)) rfl ?_
  · have q := Blk.new (w.alloc (.cells o.cells.toArray 80)) 50 (delEnt o.path).cells
    rw [World.size_alloc] at q
    exact q.whole
  · exact ⟨rfl, ((Low.refl _ w).alloc (Nat.le_refl _) _).alloc (by simp) _⟩
set_option maxRecDepth 100000 in
set_option maxHeartbeats 1000000 in
theorem prepared_put (w : World) (seen : Int) (o : AOp) (K : PKey) (i : Nat) (hk2 : (o.kind == 2) = false) (h : XIn w F b X) (hw : writerOf X.keys seen = (i : Int) + 1) (hk : X.keys[i]? = some K) (hl : X.keys.length ≤ 6) (hK : K.text.size = 48) (hp : 1 ≤ o.path.size ∧ o.path.size ≤ 16) (hs : o.plain.size ≤ 64) (hd : 0 ≤ X.draws ∧ X.draws + 1 ≤ 1000000000000) (hF : Fours w) (h1 : 1 ≤ w.heap.size) :
    Calls Tryz.prog 63 #[.pointer (some ⟨b, 0, none⟩), .int .i64 seen, .agg #[.int .i64 o.kind, .string o.path, .string o.plain, .int .i64 o.rev]] w fun e w' =>
      e = .returned (.tuple #[.agg (closedOf K.text ((i : Int) + 1) o.path o.plain (X.draws + 1)).cells.toArray, .int .i64 0]) ∧ XIn w' F b { X with draws := X.draws + 1 } ∧ Kept F w w' := by
  have HR := hid h
  have HW := hid hw
  have HK := hid hk
  have HT := hid hK
  have HP := hid hp
  have HD := hid hd
  have HF := hid hF
  have hil : i < X.keys.length := (List.getElem?_eq_some_iff.1 hk).1
  clear h hw hk hK hp hd hF
  have hV : Hid (∀ A B : Obj, Low w.heap.size w ((w.alloc A).alloc B)) := fun A B => ((Low.refl _ w).alloc (Nat.le_refl _) A).alloc (by simp) B
  go_enter Tryz.func63, Tryz.ntmps63
  go_wp2_with (first | (go_at_call 100; refine (writer_any _ _ (by exact (HR.out.alloc _).alloc _) hl (by omega)).mono ?_; rw [HW.out]; rintro e y1 ⟨rfl, rfl⟩) | (go_at_call 87; refine (sealed_any _ _ _ K i (by exact (HR.out.alloc _).alloc _) HK.out (by omega) HT.out HP.out hs HD.out (by exact fours_low HF.out h1 (hV.out _ _)) (by simp)).mono ?_; rintro e y2 ⟨rfl, r2, k2⟩; have R2 := hid r2; have K2 := hid k2; have BN : Hid (Blk y2 (w.heap.size + 1) 50 Ent.zero.cells) := (show Blk ((w.alloc (.cells o.cells.toArray 80)).alloc (.cells Ent.zero.cells.toArray 50)) (w.heap.size + 1) 50 Ent.zero.cells from (by (have q := Blk.new (w.alloc (.cells o.cells.toArray 80)) 50 Ent.zero.cells); rw [World.size_alloc] at q; exact q)).kept k2 (fun f => by have := HR.out.below _ f; omega); clear r2 k2) | ((with_reducible refine st50 (.tmp 6) (.tmp 25) (w.heap.size + 1) Ent.zero (closedOf K.text ((i : Int) + 1) o.path o.plain (X.draws + 1)) ?_ ?_ BN.out ?_); rfl; rfl; intro w1 b1 k1 t1; have B1 := hid b1; have K1 := hid k1; clear b1 k1 t1))
  (try simp only [Exit.inBlock, Exit.then])
  refine bodyPost_ret (results_cell_tmp rfl (w.heap.size + 1) (closedOf K.text ((i : Int) + 1) o.path o.plain (X.draws + 1)).cells _ rfl B1.out.whole Tryz.underlying50 rfl (sz50 _)) rfl ?_
  refine ⟨rfl, R2.out.kept K1.out (fun q hq e => by have := HR.out.below q hq; omega), ?_⟩
  exact ((hV.out _ _).kept.trans K2.out (H := F) (fun _ f => f.elim) (fun _ _ f => f)).trans K1.out (fun _ f => f) (fun q hq e => by omega)
end Go.Proofs.YtphapknfkbgapaaGreatDoor
namespace Go.Proofs.YtphapknfkbgapaaGreatDoor
open Go.RowKit

variable {F : Nat → Prop} {b : Nat} {X : PS}

set_option maxRecDepth 100000 in
set_option maxHeartbeats 1000000 in
theorem pBegin_srv (w : World) (s : Int) (o : AOp) (h : XIn w F b X) (hs : isSrv X.servers.length s = false) :
    Calls Tryz.prog 27 #[.pointer (some ⟨b, 0, none⟩), .int .i64 s, .agg #[.int .i64 o.kind, .string o.path, .string o.plain, .int .i64 o.rev]] w fun e w' => e = .returned (.int .i64 4) ∧ Low w.heap.size w w' := by
  have HR := hid h
  have HS := hid hs
  clear h hs
  go_enter Tryz.func27, Tryz.ntmps27
  go_wp2_with (go_at_call 60; refine (isServer_any _ _ (by exact HR.out.alloc _)).mono ?_; rw [HS.out]; rintro e y1 ⟨rfl, rfl⟩)
  go_ret
  exact ⟨rfl, (Low.refl _ w).alloc (Nat.le_refl _) _⟩
set_option maxRecDepth 100000 in
set_option maxHeartbeats 1000000 in
theorem pBegin_busy (w : World) (i : Nat) (s : PSrv) (o : AOp) (h : XIn w F b X) (ha : X.servers[i]? = some s) (hu : s.busy = true) :
    Calls Tryz.prog 27 #[.pointer (some ⟨b, 0, none⟩), .int .i64 (i : Int), .agg #[.int .i64 o.kind, .string o.path, .string o.plain, .int .i64 o.rev]] w fun e w' => e = .returned (.int .i64 5) ∧ Low w.heap.size w w' := by
  have HR := hid h
  have HA := hid ha
  have HS := hid (psrv ha).1
  have hb := h.lt
  obtain ⟨gS, capS, hcS, hgS, hcs, _⟩ := xin_srvAt h ha
  have s0 : w.cell? ⟨gS, i * 10, none⟩ = some (.int .i64 s.seen) := hcs 0 (by omega)
  have s1 : w.cell? ⟨gS, i * 10 + 1, none⟩ = some (.bool s.busy) := hcs 1 (by omega)
  have i1 := (psrv ha).2
  clear h hcs ha
  go_enter Tryz.func27, Tryz.ntmps27
  go_wp2_with (go_at_call 60; refine (isServer_any _ _ (by exact HR.out.alloc _)).mono ?_; rw [HS.out]; rintro e y1 ⟨rfl, rfl⟩)
  go_ret
  exact ⟨rfl, (Low.refl _ w).alloc (Nat.le_refl _) _⟩
set_option maxRecDepth 100000 in
set_option maxHeartbeats 1000000 in
theorem pBegin_blind (w : World) (i : Nat) (s : PSrv) (o : AOp) (h : XIn w F b X) (ha : X.servers[i]? = some s) (hu : s.busy = false) (hsn : (s.seen == 0) = true) :
    Calls Tryz.prog 27 #[.pointer (some ⟨b, 0, none⟩), .int .i64 (i : Int), .agg #[.int .i64 o.kind, .string o.path, .string o.plain, .int .i64 o.rev]] w fun e w' => e = .returned (.int .i64 6) ∧ Low w.heap.size w w' := by
  have HR := hid h
  have HA := hid ha
  have HS := hid (psrv ha).1
  have hb := h.lt
  obtain ⟨gS, capS, hcS, hgS, hcs, _⟩ := xin_srvAt h ha
  have s0 : w.cell? ⟨gS, i * 10, none⟩ = some (.int .i64 s.seen) := hcs 0 (by omega)
  have s1 : w.cell? ⟨gS, i * 10 + 1, none⟩ = some (.bool s.busy) := hcs 1 (by omega)
  have i1 := (psrv ha).2
  clear h hcs ha
  go_enter Tryz.func27, Tryz.ntmps27
  go_wp2_with (go_at_call 60; refine (isServer_any _ _ (by exact HR.out.alloc _)).mono ?_; rw [HS.out]; rintro e y1 ⟨rfl, rfl⟩)
  go_ret
  exact ⟨rfl, (Low.refl _ w).alloc (Nat.le_refl _) _⟩
set_option maxRecDepth 100000 in
set_option maxHeartbeats 1000000 in
theorem pBegin_op (w : World) (i : Nat) (s : PSrv) (o : AOp) (h : XIn w F b X) (ha : X.servers[i]? = some s) (hu : s.busy = false) (hsn : (s.seen == 0) = false) (hp : o.path.size ≤ maxLen) (hq : o.plain.size ≤ maxLen) (ho : properOf o = false) :
    Calls Tryz.prog 27 #[.pointer (some ⟨b, 0, none⟩), .int .i64 (i : Int), .agg #[.int .i64 o.kind, .string o.path, .string o.plain, .int .i64 o.rev]] w fun e w' => e = .returned (.int .i64 7) ∧ Low w.heap.size w w' := by
  have HR := hid h
  have HA := hid ha
  have HS := hid (psrv ha).1
  have hb := h.lt
  obtain ⟨gS, capS, hcS, hgS, hcs, _⟩ := xin_srvAt h ha
  have s0 : w.cell? ⟨gS, i * 10, none⟩ = some (.int .i64 s.seen) := hcs 0 (by omega)
  have s1 : w.cell? ⟨gS, i * 10 + 1, none⟩ = some (.bool s.busy) := hcs 1 (by omega)
  have i1 := (psrv ha).2
  clear h hcs ha
  have HP := hid hp
  have HQ := hid hq
  have HO := hid ho
  clear hp hq ho
  go_enter Tryz.func27, Tryz.ntmps27
  go_wp2_with (first | (go_at_call 60; refine (isServer_any _ _ (by exact HR.out.alloc _)).mono ?_; rw [HS.out]; rintro e y1 ⟨rfl, rfl⟩) | (go_at_call 62; refine (isOperation_any _ o HP.out HQ.out).mono ?_; rw [HO.out]; rintro e y1 ⟨rfl, l1⟩; have L1 := hid l1; clear l1))
  go_ret
  exact ⟨rfl, ((Low.refl _ w).alloc (Nat.le_refl _) _).trans (L1.out.mono (by simp))⟩
def PS.setSrv (X : PS) (i : Nat) (u : PSrv) : PS := { X with servers := X.servers.set i u }
set_option maxRecDepth 100000 in
set_option maxHeartbeats 1000000 in
theorem pBegin_del (w : World) (i : Nat) (s : PSrv) (o : AOp) (h : XIn w F b X) (ha : X.servers[i]? = some s) (hu : s.busy = false) (hsn : (s.seen == 0) = false) (hp : o.path.size ≤ maxLen) (hq : o.plain.size ≤ maxLen) (ho : properOf o = true) (hk : (o.kind == 2) = true) :
    Calls Tryz.prog 27 #[.pointer (some ⟨b, 0, none⟩), .int .i64 (i : Int), .agg #[.int .i64 o.kind, .string o.path, .string o.plain, .int .i64 o.rev]] w fun e w' => e = .returned (.int .i64 0) ∧ XIn w' F b ((X).setSrv i ⟨s.seen, true, s.seen, o.rev, delEnt o.path⟩) ∧ Kept F w w' := by
  have HR := hid h
  have HA := hid ha
  have HS := hid (psrv ha).1
  have hb := h.lt
  obtain ⟨gS, capS, hcS, hgS, hcs, _⟩ := xin_srvAt h ha
  have s0 : w.cell? ⟨gS, i * 10, none⟩ = some (.int .i64 s.seen) := hcs 0 (by omega)
  have s1 : w.cell? ⟨gS, i * 10 + 1, none⟩ = some (.bool s.busy) := hcs 1 (by omega)
  have i1 := (psrv ha).2
  clear h hcs ha
  have HP := hid hp
  have HQ := hid hq
  have HO := hid ho
  clear hp hq ho
  obtain ⟨E, hE⟩ : ∃ E, E = delEnt o.path := ⟨_, rfl⟩
  have HE := hid hE
  clear hE
  go_enter Tryz.func27, Tryz.ntmps27
  go_upto_region 13 with (first | (go_at_call 60; refine (isServer_any _ _ (by exact HR.out.alloc _)).mono ?_; rw [HS.out]; rintro e y1 ⟨rfl, rfl⟩) | (go_at_call 62; refine (isOperation_any _ o HP.out HQ.out).mono ?_; rw [HO.out]; rintro e y1 ⟨rfl, l1⟩; have L1 : Hid (Low w.heap.size w y1) := ((Low.refl _ w).alloc (Nat.le_refl _) _).trans (l1.mono (by simp)); have b75 : Blk y1 w.heap.size 80 o.cells := (Blk.new w 80 o.cells).low l1 (by simp); have n0 : y1.cell? ⟨w.heap.size, 0, none⟩ = some (.int .i64 o.kind) := b75.cell 0; have n1 : y1.cell? ⟨w.heap.size, 1, none⟩ = some (.string o.path) := b75.cell 1; have n2 : y1.cell? ⟨w.heap.size, 2, none⟩ = some (.string o.plain) := b75.cell 2; have n3 : y1.cell? ⟨w.heap.size, 3, none⟩ = some (.int .i64 o.rev) := b75.cell 3; have B75 := hid b75; have X1 : Hid (XIn y1 F b X) := HR.out.low L1.out; clear l1 b75) | (go_at_call 63; refine (prepared_del (b := b) _ _ o hk).mono ?_; rw [← HE.out]; rintro e y2 ⟨rfl, l2⟩; have X2 : Hid (XIn y2 F b X) := X1.out.low l2; have K2 : Hid (Kept F w y2) := (L1.out.trans (l2.mono L1.out.size)).kept.mono (fun _ _ f => f.elim); have B2 : Hid (Blk y2 w.heap.size 80 o.cells) := B75.out.low l2 B75.out.lt; clear l2) | ((with_reducible refine st50 (.tmp 8) (.tmp 41) y2.heap.size Ent.zero E ?_ ?_ ?_ ?_); rfl; rfl; exact (Blk.new y2 50 Ent.zero.cells); intro W b3 k3 t3; have BM := hid b3; have X3 : Hid (XIn W F b (X)) := (X2.out.alloc _).kept k3 (fun q hq e => by have := X2.out.below q hq; omega); have KW : Hid (Kept F w W) := (K2.out.trans ((Low.refl _ y2).alloc (Nat.le_refl _) _).kept (H := F) (fun _ f => f) (fun _ _ f => f.elim)).trans k3 (fun _ f => f) (fun q hq e => by have := K2.out.size; omega); have BW : Hid (Blk W w.heap.size 80 o.cells) := (B2.out.alloc _).kept k3 (by have := B2.out.lt; omega); clear b3 k3 t3))
  have w3 : W.cell? ⟨w.heap.size, 3, none⟩ = some (.int .i64 o.rev) := BW.out.cell 3
  have e0 : W.cell? ⟨y2.heap.size, 0, none⟩ = some (.string E.path) := BM.out.cell 0
  have e1 : W.cell? ⟨y2.heap.size, 1, none⟩ = some (.int .i64 E.rev) := BM.out.cell 1
  have e2 : W.cell? ⟨y2.heap.size, 2, none⟩ = some (.int .i64 E.key) := BM.out.cell 2
  have e3 : W.cell? ⟨y2.heap.size, 3, none⟩ = some (.int .i64 E.draw) := BM.out.cell 3
  have e4 : W.cell? ⟨y2.heap.size, 4, none⟩ = some (.string E.sealed) := BM.out.cell 4
  have e5 : W.cell? ⟨y2.heap.size, 5, none⟩ = some (.bool E.gone) := BM.out.cell 5
  clear hb hcS hgS s0 s1 n0 n1 n2 n3
  go_upto_region 14 with fail
  go_name_world V hV
  have XV : Hid (XIn V F b (X)) := by
    show XIn V F b _
    rw [← hV]; exact X3.out.alloc _
  have KV : Hid (Kept F w V) := by
    show Kept F w V
    rw [← hV]; exact KW.out.trans ((Low.refl _ W).alloc (Nat.le_refl _) _).kept (fun _ f => f) (fun _ _ f => f.elim)
  have BV : Hid (Blk V W.heap.size 99 [.int .i64 s.seen, .int .i64 o.rev, .string E.path, .int .i64 E.rev, .int .i64 E.key, .int .i64 E.draw, .string E.sealed, .bool E.gone]) := by
    show Blk V _ _ _
    rw [← hV]; exact Blk.new W 99 [.int .i64 s.seen, .int .i64 o.rev, .string E.path, .int .i64 E.rev, .int .i64 E.key, .int .i64 E.draw, .string E.sealed, .bool E.gone]
  obtain ⟨g2, cap2, hc2, hg2, _, _⟩ := xin_srvAt XV.out (show (X).servers[i]? = some s from HA.out)
  have hc2 : V.cell? ⟨b, 8, none⟩ = some (.slice (some ⟨g2, 0, none⟩) X.servers.length cap2) := hc2
  obtain ⟨r1, r2, r3⟩ := xin_putSrv XV.out hc2 i (List.getElem?_eq_some_iff.1 HA.out).1 ⟨s.seen, true, s.seen, o.rev, E⟩
  have R1 := hid r1
  have R2 := hid r2
  have R3 := hid r3
  have v0 : V.cell? ⟨W.heap.size, 0, none⟩ = some (.int .i64 s.seen) := BV.out.cell 0
  have v1 : V.cell? ⟨W.heap.size, 1, none⟩ = some (.int .i64 o.rev) := BV.out.cell 1
  have v2 : V.cell? ⟨W.heap.size, 2, none⟩ = some (.string E.path) := BV.out.cell 2
  have v3 : V.cell? ⟨W.heap.size, 3, none⟩ = some (.int .i64 E.rev) := BV.out.cell 3
  have v4 : V.cell? ⟨W.heap.size, 4, none⟩ = some (.int .i64 E.key) := BV.out.cell 4
  have v5 : V.cell? ⟨W.heap.size, 5, none⟩ = some (.int .i64 E.draw) := BV.out.cell 5
  have v6 : V.cell? ⟨W.heap.size, 6, none⟩ = some (.string E.sealed) := BV.out.cell 6
  have v7 : V.cell? ⟨W.heap.size, 7, none⟩ = some (.bool E.gone) := BV.out.cell 7
  clear r1 r2 r3 hV w3 e0 e1 e2 e3 e4 e5
  refine wp_region_still_tail 9 (by kernel_rfl) (by kernel_rfl) ?_
  (try (change wpStill _ _ (World.drew _) _ _ _))
  simp only [List.take_succ_cons, List.take_zero, List.drop_succ_cons, List.drop_zero]
  repeat still_step
  refine wpStill_nil ?_
  (try (change wpList _ _ _ _ _ (World.drew _)))
  go_wp2_with ((with_reducible refine st96 (.tmp 59) (.tmp 58) g2 (i * 10) ⟨s.seen, true, s.seen, o.rev, E⟩ ?_ ?_ ?_ ?_); rfl; rfl; (exact there_drew R3.out); rw [setCells_drew])
  go_ret
  rw [← HE.out]
  exact ⟨rfl, R1.out.drew, (KV.out.trans R2.out (H := F) (fun _ f => f) (fun _ _ f => f)).drew⟩
set_option maxRecDepth 100000 in
set_option maxHeartbeats 1000000 in
theorem pBegin_put (w : World) (i : Nat) (s : PSrv) (o : AOp) (K : PKey) (ki : Nat) (h : XIn w F b X) (ha : X.servers[i]? = some s) (hu : s.busy = false) (hsn : (s.seen == 0) = false) (hp : o.path.size ≤ maxLen) (hq : o.plain.size ≤ maxLen) (ho : properOf o = true) (hk2 : (o.kind == 1) = true) (hw : writerOf X.keys s.seen = (ki : Int) + 1) (hk : X.keys[ki]? = some K) (hl : X.keys.length ≤ 6) (hK : K.text.size = 48) (hd : 0 ≤ X.draws ∧ X.draws + 1 ≤ 1000000000000) (hF : Fours w) (h1 : 1 ≤ w.heap.size) :
    Calls Tryz.prog 27 #[.pointer (some ⟨b, 0, none⟩), .int .i64 (i : Int), .agg #[.int .i64 o.kind, .string o.path, .string o.plain, .int .i64 o.rev]] w fun e w' => e = .returned (.int .i64 0) ∧ XIn w' F b (({ X with draws := X.draws + 1 }).setSrv i ⟨s.seen, true, s.seen, o.rev, closedOf K.text ((ki : Int) + 1) o.path o.plain (X.draws + 1)⟩) ∧ Kept F w w' := by
  have gd : Hid ((1 ≤ o.path.size ∧ o.path.size ≤ 16) ∧ o.plain.size ≤ 64) := by
    have q := ho
    have k1 := beq_iff_eq.1 hk2
    simp only [properOf, isPath, Bool.and_eq_true, Bool.or_eq_true, decide_eq_true_eq, beq_iff_eq, k1] at q
    show _ ∧ _
    omega
  have hk3 : (o.kind == 2) = false := beq_eq_false_iff_ne.2 (by have := beq_iff_eq.1 hk2; omega)
  have HR := hid h
  have HA := hid ha
  have HS := hid (psrv ha).1
  have hb := h.lt
  obtain ⟨gS, capS, hcS, hgS, hcs, _⟩ := xin_srvAt h ha
  have s0 : w.cell? ⟨gS, i * 10, none⟩ = some (.int .i64 s.seen) := hcs 0 (by omega)
  have s1 : w.cell? ⟨gS, i * 10 + 1, none⟩ = some (.bool s.busy) := hcs 1 (by omega)
  have i1 := (psrv ha).2
  clear h hcs ha
  have HP := hid hp
  have HQ := hid hq
  have HO := hid ho
  clear hp hq ho
  have HW := hid hw
  have HKK := hid hk
  have HT := hid hK
  have HDD := hid hd
  have HF := hid hF
  clear hw hk hK hd hF
  obtain ⟨E, hE⟩ : ∃ E, E = closedOf K.text ((ki : Int) + 1) o.path o.plain (X.draws + 1) := ⟨_, rfl⟩
  have HE := hid hE
  clear hE
  go_enter Tryz.func27, Tryz.ntmps27
  go_upto_region 13 with (first | (go_at_call 60; refine (isServer_any _ _ (by exact HR.out.alloc _)).mono ?_; rw [HS.out]; rintro e y1 ⟨rfl, rfl⟩) | (go_at_call 62; refine (isOperation_any _ o HP.out HQ.out).mono ?_; rw [HO.out]; rintro e y1 ⟨rfl, l1⟩; have L1 : Hid (Low w.heap.size w y1) := ((Low.refl _ w).alloc (Nat.le_refl _) _).trans (l1.mono (by simp)); have b75 : Blk y1 w.heap.size 80 o.cells := (Blk.new w 80 o.cells).low l1 (by simp); have n0 : y1.cell? ⟨w.heap.size, 0, none⟩ = some (.int .i64 o.kind) := b75.cell 0; have n1 : y1.cell? ⟨w.heap.size, 1, none⟩ = some (.string o.path) := b75.cell 1; have n2 : y1.cell? ⟨w.heap.size, 2, none⟩ = some (.string o.plain) := b75.cell 2; have n3 : y1.cell? ⟨w.heap.size, 3, none⟩ = some (.int .i64 o.rev) := b75.cell 3; have B75 := hid b75; have X1 : Hid (XIn y1 F b X) := HR.out.low L1.out; clear l1 b75) | (go_at_call 63; refine (prepared_put _ _ o K ki hk3 X1.out HW.out HKK.out hl HT.out gd.out.1 gd.out.2 HDD.out (fours_low HF.out h1 L1.out) (Nat.le_trans h1 L1.out.size)).mono ?_; rw [← HE.out]; rintro e y2 ⟨rfl, r2, k2⟩; have X2 := hid r2; have K2 : Hid (Kept F w y2) := L1.out.kept.trans k2 (fun _ f => f.elim) (fun _ _ f => f); have B2 : Hid (Blk y2 w.heap.size 80 o.cells) := B75.out.kept k2 (fun f => by have := HR.out.below _ f; omega); clear r2 k2) | ((with_reducible refine st50 (.tmp 8) (.tmp 41) y2.heap.size Ent.zero E ?_ ?_ ?_ ?_); rfl; rfl; exact (Blk.new y2 50 Ent.zero.cells); intro W b3 k3 t3; have BM := hid b3; have X3 : Hid (XIn W F b ({ X with draws := X.draws + 1 })) := (X2.out.alloc _).kept k3 (fun q hq e => by have := X2.out.below q hq; omega); have KW : Hid (Kept F w W) := (K2.out.trans ((Low.refl _ y2).alloc (Nat.le_refl _) _).kept (H := F) (fun _ f => f) (fun _ _ f => f.elim)).trans k3 (fun _ f => f) (fun q hq e => by have := K2.out.size; omega); have BW : Hid (Blk W w.heap.size 80 o.cells) := (B2.out.alloc _).kept k3 (by have := B2.out.lt; omega); clear b3 k3 t3))
  have w3 : W.cell? ⟨w.heap.size, 3, none⟩ = some (.int .i64 o.rev) := BW.out.cell 3
  have e0 : W.cell? ⟨y2.heap.size, 0, none⟩ = some (.string E.path) := BM.out.cell 0
  have e1 : W.cell? ⟨y2.heap.size, 1, none⟩ = some (.int .i64 E.rev) := BM.out.cell 1
  have e2 : W.cell? ⟨y2.heap.size, 2, none⟩ = some (.int .i64 E.key) := BM.out.cell 2
  have e3 : W.cell? ⟨y2.heap.size, 3, none⟩ = some (.int .i64 E.draw) := BM.out.cell 3
  have e4 : W.cell? ⟨y2.heap.size, 4, none⟩ = some (.string E.sealed) := BM.out.cell 4
  have e5 : W.cell? ⟨y2.heap.size, 5, none⟩ = some (.bool E.gone) := BM.out.cell 5
  clear hb hcS hgS s0 s1 n0 n1 n2 n3
  go_upto_region 14 with fail
  go_name_world V hV
  have XV : Hid (XIn V F b ({ X with draws := X.draws + 1 })) := by
    show XIn V F b _
    rw [← hV]; exact X3.out.alloc _
  have KV : Hid (Kept F w V) := by
    show Kept F w V
    rw [← hV]; exact KW.out.trans ((Low.refl _ W).alloc (Nat.le_refl _) _).kept (fun _ f => f) (fun _ _ f => f.elim)
  have BV : Hid (Blk V W.heap.size 99 [.int .i64 s.seen, .int .i64 o.rev, .string E.path, .int .i64 E.rev, .int .i64 E.key, .int .i64 E.draw, .string E.sealed, .bool E.gone]) := by
    show Blk V _ _ _
    rw [← hV]; exact Blk.new W 99 [.int .i64 s.seen, .int .i64 o.rev, .string E.path, .int .i64 E.rev, .int .i64 E.key, .int .i64 E.draw, .string E.sealed, .bool E.gone]
  obtain ⟨g2, cap2, hc2, hg2, _, _⟩ := xin_srvAt XV.out (show ({ X with draws := X.draws + 1 }).servers[i]? = some s from HA.out)
  have hc2 : V.cell? ⟨b, 8, none⟩ = some (.slice (some ⟨g2, 0, none⟩) X.servers.length cap2) := hc2
  obtain ⟨r1, r2, r3⟩ := xin_putSrv XV.out hc2 i (List.getElem?_eq_some_iff.1 HA.out).1 ⟨s.seen, true, s.seen, o.rev, E⟩
  have R1 := hid r1
  have R2 := hid r2
  have R3 := hid r3
  have v0 : V.cell? ⟨W.heap.size, 0, none⟩ = some (.int .i64 s.seen) := BV.out.cell 0
  have v1 : V.cell? ⟨W.heap.size, 1, none⟩ = some (.int .i64 o.rev) := BV.out.cell 1
  have v2 : V.cell? ⟨W.heap.size, 2, none⟩ = some (.string E.path) := BV.out.cell 2
  have v3 : V.cell? ⟨W.heap.size, 3, none⟩ = some (.int .i64 E.rev) := BV.out.cell 3
  have v4 : V.cell? ⟨W.heap.size, 4, none⟩ = some (.int .i64 E.key) := BV.out.cell 4
  have v5 : V.cell? ⟨W.heap.size, 5, none⟩ = some (.int .i64 E.draw) := BV.out.cell 5
  have v6 : V.cell? ⟨W.heap.size, 6, none⟩ = some (.string E.sealed) := BV.out.cell 6
  have v7 : V.cell? ⟨W.heap.size, 7, none⟩ = some (.bool E.gone) := BV.out.cell 7
  clear r1 r2 r3 hV w3 e0 e1 e2 e3 e4 e5
  refine wp_region_still_tail 9 (by kernel_rfl) (by kernel_rfl) ?_
  (try (change wpStill _ _ (World.drew _) _ _ _))
  simp only [List.take_succ_cons, List.take_zero, List.drop_succ_cons, List.drop_zero]
  repeat still_step
  refine wpStill_nil ?_
  (try (change wpList _ _ _ _ _ (World.drew _)))
  go_wp2_with ((with_reducible refine st96 (.tmp 59) (.tmp 58) g2 (i * 10) ⟨s.seen, true, s.seen, o.rev, E⟩ ?_ ?_ ?_ ?_); rfl; rfl; (exact there_drew R3.out); rw [setCells_drew])
  go_ret
  rw [← HE.out]
  exact ⟨rfl, R1.out.drew, (KV.out.trans R2.out (H := F) (fun _ f => f) (fun _ _ f => f)).drew⟩
end Go.Proofs.YtphapknfkbgapaaGreatDoor
namespace Go.Proofs.YtphapknfkbgapaaGreatDoor
open Go.RowKit

variable {F : Nat → Prop} {b : Nat} {X : PS}

theorem blk_drew {w : World} {b : Nat} {t : TypeId} {cs : List Value} (h : Blk w b t cs) : Blk w.drew b t cs := h
theorem pCommit_srv (w : World) (s : Int) (h : XIn w F b X) (hs : isSrv X.servers.length s = false) :
    Calls Tryz.prog 29 #[.pointer (some ⟨b, 0, none⟩), .int .i64 s] w fun e w' => e = .returned (.tuple #[.int .i64 0, .int .i64 4]) ∧ w' = w := by
  have HR := hid h
  have HS := hid hs
  clear h hs
  go_enter Tryz.func29, Tryz.ntmps29
  go_wp2_with (go_at_call 60; refine (isServer_any _ _ HR.out).mono ?_; rw [HS.out]; rintro e y1 ⟨rfl, hy⟩; obtain rfl := hy.symm)
  go_ret2
  exact ⟨rfl, rfl⟩
set_option maxRecDepth 100000 in
theorem pCommit_idle (w : World) (i : Nat) (s : PSrv) (h : XIn w F b X) (ha : X.servers[i]? = some s) (hu : s.busy = false) :
    Calls Tryz.prog 29 #[.pointer (some ⟨b, 0, none⟩), .int .i64 (i : Int)] w fun e w' => e = .returned (.tuple #[.int .i64 0, .int .i64 8]) ∧ w' = w := by
  have HR := hid h
  have HS := hid (psrv ha).1
  obtain ⟨gS, capS, hcS, hgS, hcs, _⟩ := xin_srvAt h ha
  have s1 : w.cell? ⟨gS, i * 10 + 1, none⟩ = some (.bool s.busy) := hcs 1 (by omega)
  have i1 := (psrv ha).2
  clear h hcs ha
  go_enter Tryz.func29, Tryz.ntmps29
  go_wp2_with (go_at_call 60; refine (isServer_any _ _ HR.out).mono ?_; rw [HS.out]; rintro e y1 ⟨rfl, hy⟩; obtain rfl := hy.symm)
  go_ret2
  exact ⟨rfl, rfl⟩
def PSrv.rest (s : PSrv) : PSrv := { PSrv.zero with seen := s.seen }
def pCommitErr (X : PS) (wrote : Int) (s : PSrv) : Int := pErr wrote (pRevOf X s.e.path) (pFull X) s
def PS.commit (X : PS) (wrote : Int) (i : Nat) (s : PSrv) : PS := if pCommitErr X wrote s == 0 then (X.setSrv i s.rest).add s.e else X.setSrv i s.rest
def PS.commitRev (X : PS) (wrote : Int) (s : PSrv) : Int := if pCommitErr X wrote s == 0 then X.rev + 1 else 0
set_option maxRecDepth 100000 in
set_option maxHeartbeats 1000000 in
theorem pCommit_any (w : World) (i : Nat) (s : PSrv) (K : PKey) (ki : Nat) (h : XIn w F b X) (ha : X.servers[i]? = some s) (hu : s.busy = true) (hw : X.write = (ki : Int) + 1) (hk : X.keys[ki]? = some K) (hl : X.keys.length ≤ 6) (hn : X.entries.length ≤ 1000) (hr : 0 ≤ X.rev ∧ X.rev ≤ 1000000000000) :
    Calls Tryz.prog 29 #[.pointer (some ⟨b, 0, none⟩), .int .i64 (i : Int)] w fun e w' => e = .returned (.tuple #[.int .i64 (X.commitRev K.wrote s), .int .i64 (pCommitErr X K.wrote s)]) ∧ XIn w' (grow F w w') b (X.commit K.wrote i s) ∧ Kept F w w' := by
  have HR := hid h
  have HS := hid (psrv ha).1
  have HA := hid ha
  have HW := hid hw
  have HK := hid hk
  have HRR := hid hr
  obtain ⟨gS, capS, hcS, hgS, hcs, _⟩ := xin_srvAt h ha
  have s1 : w.cell? ⟨gS, i * 10 + 1, none⟩ = some (.bool s.busy) := hcs 1 (by omega)
  have s2 : w.cell? ⟨gS, i * 10 + 2, none⟩ = some (.int .i64 s.epoch) := hcs 2 (by omega)
  have s3 : w.cell? ⟨gS, i * 10 + 3, none⟩ = some (.int .i64 s.rev) := hcs 3 (by omega)
  have s4 : w.cell? ⟨gS, i * 10 + 4, none⟩ = some (.string s.e.path) := hcs 4 (by omega)
  have s5 : w.cell? ⟨gS, i * 10 + 5, none⟩ = some (.int .i64 s.e.rev) := hcs 5 (by omega)
  have s6 : w.cell? ⟨gS, i * 10 + 6, none⟩ = some (.int .i64 s.e.key) := hcs 6 (by omega)
  have s7 : w.cell? ⟨gS, i * 10 + 7, none⟩ = some (.int .i64 s.e.draw) := hcs 7 (by omega)
  have s8 : w.cell? ⟨gS, i * 10 + 8, none⟩ = some (.string s.e.sealed) := hcs 8 (by omega)
  have s9 : w.cell? ⟨gS, i * 10 + 9, none⟩ = some (.bool s.e.gone) := hcs 9 (by omega)
  have i1 := (psrv ha).2
  clear h hcs ha hw hk hr
  go_enter Tryz.func29, Tryz.ntmps29
  go_upto_region 6 with (go_at_call 60; refine (isServer_any _ _ HR.out).mono ?_; rw [HS.out]; rintro e y1 ⟨rfl, hy⟩; obtain rfl := hy.symm)
  go_name_world W hW
  have XW : Hid (XIn W F b X) := by
    show XIn W F b X
    rw [← hW]; exact HR.out.alloc _
  have LW : Hid (Low w.heap.size w W) := by
    show Low _ _ _
    rw [← hW]; exact (Low.refl _ w).alloc (Nat.le_refl _) _
  have BW : Hid (Blk W w.heap.size 99 (opCells s)) := by
    show Blk W _ _ _
    rw [← hW]; exact Blk.new w 99 (opCells s)
  obtain ⟨g2, cap2, hc2, hg2, hcs2, _⟩ := xin_srvAt XW.out HA.out
  have t0 : W.cell? ⟨g2, i * 10, none⟩ = some (.int .i64 s.seen) := hcs2 0 (by omega)
  obtain ⟨r1, r2, r3⟩ := xin_putSrv XW.out hc2 i (List.getElem?_eq_some_iff.1 HA.out).1 s.rest
  have R1 : Hid (XIn (W.setCells g2 (i * 10) s.rest.cells) F b (X.setSrv i s.rest)) := r1
  have R2 := hid r2
  have R3 := hid r3
  clear r1 r2 r3 hW hcS hgS s1 s2 s3 s4 s5 s6 s7 s8 s9 hcs2
  refine wp_region_still_tail 15 (by kernel_rfl) (by kernel_rfl) ?_
  (try (change wpStill _ _ (World.drew _) _ _ _))
  simp only [List.take_succ_cons, List.take_zero, List.drop_succ_cons, List.drop_zero]
  repeat still_step
  refine wpStill_nil ?_
  (try (change wpList _ _ _ _ _ (World.drew _)))
  go_upto_region 7 with ((with_reducible refine st96 (.tmp 43) (.tmp 42) g2 (i * 10) s.rest ?_ ?_ ?_ ?_); rfl; rfl; (exact there_drew R3.out); rw [setCells_drew])
  go_name_world V hV
  have XV : Hid (XIn V F b (X.setSrv i s.rest)) := by
    show XIn V F b _
    rw [← hV]; exact R1.out.drew
  have KV : Hid (Kept F w V) := by
    show Kept F w V
    rw [← hV]; exact (LW.out.kept.trans R2.out (H := F) (fun _ f => f.elim) (fun _ _ f => f)).drew
  have BV : Hid (Blk V w.heap.size 99 (opCells s)) := by
    show Blk V _ _ _
    rw [← hV]; exact blk_drew (BW.out.kept R2.out (fun f => by have := HR.out.below _ f; omega))
  have v0 : V.cell? ⟨w.heap.size, 0, none⟩ = some (.int .i64 s.epoch) := BV.out.cell 0
  have v1 : V.cell? ⟨w.heap.size, 1, none⟩ = some (.int .i64 s.rev) := BV.out.cell 1
  have v2 : V.cell? ⟨w.heap.size, 2, none⟩ = some (.string s.e.path) := BV.out.cell 2
  have v3 : V.cell? ⟨w.heap.size, 3, none⟩ = some (.int .i64 s.e.rev) := BV.out.cell 3
  have v4 : V.cell? ⟨w.heap.size, 4, none⟩ = some (.int .i64 s.e.key) := BV.out.cell 4
  have v5 : V.cell? ⟨w.heap.size, 5, none⟩ = some (.int .i64 s.e.draw) := BV.out.cell 5
  have v6 : V.cell? ⟨w.heap.size, 6, none⟩ = some (.string s.e.sealed) := BV.out.cell 6
  have v7 : V.cell? ⟨w.heap.size, 7, none⟩ = some (.bool s.e.gone) := BV.out.cell 7
  obtain ⟨er, her⟩ : ∃ er, pCommitErr X K.wrote s = er := ⟨_, rfl⟩
  have HER : Hid (pErr K.wrote (pRevOf (X.setSrv i s.rest) s.e.path) (pFull (X.setSrv i s.rest)) s = er) := her
  have HER2 := hid her
  clear her hV t0 hc2 hg2
  cases hz : (er == 0)
  · have q : (er != 0) = true := by rw [bne, hz]; rfl
    go_wp2_with (go_at_call 67; refine (mayCommit_any (X := X.setSrv i s.rest) _ s K ki XV.out HW.out HK.out hl hn).mono ?_; rw [HER.out]; rintro e y ⟨rfl, l⟩; have LY := hid l; clear l)
    go_ret2
    unfold PS.commitRev PS.commit
    rw [HER2.out, hz]
    have xy := XV.out.low LY.out
    refine ⟨rfl, XIn.more xy (fun _ e => Or.inl e) (fun k e => e.elim (xy.below k) (fun e => e.2)), KV.out.trans LY.out.kept (fun _ f => f) (fun _ _ f => f.elim)⟩
  · have q : (er != 0) = false := by rw [bne, hz]; rfl
    have z : er = 0 := by simpa using hz
    go_wp2_with (first | (go_at_call 67; refine (mayCommit_any (X := X.setSrv i s.rest) _ s K ki XV.out HW.out HK.out hl hn).mono ?_; rw [HER.out]; rintro e y ⟨rfl, l⟩; have LY := hid l; have BY := BV.out.low l BV.out.lt; have y2 : y.cell? ⟨w.heap.size, 2, none⟩ = some (.string s.e.path) := BY.cell 2; have y3 : y.cell? ⟨w.heap.size, 3, none⟩ = some (.int .i64 s.e.rev) := BY.cell 3; have y4 : y.cell? ⟨w.heap.size, 4, none⟩ = some (.int .i64 s.e.key) := BY.cell 4; have y5 : y.cell? ⟨w.heap.size, 5, none⟩ = some (.int .i64 s.e.draw) := BY.cell 5; have y6 : y.cell? ⟨w.heap.size, 6, none⟩ = some (.string s.e.sealed) := BY.cell 6; have y7 : y.cell? ⟨w.heap.size, 7, none⟩ = some (.bool s.e.gone) := BY.cell 7; have XY := hid (XV.out.low l); clear l BY) | (go_at_call 68; refine (add_any (X := X.setSrv i s.rest) _ s.e XY.out hn HRR.out).mono ?_; rintro e y2' ⟨rfl, r4, k4⟩; have R4 := hid r4; have K4 := hid k4; clear r4 k4))
    go_ret2
    unfold PS.commitRev PS.commit
    rw [HER2.out, hz]
    refine ⟨by rw [z]; rfl, ?_, (KV.out.trans LY.out.kept (H := F) (fun _ f => f) (fun _ _ f => f.elim)).trans K4.out (fun _ f => f) (fun _ _ f => f)⟩
    have hs1 := KV.out.size
    have hs2 := LY.out.size
    exact XIn.more R4.out (fun k hk => hk.elim Or.inl (fun hk => Or.inr ⟨by omega, hk.2⟩)) (fun k hk => hk.elim (fun hk => XIn.below R4.out k (Or.inl hk)) (fun hk => hk.2))
end Go.Proofs.YtphapknfkbgapaaGreatDoor
namespace Go.Proofs.YtphapknfkbgapaaGreatDoor
open Go.RowKit

variable {F : Nat → Prop} {b : Nat} {X : PS}

set_option maxRecDepth 100000 in
set_option maxHeartbeats 1000000 in
theorem openedFor_none (w : World) (i : Nat) (E : Ent) (hz : (E.rev == 0 || E.gone) = true) :
    Calls Tryz.prog 79 #[.pointer (some ⟨b, 0, none⟩), .int .i64 (i : Int), .agg #[.string E.path, .int .i64 E.rev, .int .i64 E.key, .int .i64 E.draw, .string E.sealed, .bool E.gone]] w fun e w' => e = .returned (.tuple #[.string ⟨#[]⟩, .int .i64 12]) ∧ Low w.heap.size w w' := by
  cases h0 : (E.rev == 0)
  · have hg : E.gone = true := by simpa [h0] using hz
    clear hz
    go_enter Tryz.func79, Tryz.ntmps79
    go_wp2_with fail
    go_ret2
    exact ⟨rfl, (Low.refl _ w).alloc (Nat.le_refl _) _⟩
  · clear hz
    go_enter Tryz.func79, Tryz.ntmps79
    go_wp2_with fail
    go_ret2
    exact ⟨rfl, (Low.refl _ w).alloc (Nat.le_refl _) _⟩
def pRead (K : PKey) (e : Ent) (seen : Int) : ByteArray × Int := if decide (seen < K.came) then (⟨#[]⟩, 13) else pOpened K e
def pRevOr (O : ByteArray × Int) (r : Int) : Int := if O.2 == 0 then r else 0
theorem pRead_zero (K : PKey) (e : Ent) (seen : Int) (h : (pRead K e seen).2 ≠ 0) : (pRead K e seen).1 = ⟨#[]⟩ := by
  unfold pRead pOpened at h ⊢
  (repeat' split) <;> simp_all
set_option maxRecDepth 100000 in
set_option maxHeartbeats 1000000 in
theorem openedFor_some (w : World) (i : Nat) (s : PSrv) (E : Ent) (K : PKey) (ki : Nat) (h : XIn w F b X) (ha : X.servers[i]? = some s) (h0 : (E.rev == 0) = false) (hg : E.gone = false)
    (hk : X.keys[ki]? = some K) (hi : E.key = (ki : Int) + 1) (hi6 : ki ≤ 6) (hK : K.text.size = 48) (hO : EntOk E) (hF : Fours w) (h1 : 1 ≤ w.heap.size) :
    Calls Tryz.prog 79 #[.pointer (some ⟨b, 0, none⟩), .int .i64 (i : Int), .agg #[.string E.path, .int .i64 E.rev, .int .i64 E.key, .int .i64 E.draw, .string E.sealed, .bool E.gone]] w fun e w' =>
      e = .returned (.tuple #[.string (pRead K E s.seen).1, .int .i64 (pRead K E s.seen).2]) ∧ Low w.heap.size w w' := by
  obtain ⟨xp, xr, xk, xd, xs, xg⟩ := E
  obtain rfl : xg = false := hg
  obtain rfl : xk = (ki : Int) + 1 := hi
  have HR := hid h
  have HA := hid ha
  have HK := hid hk
  have HT := hid hK
  have HO := hid hO
  have HF := hid hF
  have i1 := (psrv ha).2
  have h0' : (xr == 0) = false := h0
  clear h ha hk hK hO hF h0
  obtain ⟨O, hOO⟩ : ∃ O, O = pOpened K (Ent.mk xp xr ((ki : Int) + 1) xd xs false) := ⟨_, rfl⟩
  have HOO := hid hOO
  clear hOO
  go_enter Tryz.func79, Tryz.ntmps79
  go_upto_region 3 with fail
  go_name_world W hW
  have BM : Hid (Blk W w.heap.size 50 (Ent.mk xp xr ((ki : Int) + 1) xd xs false).cells) := by
    show Blk W _ _ _
    rw [← hW]; exact Blk.new w 50 (Ent.mk xp xr ((ki : Int) + 1) xd xs false).cells
  have LW : Hid (Low w.heap.size w W) := by
    show Low _ _ _
    rw [← hW]; exact (Low.refl _ w).alloc (Nat.le_refl _) _
  have m2 : W.cell? ⟨w.heap.size, 2, none⟩ = some (.int .i64 ((ki : Int) + 1)) := BM.out.cell 2
  clear hW
  go_upto_region 4 with (go_at_call 103; refine (key_any _ ki K (by exact HR.out.low LW.out) HK.out (by omega)).mono ?_; rintro e y2 ⟨rfl, l2⟩; have L2 : Hid (Low w.heap.size w y2) := LW.out.trans (l2.mono LW.out.size); have BM2 : Hid (Blk y2 w.heap.size 50 (Ent.mk xp xr ((ki : Int) + 1) xd xs false).cells) := BM.out.low l2 BM.out.lt; clear l2 m2)
  go_name_world V hV
  have LV : Hid (Low w.heap.size w V) := by
    show Low _ _ _
    rw [← hV]; exact L2.out.alloc L2.out.size _
  have BV : Hid (Blk V w.heap.size 50 (Ent.mk xp xr ((ki : Int) + 1) xd xs false).cells) := by
    show Blk V _ _ _
    rw [← hV]; exact BM2.out.alloc _
  have BK : Hid (Blk V y2.heap.size 56 K.cells) := by
    show Blk V _ _ _
    rw [← hV]; exact Blk.new y2 56 K.cells
  have XV := hid (HR.out.low LV.out)
  obtain ⟨g2, cap2, hc2, hg2, hcs2, _⟩ := xin_srvAt XV.out HA.out
  have t0 : V.cell? ⟨g2, i * 10, none⟩ = some (.int .i64 s.seen) := hcs2 0 (by omega)
  have k1 : V.cell? ⟨y2.heap.size, 1, none⟩ = some (.int .i64 K.came) := BK.out.cell 1
  have x0 : V.cell? ⟨w.heap.size, 0, none⟩ = some (.string xp) := BV.out.cell 0
  have x1 : V.cell? ⟨w.heap.size, 1, none⟩ = some (.int .i64 xr) := BV.out.cell 1
  have x2 : V.cell? ⟨w.heap.size, 2, none⟩ = some (.int .i64 ((ki : Int) + 1)) := BV.out.cell 2
  have x3 : V.cell? ⟨w.heap.size, 3, none⟩ = some (.int .i64 xd) := BV.out.cell 3
  have x4 : V.cell? ⟨w.heap.size, 4, none⟩ = some (.string xs) := BV.out.cell 4
  have x5 : V.cell? ⟨w.heap.size, 5, none⟩ = some (.bool false) := BV.out.cell 5
  clear hV hcs2
  cases q1 : decide (s.seen < K.came)
  · go_region
    all_goals go_wp2_with (go_at_call 107; refine (popened_any _ (Ent.mk xp xr ((ki : Int) + 1) xd xs false) K ki (by exact XV.out.drew) HK.out rfl hi6 HT.out HO.out (by exact fours_low HF.out h1 LV.out.drew) (by have := LV.out.size; simp; omega)).mono ?_; rw [← HOO.out]; rintro e y3 ⟨rfl, l3⟩; have L3 : Hid (Low w.heap.size w y3) := LV.out.drew.trans (l3.mono (by have := LV.out.size; simpa using this)); clear l3)
    all_goals go_ret2
    all_goals exact ⟨by simp [pRead, q1, ← HOO.out], L3.out⟩
  · go_region
    all_goals go_wp2_with fail
    all_goals go_ret2
    all_goals exact ⟨by simp [pRead, q1], LV.out.drew⟩
set_option maxRecDepth 100000 in
set_option maxHeartbeats 1000000 in
theorem read_via (w : World) (i : Nat) (p : ByteArray) (rev : Int) (E : Ent) (O : ByteArray × Int) (h : XIn w F b X) (hn : X.entries.length ≤ 1000) (hE : newestOf X.entries p rev = E) (hz : O.2 ≠ 0 → O.1 = ⟨#[]⟩)
    (hO : ∀ (V : World), Low w.heap.size w V → Calls Tryz.prog 79 #[.pointer (some ⟨b, 0, none⟩), .int .i64 (i : Int), .agg #[.string E.path, .int .i64 E.rev, .int .i64 E.key, .int .i64 E.draw, .string E.sealed, .bool E.gone]] V fun e w' => e = .returned (.tuple #[.string O.1, .int .i64 O.2]) ∧ Low V.heap.size V w') :
    Calls Tryz.prog 74 #[.pointer (some ⟨b, 0, none⟩), .int .i64 (i : Int), .string p, .int .i64 rev] w fun e w' => e = .returned (.tuple #[.string O.1, .int .i64 (pRevOr O E.rev), .int .i64 O.2]) ∧ Low w.heap.size w w' := by
  have HR := hid h
  have HE := hid hE
  have HO := hid hO
  have HZ := hid hz
  clear h hE hO hz
  go_enter Tryz.func74, Tryz.ntmps74
  go_upto_region 3 with (first | (go_at_call 78; refine (newest_any _ _ _ HR.out hn).mono ?_; rw [HE.out]; rintro e y1 ⟨rfl, l1⟩; have L1 := hid l1; clear l1) | ((with_reducible refine st50 (.tmp 11) (.tmp 17) y1.heap.size Ent.zero E ?_ ?_ ?_ ?_); rfl; rfl; exact (Blk.new y1 50 Ent.zero.cells); intro W b2 k2 s2; have BM := hid b2; have LW : Hid (Low w.heap.size w W) := low_set (L1.out.alloc L1.out.size _) k2 L1.out.size (by have := L1.out.size; simp; omega); clear b2 k2 s2) | ((with_reducible refine ld50 (.tmp 11) y1.heap.size 0 E ?_ BM.out.whole ?_); rfl) | (go_at_call 79; refine (HO.out _ LW.out).mono ?_; rintro e y3 ⟨rfl, l3⟩; have L3 : Hid (Low w.heap.size w y3) := LW.out.trans (l3.mono LW.out.size); have z1 : y3.cell? ⟨y1.heap.size, 1, none⟩ = some (.int .i64 E.rev) := (l3.cell BM.out.lt).trans (BM.out.cell 1); clear l3))
  cases hz : (O.2 == 0)
  · have q2 : (O.2 != 0) = true := by rw [bne, hz]; rfl
    have hne : ¬ O.2 = 0 := by simpa using hz
    go_wp2_with fail
    go_ret3
    exact ⟨by simp [pRevOr, hne, HZ.out hne], L3.out⟩
  · have q2 : (O.2 != 0) = false := by rw [bne, hz]; rfl
    have z : O.2 = 0 := by simpa using hz
    go_upto_region 5 with fail
    go_region
    all_goals go_wp2_with fail
    all_goals go_ret3
    all_goals exact ⟨by simp [pRevOr, z], L3.out.drew⟩
theorem read_none (w : World) (i : Nat) (p : ByteArray) (rev : Int) (h : XIn w F b X) (hn : X.entries.length ≤ 1000) (hz : ((newestOf X.entries p rev).rev == 0 || (newestOf X.entries p rev).gone) = true) :
    Calls Tryz.prog 74 #[.pointer (some ⟨b, 0, none⟩), .int .i64 (i : Int), .string p, .int .i64 rev] w fun e w' => e = .returned (.tuple #[.string ⟨#[]⟩, .int .i64 0, .int .i64 12]) ∧ Low w.heap.size w w' :=
  read_via w i p rev (newestOf X.entries p rev) (⟨#[]⟩, 12) h hn rfl (fun _ => rfl) (fun V _ => openedFor_none V i _ hz)
theorem read_some (w : World) (i : Nat) (s : PSrv) (p : ByteArray) (rev : Int) (E : Ent) (K : PKey) (ki : Nat) (h : XIn w F b X) (ha : X.servers[i]? = some s) (hn : X.entries.length ≤ 1000) (hE : newestOf X.entries p rev = E) (h0 : (E.rev == 0) = false) (hg : E.gone = false)
    (hk : X.keys[ki]? = some K) (hi : E.key = (ki : Int) + 1) (hi6 : ki ≤ 6) (hK : K.text.size = 48) (hO : EntOk E) (hF : Fours w) (h1 : 1 ≤ w.heap.size) :
    Calls Tryz.prog 74 #[.pointer (some ⟨b, 0, none⟩), .int .i64 (i : Int), .string p, .int .i64 rev] w fun e w' =>
      e = .returned (.tuple #[.string (pRead K E s.seen).1, .int .i64 (pRevOr (pRead K E s.seen) E.rev), .int .i64 (pRead K E s.seen).2]) ∧ Low w.heap.size w w' :=
  read_via w i p rev E (pRead K E s.seen) h hn hE (pRead_zero K E s.seen) (fun V l => openedFor_some V i s E K ki (h.low l) ha h0 hg hk hi hi6 hK hO (fours_low hF h1 l) (Nat.le_trans h1 l.size))
end Go.Proofs.YtphapknfkbgapaaGreatDoor
