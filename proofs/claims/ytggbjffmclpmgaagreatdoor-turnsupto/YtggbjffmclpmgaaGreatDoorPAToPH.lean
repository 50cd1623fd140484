import Derived.Test.YtggbjffmclpmgaaGreatDoorRefNToPRep
import Derived.Deep.RegionLaw
import Derived.Lib.ItoaWalk
namespace Go.Proofs.YtggbjffmclpmgaaGreatDoor
open Go.RowKit

variable {F : Nat → Prop} {b : Nat} {X : PS}

def pFull (X : PS) : Bool := decide (X.room ≤ (X.entries.length : Int))
set_option maxRecDepth 100000 in
theorem pfull_any (w : World) (h : XIn w F b X) :
    Calls Tryz.prog 81 #[.pointer (some ⟨b, 0, none⟩)] w fun e w' => e = .returned (.bool (pFull X)) ∧ Low w.heap.size w w' := by
  obtain ⟨a, cap, hc, _⟩ := xin_entries h
  rw [List.length_map] at hc
  have c5 := xin_room h
  clear h
  go_enter Tryz.func81, Tryz.ntmps81
  go_upto_region 1 with fail
  go_region
  all_goals go_wp2_with fail
  all_goals go_ret
  all_goals exact ⟨by simp [pFull], (Low.refl _ _).drew⟩
def pRevOf (X : PS) (p : ByteArray) : Int := if (newestOf X.entries p X.rev).gone then 0 else (newestOf X.entries p X.rev).rev
set_option maxRecDepth 100000 in
set_option maxHeartbeats 400000 in
theorem revOf_any (w : World) (p : ByteArray) (h : XIn w F b X) (hn : X.entries.length ≤ 1000) :
    Calls Tryz.prog 96 #[.pointer (some ⟨b, 0, none⟩), .string p] w fun e w' => e = .returned (.int .i64 (pRevOf X p)) ∧ Low w.heap.size w w' := by
  have HR := hid h
  have c0 := xin_rev h
  obtain ⟨E, hE⟩ : ∃ E, newestOf X.entries p X.rev = E := ⟨_, rfl⟩
  have HE := hid hE
  clear h hE
  cases hg : E.gone
  all_goals
    go_enter Tryz.func96, Tryz.ntmps96
    go_wp2_with (first | (go_at_call 97; refine (newest_any _ _ _ HR.out hn).mono ?_; rw [HE.out]; rintro e y1 ⟨rfl, l1⟩; have L1 := hid l1; clear l1) | ((with_reducible refine st50 (.tmp 5) (.tmp 13) y1.heap.size Ent.zero E ?_ ?_ ?_ ?_); rfl; rfl; exact (Blk.new y1 50 Ent.zero.cells); intro W b2 k2 s2; have m5 : W.cell? ⟨y1.heap.size, 5, none⟩ = some (.bool E.gone) := b2.cell 5; have m1 : W.cell? ⟨y1.heap.size, 1, none⟩ = some (.int .i64 E.rev) := b2.cell 1; have LW : Hid (Low w.heap.size w W) := low_set (L1.out.alloc L1.out.size _) k2 L1.out.size (by have := L1.out.size; simp; omega); clear b2 k2 s2))
    go_ret
    exact ⟨by simp [pRevOf, HE.out, hg], LW.out⟩
set_option maxRecDepth 100000 in
theorem key_any (w : World) (i : Nat) (K : PKey) (h : XIn w F b X) (hk : X.keys[i]? = some K) (hi : i ≤ 100) :
    Calls Tryz.prog 95 #[.pointer (some ⟨b, 0, none⟩), .int .i64 ((i : Int) + 1)] w fun e w' => e = .returned (.agg #[.string K.text, .int .i64 K.came, .int .i64 K.wrote]) ∧ Low w.heap.size w w' := by
  obtain ⟨g, cap, hc, hg, hcs⟩ := xin_keyAt h hk
  have c0 : w.cell? ⟨g, i * 3, none⟩ = some (.string K.text) := hcs 0 (by omega)
  have c1 : w.cell? ⟨g, i * 3 + 1, none⟩ = some (.int .i64 K.came) := hcs 1 (by omega)
  have c2 : w.cell? ⟨g, i * 3 + 2, none⟩ = some (.int .i64 K.wrote) := hcs 2 (by omega)
  have hb := h.lt
  have hl : (i : Int) < (X.keys.length : Int) := by have := (List.getElem?_eq_some_iff.1 hk).1; omega
  have hz : (i : Int) + 1 - 1 = (i : Int) := by omega
  clear hcs h hk
  go_enter Tryz.func95, Tryz.ntmps95
  go_wp2
  (try simp only [Exit.inBlock, Exit.then])
  refine bodyPost_ret (results_cell rfl w.heap.size K.cells _ rfl (by exact (Blk.new w 56 K.cells).whole) Tryz.underlying56 rfl (sz56 _)) rfl ?_
  exact ⟨rfl, (Low.refl _ w).alloc (Nat.le_refl _) _⟩
def keyGone (K : PKey) : Bool := K.text.toList == (⟨#[]⟩ : ByteArray).toList
theorem destroyed_any (w : World) (K : PKey) :
    Calls Tryz.prog 86 #[.agg #[.string K.text, .int .i64 K.came, .int .i64 K.wrote]] w fun e w' => e = .returned (.bool (keyGone K)) ∧ Low w.heap.size w w' := by
  go_enter Tryz.func86, Tryz.ntmps86
  go_wp2
  go_ret
  exact ⟨by simp [keyGone], (Low.refl _ w).alloc (Nat.le_refl _) _⟩
theorem pisPath_any (w : World) (p : ByteArray) (hp : p.size ≤ maxLen) :
    Calls Tryz.prog 90 #[.string p] w fun e w' => e = .returned (.bool (isPath p)) ∧ w' = w := by
  unfold maxLen at hp
  by_cases h1 : 1 ≤ p.size
  · have q1 : decide ((1 : Int) ≤ (p.size : Int)) = true := by simp; omega
    by_cases h2 : p.size ≤ 16
    · have q2 : decide ((p.size : Int) ≤ 16) = true := by simp; omega
      have HE : Hid (isPath p = true) := by show _ = _; simp [isPath]; omega
      go_enter Tryz.func90, Tryz.ntmps90
      go_wp2
      go_ret
      exact ⟨by rw [HE.out]; simp, rfl⟩
    · have q2 : decide ((p.size : Int) ≤ 16) = false := by simp; omega
      have HE : Hid (isPath p = false) := by show _ = _; simp [isPath]; omega
      go_enter Tryz.func90, Tryz.ntmps90
      go_wp2
      go_ret
      exact ⟨by rw [HE.out]; simp, rfl⟩
  · have q1 : decide ((1 : Int) ≤ (p.size : Int)) = false := by rw [decide_eq_false_iff_not]; omega
    have HE : Hid (isPath p = false) := by show _ = _; simp [isPath]; omega
    go_enter Tryz.func90, Tryz.ntmps90
    go_wp2
    go_ret
    exact ⟨by rw [HE.out]; simp, rfl⟩
theorem isSecret_any (w : World) (p : ByteArray) (hp : p.size ≤ maxLen) :
    Calls Tryz.prog 91 #[.string p] w fun e w' => e = .returned (.bool (decide (p.size ≤ 64))) ∧ w' = w := by
  unfold maxLen at hp
  go_enter Tryz.func91, Tryz.ntmps91
  go_wp2
  go_ret
  exact ⟨by simp; omega, rfl⟩
theorem beq48 (n : Nat) : ((n : Int) == 48) = (n == 48) := by
  rw [Bool.eq_iff_iff]
  simp only [beq_iff_eq]
  omega
theorem isKey_any (w : World) (p : ByteArray) :
    Calls Tryz.prog 21 #[.string p] w fun e w' => e = .returned (.bool (p.size == 48)) ∧ w' = w := by
  go_enter Tryz.func21, Tryz.ntmps21
  go_wp2
  go_ret
  exact ⟨by simp [beq48], rfl⟩
/-- The number of the key that wrote when an epoch came. -/
def writerR (ks : List PKey) (ep : Int) : Int := match ks with
  | [] => 1
  | k :: r => if (k.wrote != 0) && decide (k.wrote ≤ ep) then (r.length + 2 : Int) else writerR r ep
def writerOf (ks : List PKey) (ep : Int) : Int := writerR (ks.drop 1).reverse ep
theorem writerR_snoc (l : List PKey) (k : PKey) (ep : Int) : writerR (l ++ [k]).reverse ep = if (k.wrote != 0) && decide (k.wrote ≤ ep) then (l.length + 2 : Int) else writerR l.reverse ep := by
  simp [writerR]
set_option maxHeartbeats 400000 in
theorem writer_any (w : World) (ep : Int) (h : XIn w F b X) (hk : X.keys.length ≤ 6) (hk1 : 1 ≤ X.keys.length) :
    Calls Tryz.prog 92 #[.pointer (some ⟨b, 0, none⟩), .int .i64 ep] w fun e w' => e = .returned (.int .i64 (writerOf X.keys ep)) ∧ w' = w := by
  obtain ⟨a, cap, hc, hel⟩ := xin_keys h
  rw [List.length_map] at hc
  have HEL := hid hel
  clear hel
  go_enter Tryz.func92, Tryz.ntmps92
  go_wp2
  go_loopw [5, 6] (fun kv iv wr => ∃ i : Nat, i + 1 ≤ X.keys.length ∧ kv = .int .i64 (writerR ((X.keys.drop 1).take i).reverse ep) ∧ iv = .int .i64 ((i : Int) + 1) ∧ w = wr) (fun _ iv _ => X.keys.length - (intOf iv).toNat)
  case atStart => exact ⟨0, by omega, rfl, rfl, rfl⟩
  case round =>
    obtain ⟨i, hi, rfl, rfl, rfl⟩ := hrel
    generalize hM : writerR ((X.keys.drop 1).take i).reverse ep = M
    have HM := hid hM
    clear hM
    by_cases h1 : i + 1 < X.keys.length
    · have q1 : decide ((i : Int) + 1 < (X.keys.length : Int)) = true := by simp; omega
      obtain ⟨k, hk2⟩ : ∃ k, X.keys[i + 1]? = some k := ⟨_, List.getElem?_eq_getElem h1⟩
      obtain ⟨g, rfl, hg, hcs, _⟩ := HEL.out (i + 1) k.cells (by rw [List.getElem?_map, hk2]; rfl)
      have c2 : w.cell? ⟨g, (i + 1) * 3 + 2, none⟩ = some (.int .i64 k.wrote) := hcs 2 (by omega)
      have HS := hid (writerR_snoc ((X.keys.drop 1).take i) k ep)
      have HT := hid (take_snoc (l := X.keys.drop 1) (i := i) (x := k) (by rw [List.getElem?_drop, Nat.add_comm]; exact hk2))
      have HL : Hid (((X.keys.drop 1).take i).length = i) := by show _ = _; simp; omega
      clear hcs hk2
      cases q3 : (k.wrote != 0)
      · go_wp2_with fail
        go_roundw
        case rel => exact ⟨i + 1, by omega, by rw [HT.out, HS.out, HM.out, q3]; rfl, by simp, by trivial⟩
        case measure => simp [intOf]; omega
      · cases q4 : decide (k.wrote ≤ ep)
        · go_wp2_with fail
          go_roundw
          case rel => exact ⟨i + 1, by omega, by rw [HT.out, HS.out, HM.out, q3, q4]; rfl, by simp, by trivial⟩
          case measure => simp [intOf]; omega
        · go_wp2_with fail
          go_roundw
          case rel => exact ⟨i + 1, by omega, by rw [HT.out, HS.out, q3, q4, HL.out]; simp; omega, by simp, by trivial⟩
          case measure => simp [intOf]; omega
    · have q1 : decide ((i : Int) + 1 < (X.keys.length : Int)) = false := by simp; omega
      have hE : Hid (writerOf X.keys ep = M) := by
        show writerOf X.keys ep = M
        rw [← HM.out, writerOf, List.take_of_length_le (by simp; omega)]
      go_wp2_with fail
      go_ret
      exact ⟨by rw [hE.out]; rfl, rfl⟩
end Go.Proofs.YtggbjffmclpmgaaGreatDoor
namespace Go.Proofs.YtggbjffmclpmgaaGreatDoor
open Go.RowKit

variable {F : Nat → Prop} {b : Nat} {X : PS}

set_option maxRecDepth 100000 in
theorem pState_any (w : World) (h : XIn w F b X) :
    Calls Tryz.prog 54 #[.pointer (some ⟨b, 0, none⟩)] w fun e w' => e = .returned (.agg (stCells X.rev X.floor X.epoch X.write X.turn).toArray) ∧ Low w.heap.size w w' := by
  have c0 := xin_rev h
  have c1 := xin_floor h
  have c2 := xin_epoch h
  have c3 := xin_write h
  have c4 := xin_turn h
  have hb := h.lt
  clear h
  go_enter Tryz.func54, Tryz.ntmps54
  go_wp2
  (try simp only [Exit.inBlock, Exit.then])
  refine bodyPost_ret (results_cell rfl w.heap.size (stCells X.rev X.floor X.epoch X.write X.turn) _ rfl (by exact (Blk.new w 54 (stCells X.rev X.floor X.epoch X.write X.turn)).whole) Tryz.underlying54 rfl (sz54 _ _ _ _ _)) rfl ?_
  exact ⟨rfl, (Low.refl _ w).alloc (Nat.le_refl _) _⟩
theorem psrv {i : Nat} {s : PSrv} (ha : X.servers[i]? = some s) : isSrv X.servers.length (i : Int) = true ∧ (i : Int) < (X.servers.length : Int) := by
  have := (List.getElem?_eq_some_iff.1 ha).1
  rw [isSrv_iff]; omega
theorem mayRead_srv (w : World) (s : Int) (h : XIn w F b X) (hs : isSrv X.servers.length s = false) :
    Calls Tryz.prog 72 #[.pointer (some ⟨b, 0, none⟩), .int .i64 s] w fun e w' => e = .returned (.int .i64 4) ∧ w' = w := by
  have HR := hid h
  have HS := hid hs
  clear h hs
  go_enter Tryz.func72, Tryz.ntmps72
  go_wp2_with (go_at_call 59; refine (isServer_any _ _ HR.out).mono ?_; rw [HS.out]; rintro e y1 ⟨rfl, hy⟩; obtain rfl := hy.symm)
  go_ret
  exact ⟨rfl, rfl⟩
def readErr (s : PSrv) : Int := if s.seen == 0 then 6 else 0
set_option maxRecDepth 100000 in
theorem mayRead_any (w : World) (i : Nat) (s : PSrv) (h : XIn w F b X) (ha : X.servers[i]? = some s) :
    Calls Tryz.prog 72 #[.pointer (some ⟨b, 0, none⟩), .int .i64 (i : Int)] w fun e w' => e = .returned (.int .i64 (readErr s)) ∧ w' = w := by
  obtain ⟨g, cap, hc, hg, hcs, _⟩ := xin_srvAt h ha
  have c0 : w.cell? ⟨g, i * 10, none⟩ = some (.int .i64 s.seen) := hcs 0 (by omega)
  have hl := (psrv ha).2
  have HS := hid (psrv ha).1
  have HR := hid h
  clear h ha hcs
  cases hz : (s.seen == 0)
  all_goals
    have HE := hid (show readErr s = _ from by unfold readErr; rw [hz])
    go_enter Tryz.func72, Tryz.ntmps72
    go_wp2_with (go_at_call 59; refine (isServer_any _ _ HR.out).mono ?_; rw [HS.out]; rintro e y1 ⟨rfl, hy⟩; obtain rfl := hy.symm)
    go_ret
    exact ⟨by rw [HE.out]; rfl, rfl⟩
def PS.refresh (X : PS) (i : Nat) (s : PSrv) : PS := { X with servers := X.servers.set i { s with seen := X.epoch } }
def PS.crash (X : PS) (i : Nat) : PS := { X with servers := X.servers.set i PSrv.zero }
theorem pRefresh_no (w : World) (s : Int) (h : XIn w F b X) (hs : isSrv X.servers.length s = false) :
    Calls Tryz.prog 22 #[.pointer (some ⟨b, 0, none⟩), .int .i64 s] w fun e w' => e = .returned (.int .i64 4) ∧ w' = w := by
  have HR := hid h
  have HS := hid hs
  clear h hs
  go_enter Tryz.func22, Tryz.ntmps22
  go_wp2_with (go_at_call 59; refine (isServer_any _ _ HR.out).mono ?_; rw [HS.out]; rintro e y1 ⟨rfl, hy⟩; obtain rfl := hy.symm)
  go_ret
  exact ⟨rfl, rfl⟩
set_option maxRecDepth 100000 in
set_option maxHeartbeats 1000000 in
theorem pRefresh_yes (w : World) (i : Nat) (s : PSrv) (h : XIn w F b X) (ha : X.servers[i]? = some s) :
    Calls Tryz.prog 22 #[.pointer (some ⟨b, 0, none⟩), .int .i64 (i : Int)] w fun e w' => e = .returned (.int .i64 0) ∧ XIn w' F b (X.refresh i s) ∧ Kept F w w' := by
  obtain ⟨g, cap, hc, hg, hcs, hf⟩ := xin_srvAt h ha
  have c0 : w.cell? ⟨g, i * 10, none⟩ = some (.int .i64 s.seen) := hcs 0 (by omega)
  have f0 := hf (i * 10)
  have c2 := xin_epoch h
  have hl := (psrv ha).2
  have HS := hid (psrv ha).1
  have HR := hid h
  obtain ⟨p1, p2⟩ := xin_setSeen h hc i s ha X.epoch
  have P1 := hid p1
  have P2 := hid p2
  clear h ha hcs hf p1 p2
  go_enter Tryz.func22, Tryz.ntmps22
  go_upto_region 3 with (go_at_call 59; refine (isServer_any _ _ HR.out).mono ?_; rw [HS.out]; rintro e y1 ⟨rfl, hy⟩; obtain rfl := hy.symm)
  go_region
  all_goals go_wp2_with fail
  all_goals go_ret
  all_goals exact ⟨rfl, P1.out.drew, P2.out.drew⟩
theorem pCrash_no (w : World) (s : Int) (h : XIn w F b X) (hs : isSrv X.servers.length s = false) :
    Calls Tryz.prog 24 #[.pointer (some ⟨b, 0, none⟩), .int .i64 s] w fun e w' => e = .returned (.int .i64 4) ∧ w' = w := by
  have HR := hid h
  have HS := hid hs
  clear h hs
  go_enter Tryz.func24, Tryz.ntmps24
  go_wp2_with (go_at_call 59; refine (isServer_any _ _ HR.out).mono ?_; rw [HS.out]; rintro e y1 ⟨rfl, hy⟩; obtain rfl := hy.symm)
  go_ret
  exact ⟨rfl, rfl⟩
set_option maxRecDepth 100000 in
set_option maxHeartbeats 1000000 in
theorem pCrash_yes (w : World) (i : Nat) (s : PSrv) (h : XIn w F b X) (ha : X.servers[i]? = some s) :
    Calls Tryz.prog 24 #[.pointer (some ⟨b, 0, none⟩), .int .i64 (i : Int)] w fun e w' => e = .returned (.int .i64 0) ∧ XIn w' F b (X.crash i) ∧ Kept F w w' := by
  obtain ⟨g, cap, hc, hg, hcs, hf⟩ := xin_srvAt h ha
  have hl := (psrv ha).2
  have HS := hid (psrv ha).1
  have HR := hid h
  obtain ⟨p1, p2, p3⟩ := xin_putSrv h hc i (List.getElem?_eq_some_iff.1 ha).1 PSrv.zero
  have P1 := hid p1
  have P2 := hid p2
  have P3 := hid p3
  clear h ha hcs hf p1 p2 p3
  go_enter Tryz.func24, Tryz.ntmps24
  go_wp2_with (first | (go_at_call 59; refine (isServer_any _ _ HR.out).mono ?_; rw [HS.out]; rintro e y1 ⟨rfl, hy⟩; obtain rfl := hy.symm) | ((with_reducible refine st96 (.tmp 15) (.tmp 14) g (i * 10) PSrv.zero ?_ ?_ P3.out ?_); rfl; rfl))
  go_ret
  exact ⟨rfl, P1.out, P2.out⟩
end Go.Proofs.YtggbjffmclpmgaaGreatDoor
namespace Go.Proofs.YtggbjffmclpmgaaGreatDoor
open Go.RowKit

variable {F : Nat → Prop} {b : Nat} {X : PS}

theorem info96 : (Tryz.prog.info? 96).map (fun i => (i.zero, i.size, i.bytes)) = some (some (.agg #[.int .i64 0, .bool false, .int .i64 0, .int .i64 0, .string ⟨#[]⟩, .int .i64 0, .int .i64 0, .int .i64 0, .string ⟨#[]⟩, .bool false]), 10, 96) := by kernel_rfl
def srvZeros (m : Nat) : List Value := (List.replicate m PSrv.zero).flatMap PSrv.cells
theorem made_srv1 : madeCells (Value.agg #[.int .i64 0, .bool false, .int .i64 0, .int .i64 0, .string ⟨#[]⟩, .int .i64 0, .int .i64 0, .int .i64 0, .string ⟨#[]⟩, .bool false]).cells (1 * 10) = (srvZeros 1).toArray := by kernel_rfl
theorem made_srv2 : madeCells (Value.agg #[.int .i64 0, .bool false, .int .i64 0, .int .i64 0, .string ⟨#[]⟩, .int .i64 0, .int .i64 0, .int .i64 0, .string ⟨#[]⟩, .bool false]).cells (2 * 10) = (srvZeros 2).toArray := by kernel_rfl
theorem made_srv3 : madeCells (Value.agg #[.int .i64 0, .bool false, .int .i64 0, .int .i64 0, .string ⟨#[]⟩, .int .i64 0, .int .i64 0, .int .i64 0, .string ⟨#[]⟩, .bool false]).cells (3 * 10) = (srvZeros 3).toArray := by kernel_rfl
theorem made_srv4 : madeCells (Value.agg #[.int .i64 0, .bool false, .int .i64 0, .int .i64 0, .string ⟨#[]⟩, .int .i64 0, .int .i64 0, .int .i64 0, .string ⟨#[]⟩, .bool false]).cells (4 * 10) = (srvZeros 4).toArray := by kernel_rfl
theorem make_srv (m : Nat) (h1 : 1 ≤ m) (h4 : m ≤ 4) (w : World) : (Instr.makeSlice 58 (.int .i64 (m : Int)) (.int .i64 (m : Int))).run Tryz.prog w = .ok (.slice (some ⟨w.heap.size, 0, none⟩) m m) (w.alloc (.cells (srvZeros m).toArray 96)) := by
  obtain ⟨i, hi, hz0, hz1, hz2⟩ := info_parts info96
  have hr := run_make (P := Tryz.prog) w 58 96 i _ Tryz.underlying58 hi hz0 .i64 .i64 m m (by omega) (Int.le_refl _) (by rw [hz2]; omega) (by omega)
  simp only [Int.toNat_natCast, hz1] at hr
  rw [hr]
  have : m = 1 ∨ m = 2 ∨ m = 3 ∨ m = 4 := by omega
  rcases this with rfl | rfl | rfl | rfl
  · rw [made_srv1]
  · rw [made_srv2]
  · rw [made_srv3]
  · rw [made_srv4]
def PKey.first (key : ByteArray) : PKey := ⟨key, 1, 1⟩
def PS.new (m : Nat) (room : Int) (key : ByteArray) : PS := ⟨0, 0, 1, 1, 0, room, 0, [PKey.first key], List.replicate m PSrv.zero, []⟩
theorem xin_new {w : World} {kb sb n : Nat} {m : Nat} {room : Int} {key : ByteArray} (hb : Blk w n 60 [.int .i64 0, .int .i64 0, .int .i64 1, .int .i64 1, .int .i64 0, .int .i64 room, .int .i64 0, .slice (some ⟨kb, 0, none⟩) 1 1, .slice (some ⟨sb, 0, none⟩) m m, .slice none 0 0])
    (hk : Blk w kb 56 (PKey.first key).cells) (hs : Blk w sb 96 (srvZeros m)) (h1 : kb ≠ n) (h2 : sb ≠ n) (h3 : kb ≠ sb) (hm : m ≤ 4) (F : Nat → Prop) (f1 : F n) (f2 : F kb) (f3 : F sb) (hF : ∀ k, F k → k < w.heap.size) : XIn w F n (PS.new m room key) := by
  have hml : (m : Nat) ≤ maxLen := by unfold maxLen; omega
  have hlen : (srvZeros m).length = m * 10 := by
    unfold srvZeros
    rw [flat_length 10 PSrv.cells PSrv.len, List.length_replicate]
  refine ⟨.slice (some ⟨kb, 0, none⟩) 1 1, .slice (some ⟨sb, 0, none⟩) m m, .slice none 0 0, hb, f1, hF, fun k => if k = n then 0 else if k = kb then 1 else 2, by simp, fun j r hj => ?_⟩
  have hj3 : j = 0 ∨ j = 1 ∨ j = 2 ∨ 3 ≤ j := by omega
  rcases hj3 with rfl | rfl | rfl | h5
  · obtain rfl := (Option.some.inj hj).symm
    refine ⟨_, rfl, ⟨rfl, Or.inr ⟨kb, 1, _, rfl, Nat.zero_le _, hk, Nat.le_refl _, by decide, rfl, rfl⟩⟩, fun k hk2 => ?_⟩
    obtain rfl : kb = k := Option.some.inj hk2
    exact ⟨f2, by simp [h1]⟩
  · obtain rfl := (Option.some.inj hj).symm
    refine ⟨_, rfl, ⟨by rw [show (PS.new m room key).servers = List.replicate m PSrv.zero from rfl, List.length_replicate]; exact hlen, Or.inr ⟨sb, m, _, by rw [show (PS.new m room key).servers = List.replicate m PSrv.zero from rfl, List.length_replicate], Nat.zero_le _, hs, by rw [show (PS.new m room key).servers = List.replicate m PSrv.zero from rfl, List.length_replicate]; exact Nat.le_refl _, hml, by simpa using hlen, ?_⟩⟩, fun k hk2 => ?_⟩
    · rw [show (PS.new m room key).servers = List.replicate m PSrv.zero from rfl, List.length_replicate, List.toList_toArray]
      exact List.take_of_length_le (by rw [hlen]; exact Nat.le_refl _)
    · obtain rfl : sb = k := Option.some.inj hk2
      refine ⟨f3, ?_⟩
      show (if sb = n then 0 else if sb = kb then 1 else 2) = 2
      rw [if_neg h2, if_neg (fun e => h3 e.symm)]
  · obtain rfl := (Option.some.inj hj).symm
    exact ⟨.slice none 0 0, rfl, World.ownsRow_nil _ _ _ _, fun k hk2 => by cases hk2⟩
  · rw [List.getElem?_eq_none (by simpa [PS.rows] using h5)] at hj
    cases hj
theorem three_blocks (w : World) (n : Nat) (hn : w.heap.size = n) (A1 A2 A3 : List Value) (t1 t2 t3 : TypeId) :
    Blk (((w.alloc (.cells A1.toArray t1)).alloc (.cells A2.toArray t2)).alloc (.cells A3.toArray t3)) n t1 A1 ∧ Blk (((w.alloc (.cells A1.toArray t1)).alloc (.cells A2.toArray t2)).alloc (.cells A3.toArray t3)) (n + 1) t2 A2 ∧
    Blk (((w.alloc (.cells A1.toArray t1)).alloc (.cells A2.toArray t2)).alloc (.cells A3.toArray t3)) (n + 2) t3 A3 ∧ (((w.alloc (.cells A1.toArray t1)).alloc (.cells A2.toArray t2)).alloc (.cells A3.toArray t3)).heap.size = n + 3 ∧
    Low w.heap.size w (((w.alloc (.cells A1.toArray t1)).alloc (.cells A2.toArray t2)).alloc (.cells A3.toArray t3)) := by
  subst hn
  refine ⟨((Blk.new w t1 A1).alloc _).alloc _, ?_, ?_, by simp, (((Low.refl _ w).alloc (Nat.le_refl _) _).alloc (by simp) _).alloc (by simp; omega) _⟩
  · have q := (Blk.new (w.alloc (.cells A1.toArray t1)) t2 A2).alloc (.cells A3.toArray t3)
    rw [World.size_alloc] at q
    exact q
  · have q := Blk.new ((w.alloc (.cells A1.toArray t1)).alloc (.cells A2.toArray t2)) t3 A3
    rw [World.size_alloc, World.size_alloc] at q
    exact q
theorem new_A (w : World) (C : Obj) (m : Nat) (room : Int) (key : ByteArray) (hm : m ≤ 4) :
    XIn ((((w.alloc C).alloc (.cells (PKey.first key).cells.toArray 56)).alloc (.cells (srvZeros m).toArray 96)).alloc (.cells ([.int .i64 0, .int .i64 0, .int .i64 1, .int .i64 1, .int .i64 0, .int .i64 room, .int .i64 0, .slice (some ⟨w.heap.size + 1, 0, none⟩) 1 1, .slice (some ⟨w.heap.size + 2, 0, none⟩) m m, .slice none 0 0] : List Value).toArray 60)) (fun k => w.heap.size ≤ k ∧ k < w.heap.size + 4) (w.heap.size + 3) (PS.new m room key) ∧ Low w.heap.size w ((((w.alloc C).alloc (.cells (PKey.first key).cells.toArray 56)).alloc (.cells (srvZeros m).toArray 96)).alloc (.cells ([.int .i64 0, .int .i64 0, .int .i64 1, .int .i64 1, .int .i64 0, .int .i64 room, .int .i64 0, .slice (some ⟨w.heap.size + 1, 0, none⟩) 1 1, .slice (some ⟨w.heap.size + 2, 0, none⟩) m m, .slice none 0 0] : List Value).toArray 60)) := by
  obtain ⟨q1, q2, q3, q4, q5⟩ := three_blocks (w.alloc C) (w.heap.size + 1) (by simp) (PKey.first key).cells (srvZeros m) [.int .i64 0, .int .i64 0, .int .i64 1, .int .i64 1, .int .i64 0, .int .i64 room, .int .i64 0, .slice (some ⟨w.heap.size + 1, 0, none⟩) 1 1, .slice (some ⟨w.heap.size + 2, 0, none⟩) m m, .slice none 0 0] 56 96 60
  refine ⟨xin_new (kb := w.heap.size + 1) (sb := w.heap.size + 1 + 1) (n := w.heap.size + 1 + 2) q3 q1 q2 (by omega) (by omega) (by omega) hm _ ⟨by omega, by omega⟩ ⟨by omega, by omega⟩ ⟨by omega, by omega⟩ (fun k hk => by rw [q4]; omega), ?_⟩
  exact ((Low.refl _ w).alloc (Nat.le_refl _) C).trans (q5.mono (by simp))
theorem new_B (w : World) (C : Obj) (m : Nat) (room : Int) (key : ByteArray) (hm : m ≤ 4) :
    XIn ((((w.alloc C).alloc (.cells (srvZeros m).toArray 96)).alloc (.cells (PKey.first key).cells.toArray 56)).alloc (.cells ([.int .i64 0, .int .i64 0, .int .i64 1, .int .i64 1, .int .i64 0, .int .i64 room, .int .i64 0, .slice (some ⟨w.heap.size + 2, 0, none⟩) 1 1, .slice (some ⟨w.heap.size + 1, 0, none⟩) m m, .slice none 0 0] : List Value).toArray 60)) (fun k => w.heap.size ≤ k ∧ k < w.heap.size + 4) (w.heap.size + 3) (PS.new m room key) ∧ Low w.heap.size w ((((w.alloc C).alloc (.cells (srvZeros m).toArray 96)).alloc (.cells (PKey.first key).cells.toArray 56)).alloc (.cells ([.int .i64 0, .int .i64 0, .int .i64 1, .int .i64 1, .int .i64 0, .int .i64 room, .int .i64 0, .slice (some ⟨w.heap.size + 2, 0, none⟩) 1 1, .slice (some ⟨w.heap.size + 1, 0, none⟩) m m, .slice none 0 0] : List Value).toArray 60)) := by
  obtain ⟨q1, q2, q3, q4, q5⟩ := three_blocks (w.alloc C) (w.heap.size + 1) (by simp) (srvZeros m) (PKey.first key).cells [.int .i64 0, .int .i64 0, .int .i64 1, .int .i64 1, .int .i64 0, .int .i64 room, .int .i64 0, .slice (some ⟨w.heap.size + 2, 0, none⟩) 1 1, .slice (some ⟨w.heap.size + 1, 0, none⟩) m m, .slice none 0 0] 96 56 60
  refine ⟨xin_new (kb := w.heap.size + 1 + 1) (sb := w.heap.size + 1) (n := w.heap.size + 1 + 2) q3 q2 q1 (by omega) (by omega) (by omega) hm _ ⟨by omega, by omega⟩ ⟨by omega, by omega⟩ ⟨by omega, by omega⟩ (fun k hk => by rw [q4]; omega), ?_⟩
  exact ((Low.refl _ w).alloc (Nat.le_refl _) C).trans (q5.mono (by simp))
set_option maxRecDepth 100000 in
set_option maxHeartbeats 1000000 in
theorem pNew_yes (w : World) (m : Nat) (room : Int) (key : ByteArray) (h : cfgOk (m : Int) room key = true) :
    Calls Tryz.prog 13 #[.agg #[.int .i64 (m : Int), .int .i64 room, .string key]] w fun e w' => e = .returned (.tuple #[.pointer (some ⟨w.heap.size + 3, 0, none⟩), .int .i64 0]) ∧ XIn w' (fun k => w.heap.size ≤ k ∧ k < w'.heap.size) (w.heap.size + 3) (PS.new m room key) ∧ Low w.heap.size w w' := by
  simp only [cfgOk, Bool.and_eq_true, decide_eq_true_eq, beq_iff_eq] at h
  obtain ⟨⟨s1, s2, r1, r2⟩, hk⟩ := h
  have HK : Hid ((key.size == 48) = true) := beq_iff_eq.2 hk
  have hmk := make_srv m (by omega) (by omega)
  have hm4 : Hid (m ≤ 4) := by show _ ≤ _; omega
  clear hk
  go_enter Tryz.func13, Tryz.ntmps13
  go_upto_region 3 with (go_at_call 21; refine (isKey_any _ _).mono ?_; rw [HK.out]; rintro e y1 ⟨rfl, hy⟩; obtain rfl := hy.symm)
  go_region
  all_goals go_wp2_with fail
  all_goals go_ret2
  all_goals
    first
      | exact ⟨rfl, (new_A w _ m room key hm4.out).1.drew.more (fun k hk => ⟨hk.1, by simpa using hk.2⟩) (fun k hk => hk.2), (new_A w _ m room key hm4.out).2.drew⟩
      | exact ⟨rfl, (new_B w _ m room key hm4.out).1.drew.more (fun k hk => ⟨hk.1, by simpa using hk.2⟩) (fun k hk => hk.2), (new_B w _ m room key hm4.out).2.drew⟩
set_option maxRecDepth 100000 in
set_option maxHeartbeats 1000000 in
theorem pNew_no (w : World) (servers room : Int) (key : ByteArray) (h : cfgOk servers room key = false) :
    Calls Tryz.prog 13 #[.agg #[.int .i64 servers, .int .i64 room, .string key]] w fun e w' => e = .returned (.tuple #[.pointer none, .int .i64 1]) ∧ Low w.heap.size w w' := by
  have HH := hid h
  clear h
  cases hz : (key.size == 48)
  · have HZ := hid hz
    go_enter Tryz.func13, Tryz.ntmps13
    go_upto_region 3 with (go_at_call 21; refine (isKey_any _ _).mono ?_; rw [HZ.out]; rintro e y1 ⟨rfl, hy⟩; obtain rfl := hy.symm)
    all_goals go_ret2
    all_goals exact ⟨rfl, (Low.refl _ w).alloc (Nat.le_refl _) _⟩
  · have hq : ¬ (1 ≤ servers ∧ servers ≤ 4 ∧ 1 ≤ room ∧ room ≤ 60) := by
      intro hh
      have q := HH.out
      simp [cfgOk, hz, hh] at q
    have HQ := hid hq
    have HZ := hid hz
    clear hq
    go_enter Tryz.func13, Tryz.ntmps13
    go_upto_region 3 with (go_at_call 21; refine (isKey_any _ _).mono ?_; rw [HZ.out]; rintro e y1 ⟨rfl, hy⟩; obtain rfl := hy.symm)
    all_goals first | (go_ret2; exact ⟨rfl, (Low.refl _ w).alloc (Nat.le_refl _) _⟩) | (exfalso; have q := HQ.out; omega)
end Go.Proofs.YtggbjffmclpmgaaGreatDoor
namespace Go.Proofs.YtggbjffmclpmgaaGreatDoor
open Go.RowKit

variable {F : Nat → Prop} {b : Nat} {Y : RS}

/-! The document's Get and GetAt are its get. -/
set_option maxRecDepth 100000 in
theorem rGet_via (w : World) (s : Int) (p : ByteArray) (h : RIn w F b Y) (A : ByteArray) (B C : Int)
    (hr : Calls Tryz.prog 74 #[.pointer (some ⟨b, 0, none⟩), .int .i64 s, .string p, .int .i64 (Y.all.length : Int), .bool false] w fun e w' => e = .returned (.tuple #[.string A, .int .i64 B, .int .i64 C]) ∧ Low w.heap.size w w') :
    Calls Tryz.prog 31 #[.pointer (some ⟨b, 0, none⟩), .int .i64 s, .string p] w fun e w' => e = .returned (.tuple #[.string A, .int .i64 B, .int .i64 C]) ∧ Low w.heap.size w w' := by
  obtain ⟨a, cap, hc, _⟩ := h.all
  rw [List.length_map] at hc
  have HRD := hid hr
  clear h hr
  go_enter Tryz.func31, Tryz.ntmps31
  go_wp2_with (go_at_call 74; refine HRD.out.mono ?_; rintro e y2 ⟨rfl, l2⟩; have L2 := hid l2; clear l2)
  go_ret3
  exact ⟨rfl, L2.out⟩
set_option maxRecDepth 100000 in
theorem rGetAt_via (w : World) (s : Int) (p : ByteArray) (rev : Int) (A : ByteArray) (B C : Int)
    (hr : Calls Tryz.prog 74 #[.pointer (some ⟨b, 0, none⟩), .int .i64 s, .string p, .int .i64 rev, .bool true] w fun e w' => e = .returned (.tuple #[.string A, .int .i64 B, .int .i64 C]) ∧ Low w.heap.size w w') :
    Calls Tryz.prog 33 #[.pointer (some ⟨b, 0, none⟩), .int .i64 s, .string p, .int .i64 rev] w fun e w' => e = .returned (.tuple #[.string A, .int .i64 B, .int .i64 C]) ∧ Low w.heap.size w w' := by
  have HRD := hid hr
  clear hr
  go_enter Tryz.func33, Tryz.ntmps33
  go_wp2_with (go_at_call 74; refine HRD.out.mono ?_; rintro e y2 ⟨rfl, l2⟩; have L2 := hid l2; clear l2)
  go_ret3
  exact ⟨rfl, L2.out⟩

/-! made. -/
set_option maxRecDepth 100000 in
set_option maxHeartbeats 1000000 in
theorem made_no (w : World) (servers room : Int) (key : ByteArray) (h : cfgOk servers room key = false) :
    Calls Tryz.prog 8 #[.agg #[.int .i64 servers, .int .i64 room, .string key]] w fun e w' => e = .returned (.tuple #[.pointer none, .bool true]) ∧ Low w.heap.size w w' := by
  have HH := hid h
  clear h
  go_enter Tryz.func8, Tryz.ntmps8
  go_wp2_with (first | (go_at_call 13; refine (pNew_no _ _ _ _ HH.out).mono ?_; rintro e y1 ⟨rfl, l1⟩; have b1 : Blk y1 w.heap.size 23 (cfgL servers room key) := (Blk.new w 23 (cfgL servers room key)).low l1 (by simp); have n0 : y1.cell? ⟨w.heap.size, 0, none⟩ = some (.int .i64 servers) := b1.cell 0; have n1 : y1.cell? ⟨w.heap.size, 1, none⟩ = some (.int .i64 room) := b1.cell 1; have n2 : y1.cell? ⟨w.heap.size, 2, none⟩ = some (.string key) := b1.cell 2; have L1 : Hid (Low w.heap.size w y1) := ((Low.refl _ w).alloc (Nat.le_refl _) _).trans (l1.mono (by simp)); clear l1 b1) | (go_at_call 14; refine (New_no _ _ _ _ HH.out).mono ?_; rintro e y2 ⟨rfl, l2⟩; have L2 : Hid (Low w.heap.size w y2) := L1.out.trans (l2.mono L1.out.size); clear l2))
  go_ret2
  exact ⟨rfl, L2.out⟩
set_option maxRecDepth 100000 in
set_option maxHeartbeats 1000000 in
theorem made_yes (w : World) (m : Nat) (room : Int) (key : ByteArray) (h : cfgOk (m : Int) room key = true) :
    Calls Tryz.prog 8 #[.agg #[.int .i64 (m : Int), .int .i64 room, .string key]] w fun e w' => ∃ bw bx br Fx Fr Fw, e = .returned (.tuple #[.pointer (some ⟨bw, 0, none⟩), .bool true]) ∧ Low w.heap.size w w' ∧
      XIn w' Fx bx (PS.new m room key) ∧ RIn w' Fr br (RS.new m room key) ∧ WIn w' Fw bw bx br [] ∧ (∀ k, Fx k → w.heap.size ≤ k ∧ ¬ Fr k ∧ ¬ Fw k) ∧ (∀ k, Fr k → w.heap.size ≤ k ∧ ¬ Fw k) ∧ (∀ k, Fw k → w.heap.size ≤ k) := by
  have HH := hid h
  clear h
  go_enter Tryz.func8, Tryz.ntmps8
  go_wp2_with (first | (go_at_call 13; refine (pNew_yes _ _ _ _ HH.out).mono ?_; rintro e y1 ⟨rfl, x1, l1⟩; have b1 : Blk y1 w.heap.size 23 (cfgL m room key) := (Blk.new w 23 (cfgL m room key)).low l1 (by simp); have n0 : y1.cell? ⟨w.heap.size, 0, none⟩ = some (.int .i64 (m : Int)) := b1.cell 0; have n1 : y1.cell? ⟨w.heap.size, 1, none⟩ = some (.int .i64 room) := b1.cell 1; have n2 : y1.cell? ⟨w.heap.size, 2, none⟩ = some (.string key) := b1.cell 2; have L1 : Hid (Low w.heap.size w y1) := ((Low.refl _ w).alloc (Nat.le_refl _) _).trans (l1.mono (by simp)); rw [World.size_alloc] at x1; have X1 := hid x1; clear l1 b1 x1) | (go_at_call 14; refine (New_yes _ _ _ _ HH.out).mono ?_; rintro e y2 ⟨rfl, r2, l2⟩; have R2 := hid r2; have LL := hid l2; have L2 : Hid (Low w.heap.size w y2) := L1.out.trans (l2.mono L1.out.size); clear l2 r2))
  go_ret2
  refine ⟨_, _, _, _, _, fun k => k = y2.heap.size, rfl, L2.out.alloc L2.out.size _, (X1.out.low LL.out).alloc _, R2.out.alloc _, ⟨.slice none 0 0, ?_⟩, fun k hk => ?_, fun k hk => ?_, fun k hk => ?_⟩
  · refine ⟨Blk.new y2 45 _, rfl, fun k hk => by simp [hk], fun _ => 0, rfl, fun j r hj => ?_⟩
    have hj0 : j = 0 := by
      have : j < 1 := (List.getElem?_eq_some_iff.1 hj).1
      omega
    subst hj0
    obtain rfl := (Option.some.inj hj).symm
    exact ⟨.slice none 0 0, rfl, World.ownsRow_nil _ _ _ _, fun k hk => by cases hk⟩
  · have h1 := LL.out.size
    have h2 := L1.out.size
    refine ⟨by omega, fun hr => ?_, fun hw => ?_⟩
    · omega
    · omega
  · have h1 := LL.out.size
    have h2 := L1.out.size
    refine ⟨by omega, fun hw => ?_⟩
    omega
  · have := L2.out.size
    omega
end Go.Proofs.YtggbjffmclpmgaaGreatDoor
namespace Go.Proofs.YtggbjffmclpmgaaGreatDoor
open Go.RowKit

section
variable {P : Program} (w : World)
/-- copy of a whole slice into one that was just made. -/
theorem copy_mine (t ty e : TypeId) (size : Nat) (ht : P.underlying t = some (.slice e)) (hi : (P.info? e).map (·.size) = some size) (v : Value) (n : Nat) (xs : List Value) (hown : w.ownsRow 0 e size v n xs)
    (g : Nat) (cur : Array Value) (hg : w.heap[g]? = some (.cells cur e (0, 0))) (hc : cur.size = n * size) (hm : n ≤ maxLen) (h1 : ∀ u ∈ xs, u.oneCell' = true) :
    ∃ w', (Builtin.copy_ #[t, t] ty #[.slice (some ⟨g, 0, none⟩) n n, v]).run P w = .ok (goInt n) w' ∧ w'.ownsRow 0 e size (.slice (some ⟨g, 0, none⟩) n n) n xs ∧ Kept (fun k => k = g) w w' := by
  cases hq : P.info? e with
  | none => simp [hq] at hi
  | some i =>
    have hsz : i.size = size := by simpa [hq] using hi
    have hlen : xs.length = n * size := hown.1
    have hst := run_storeCells_at P g 0 e xs 0 cur w hg (by omega) h1
    have hrow : (cur.toList.take (0 + 0) ++ xs ++ cur.toList.drop (0 + 0 + xs.length)).toArray = xs.toArray := by
      have : cur.toList.drop (0 + 0 + xs.length) = [] := List.drop_eq_nil_of_le (by simp; omega)
      rw [this]; simp
    rw [hrow] at hst
    refine ⟨w.setRow g xs.toArray, ?_, ⟨hlen, Or.inr ⟨g, n, xs.toArray, rfl, Nat.zero_le _, setRow_heap w g cur _ e _ hg, Nat.le_refl _, hm, by simpa using hlen, by rw [List.toList_toArray, ← hlen, List.take_length]⟩⟩, ⟨rfl, rfl, by simp, fun k _ hk => setRow_other w g k _ hk⟩⟩
    rcases hown.2 with ⟨rfl, rfl⟩ | ⟨g', cap, cur', rfl, _, hg', _⟩
    · have hx : xs = [] := List.eq_nil_of_length_eq_zero (by simpa using hlen)
      subst hx
      have hs0 : (storeCells ⟨g, 0, none⟩ [] 0).run P w = .ok () (w.setRow g #[]) := by simpa using hst
      simp [Builtin.copy_, run_underlying ht, Go.sizeOf, typeInfo, hq, Builtin.lenOf, Builtin.firstCells, hs0]
    · have hf := run_firstCells_some (P := P) w i.size n ⟨g', 0, none⟩ n cap xs (by rw [hsz]; exact hlen) (hown.cells (g := g') rfl)
      simp [Builtin.copy_, run_underlying ht, Go.sizeOf, typeInfo, hq, Builtin.lenOf, hf, hst]
theorem wpList_copy_mine {ops : Array Oper} {rest : List Oper} {d : Option Tmp} {t0 : TypeId} {pos : String} {after : Array Edge} {a : Act} {Q : Exit → Act → World → Prop} (x y : Operand) (t e : TypeId) (size : Nat) (ht : P.underlying t = some (.slice e)) (hi : (P.info? e).map (·.size) = some size) (v : Value) (n : Nat) (xs : List Value)
    (g : Nat) (cur : Array Value) (hx : a.eval x = .slice (some ⟨g, 0, none⟩) n n) (hy : a.eval y = v) (hown : w.ownsRow 0 e size v n xs) (hg : w.heap[g]? = some (.cells cur e (0, 0))) (hc : cur.size = n * size) (hm : n ≤ maxLen) (h1 : ∀ u ∈ xs, u.oneCell' = true)
    (h : ∀ w', w'.ownsRow 0 e size (.slice (some ⟨g, 0, none⟩) n n) n xs → Kept (fun k => k = g) w w' → wpList P ops Q rest (a.put d (goInt n)) w') :
    wpList P ops Q ({ dst := d, op := .call { callee := .builtin .copy, args := #[x, y], argTypes := #[t, t] }, type := t0, pos := pos, after := after, guard := none } :: rest) a w := by
  refine wpList_plain rfl fun K hK => ?_
  obtain ⟨w', hr, h2, h3⟩ := copy_mine (P := P) w t t0 e size ht hi v n xs hown g cur hg hc hm h1
  unfold Oper.wp execOp
  simp only [resolve, invoke, builtin, Sem.run_bind, Sem.run_pure, Result.andThen_ok, List.map_toArray, List.map_cons, List.map_nil, hx, hy, hr]
  exact hK _ _ (h w' h2 h3)
end

variable {F : Nat → Prop} {b : Nat} {X : PS}
set_option maxRecDepth 100000 in
set_option maxHeartbeats 1000000 in
theorem pEntries_any (w : World) (h : XIn w F b X) (hn : X.entries.length ≤ 1000) :
    Calls Tryz.prog 56 #[.pointer (some ⟨b, 0, none⟩)] w fun e w' => ∃ v, e = .returned v ∧ Low w.heap.size w w' ∧ w'.ownsRow 0 50 6 v X.entries.length (X.entries.flatMap Ent.cells) ∧ ∀ k, v.ownBlock = some k → w.heap.size ≤ k := by
  obtain ⟨i50, hi50, hz0, hz1, hz2⟩ := info_parts info50
  have hown : ∃ a cap, w.cell? ⟨b, 9, none⟩ = some (.slice a X.entries.length cap) ∧ w.ownsRow 0 50 6 (.slice a X.entries.length cap) X.entries.length (X.entries.flatMap Ent.cells) := by
    obtain ⟨vK, vS, vE, hO⟩ := h
    obtain ⟨v, hv, ho, _⟩ := hO.row 2 rfl
    obtain ⟨a, cap, rfl, _, _⟩ := ownsRow_view ho
    exact ⟨a, cap, by rw [hO.cell]; exact hv, ho⟩
  obtain ⟨a, cap, c9, o9⟩ := hown
  have HR := hid h
  have O9 := hid o9
  have hb := h.lt
  have hby : i50.bytes * X.entries.length ≤ 281474976710656 := by rw [hz2]; omega
  have HBY := hid hby
  have h1 : Hid (∀ u ∈ X.entries.flatMap Ent.cells, u.oneCell' = true) := by
    intro u hu
    obtain ⟨e, _, he⟩ := List.mem_flatMap.1 hu
    exact e.one u he
  have hm : Hid (X.entries.length ≤ maxLen) := by show _ ≤ _; unfold maxLen; omega
  clear h o9 hby
  go_enter Tryz.func56, Tryz.ntmps56
  go_upto_region 2 with (at_make; refine wpList_make_full _ rfl (.tmp 8) (.tmp 8) 46 rfl 0 50 i50 _ 6 Tryz.underlying46 hi50 hz0 hz1 .i64 .i64 _ _ X.entries.length rfl rfl rfl rfl HBY.out hm.out (Nat.zero_le _) ?_; intro W o1 g1; have O1 := hid o1; have G1 := hid g1; clear o1 g1)
  have LW : Hid (Low w.heap.size w W) := ⟨G1.out.os, G1.out.output, G1.out.size, fun k hk => G1.out.block k hk (by simp)⟩
  have c9w : W.cell? ⟨b, 9, none⟩ = some (.slice a X.entries.length cap) := (LW.out.cell hb).trans c9
  have OW : Hid (W.ownsRow 0 50 6 (.slice a X.entries.length cap) X.entries.length (X.entries.flatMap Ent.cells)) := ownsRow_at O9.out (fun q hq => LW.out.block q (O9.out.lt q hq).2)
  have hcur : ∃ cur, W.heap[w.heap.size]? = some (.cells cur 50 (0, 0)) ∧ cur.size = X.entries.length * 6 := by
    rcases O1.out.2 with ⟨q, _⟩ | ⟨g, cap', cur, q, _, hg, _, _, hs, _⟩
    · cases q
    · injection q with q1 q2 q3
      obtain rfl : g = w.heap.size := by injection q1 with q1; injection q1 with q1; exact q1.symm
      exact ⟨cur, hg, by rw [hs, ← q3]⟩
  obtain ⟨cur, hcu, hcs⟩ := hcur
  have HCU := hid hcu
  have HCS := hid hcs
  clear c9 hb hcu hcs
  go_wp2_with ((with_reducible refine wpList_copy_mine _ (.tmp 10) (.tmp 14) 46 50 6 Tryz.underlying46 (show (Tryz.prog.info? 50).map (·.size) = some 6 by kernel_rfl) (.slice a X.entries.length cap) X.entries.length (X.entries.flatMap Ent.cells) w.heap.size cur ?_ ?_ OW.out HCU.out HCS.out hm.out h1.out ?_); rfl; rfl; intro V o2 k2; have O2 := hid o2; have K2 := hid k2; clear o2 k2)
  go_ret
  exact ⟨_, rfl, low_set LW.out K2.out (Nat.le_refl _) LW.out.size, O2.out, fun k hk => Nat.le_of_eq (Option.some.inj hk)⟩
end Go.Proofs.YtggbjffmclpmgaaGreatDoor
namespace Go.Proofs.YtggbjffmclpmgaaGreatDoor
open Go.RowKit

theorem win_ptrs {w : World} {F : Nat → Prop} {b bx r : Nat} {outs : List LOut} (h : WIn w F b bx r outs) : w.cell? ⟨b, 0, none⟩ = some (.pointer (some ⟨bx, 0, none⟩)) ∧ w.cell? ⟨b, 1, none⟩ = some (.pointer (some ⟨r, 0, none⟩)) ∧ b < w.heap.size := by
  obtain ⟨v, h⟩ := h
  exact ⟨h.cell 0, h.cell 1, h.lt⟩
theorem pState_lit {F : Nat → Prop} {b : Nat} {X : PS} (w : World) (h : XIn w F b X) :
    Calls Tryz.prog 54 #[.pointer (some ⟨b, 0, none⟩)] w fun e w' => e = .returned (.agg #[.int .i64 X.rev, .int .i64 X.floor, .int .i64 X.epoch, .int .i64 X.write, .int .i64 X.turn]) ∧ Low w.heap.size w w' := pState_any w h
theorem rState_lit {F : Nat → Prop} {b : Nat} {Y : RS} (w : World) (h : RIn w F b Y) (hk : Y.keys.length ≤ 6) (a c d e f : Int) (h1 : (Y.all.length : Int) = a) (h2 : Y.floor = c) (h3 : Y.epoch = d) (h4 : writesOf Y.keys Y.epoch = e) (h5 : Y.turn = f) :
    Calls Tryz.prog 55 #[.pointer (some ⟨b, 0, none⟩)] w fun r w' => r = .returned (.agg #[.int .i64 a, .int .i64 c, .int .i64 d, .int .i64 e, .int .i64 f]) ∧ Low w.heap.size w w' := by
  have q := State_any w h hk
  rw [h1, h2, h4, h3, h5] at q
  exact q
set_option maxRecDepth 100000 in
set_option maxHeartbeats 1000000 in
theorem lstate_any {Fx Fr Fw : Nat → Prop} {bx br bw : Nat} {X : PS} {Y : RS} {outs : List LOut} (w : World) (hx : XIn w Fx bx X) (hr : RIn w Fr br Y) (hw : WIn w Fw bw bx br outs) (hk : Y.keys.length ≤ 6) (h1 : (Y.all.length : Int) = X.rev) (h2 : Y.floor = X.floor) (h3 : Y.epoch = X.epoch) (h4 : writesOf Y.keys Y.epoch = X.write) (h5 : Y.turn = X.turn) :
    Calls Tryz.prog 18 #[.pointer (some ⟨bw, 0, none⟩)] w fun e w' => e = .returned (.bool true) ∧ Low w.heap.size w w' := by
  have HX := hid hx
  have HR := hid hr
  have HW := hid hw
  have H1 := hid h1
  have H2 := hid h2
  have H3 := hid h3
  have H4 := hid h4
  have H5 := hid h5
  obtain ⟨c0, c1, lb⟩ := win_ptrs hw
  clear hx hr hw h1 h2 h3 h4 h5
  go_enter Tryz.func18, Tryz.ntmps18
  go_wp2_with (first | (go_at_call 54; refine (pState_lit _ HX.out).mono ?_; rintro e y1 ⟨rfl, l1⟩; have c1b : y1.cell? ⟨bw, 1, none⟩ = some (.pointer (some ⟨br, 0, none⟩)) := (l1.cell lb).trans c1; have lby : bw < y1.heap.size := Nat.lt_of_lt_of_le lb l1.size; have L1 := hid l1; clear l1) | (go_at_call 55; refine (rState_lit _ (by exact (HR.out.low L1.out).alloc _) hk _ _ _ _ _ H1.out H2.out H3.out H4.out H5.out).mono ?_; rintro e y2 ⟨rfl, l2⟩; have bA : Blk y2 y1.heap.size 54 (stCells X.rev X.floor X.epoch X.write X.turn) := (Blk.new y1 54 (stCells X.rev X.floor X.epoch X.write X.turn)).low l2 (by simp); have a0 : y2.cell? ⟨y1.heap.size, 0, none⟩ = some (.int .i64 X.rev) := bA.cell 0; have a1 : y2.cell? ⟨y1.heap.size, 1, none⟩ = some (.int .i64 X.floor) := bA.cell 1; have a2 : y2.cell? ⟨y1.heap.size, 2, none⟩ = some (.int .i64 X.epoch) := bA.cell 2; have a3 : y2.cell? ⟨y1.heap.size, 3, none⟩ = some (.int .i64 X.write) := bA.cell 3; have a4 : y2.cell? ⟨y1.heap.size, 4, none⟩ = some (.int .i64 X.turn) := bA.cell 4; have lA := bA.lt; have L2 : Hid (Low w.heap.size w y2) := (L1.out.alloc L1.out.size _).trans (l2.mono (by have := L1.out.size; simp; omega)); clear l2 bA))
  go_ret
  exact ⟨by simp, L2.out.alloc L2.out.size _⟩
end Go.Proofs.YtggbjffmclpmgaaGreatDoor
namespace Go.Proofs.YtggbjffmclpmgaaGreatDoor
open Go.RowKit

theorem ent_at {w : World} {g n cap : Nat} {l : List Ent} (h : w.ownsRow 0 50 6 (.slice (some ⟨g, 0, none⟩) n cap) n (l.flatMap Ent.cells)) (hn : n = l.length) (i : Nat) (k : Ent) (hk : l[i]? = some k) (q : Nat) (hq : q < 6) : w.cell? ⟨g, i * 6 + q, none⟩ = k.cells[q]? := by
  have hi : i < l.length := (List.getElem?_eq_some_iff.1 hk).1
  rw [h.cellAt (i * 6 + q) (by omega), flat_at 6 Ent.cells Ent.len l i q k hk hq]
set_option maxRecDepth 100000 in
set_option maxHeartbeats 1000000 in
theorem lentries_any {Fx Fr Fw H : Nat → Prop} {bx br bw : Nat} {X : PS} {Y : RS} {outs : List LOut} (w : World) (hx : XIn w Fx bx X) (hr : RIn w Fr br Y) (hw : WIn w Fw bw bx br outs) (ho : ∀ o ∈ outs, OutOk w H o) (hd : ∀ g, H g → ¬ Fw g) (hH : ∀ g, H g → g < w.heap.size)
    (he : keptOf Y.all = X.entries) (hn : X.entries.length ≤ 100) (hl : Y.all.length ≤ 100000000) (hol : outs.length ≤ 100000000) :
    Calls Tryz.prog 19 #[.pointer (some ⟨bw, 0, none⟩)] w fun e w' => e = .returned (.bool true) ∧ ∃ outs' F' H', outs'.length = outs.length + 4 ∧ WIn w' F' bw bx br outs' ∧ (∀ o ∈ outs', OutOk w' H' o) ∧ (∀ g, H' g → ¬ F' g) ∧
      (∀ q, F' q → Fw q ∨ w.heap.size ≤ q) ∧ (∀ q, H' q → H q ∨ w.heap.size ≤ q) ∧ (∀ q, H' q → q < w'.heap.size) ∧ Kept Fw w w' := by
  have HX := hid hx
  have HR := hid hr
  have HW := hid hw
  have HO := hid ho
  have HD := hid hd
  have HH := hid hH
  have HE := hid he
  obtain ⟨c0, c1, lb⟩ := win_ptrs hw
  clear hx hr hw ho hd hH he
  go_enter Tryz.func19, Tryz.ntmps19
  go_upto_region 5 with (first | (go_at_call 56; refine (pEntries_any _ HX.out (by omega)).mono ?_; rintro e y1 ⟨v1, rfl, l1, o1, b1⟩; obtain ⟨a1, cap1, rfl, _, _⟩ := ownsRow_view o1; have c1b : y1.cell? ⟨bw, 1, none⟩ = some (.pointer (some ⟨br, 0, none⟩)) := (l1.cell lb).trans c1; have L1 := hid l1; have O1 := hid o1; have B1 := hid b1; clear l1 o1 b1) | (go_at_call 57; refine (Entries_any _ (by exact HR.out.low L1.out) hl).mono ?_; rw [HE.out]; rintro e y2 ⟨v2, rfl, l2, o2, b2⟩; obtain ⟨a2, cap2, rfl, _, _⟩ := ownsRow_view o2; have L2 := hid l2; have O2 := hid o2; clear l2 o2 b2))
  have L12 : Hid (Low w.heap.size w y2) := L1.out.trans (L2.out.mono L1.out.size)
  have O1' : Hid (y2.ownsRow 0 50 6 (.slice a1 X.entries.length cap1) X.entries.length (X.entries.flatMap Ent.cells)) := ownsRow_at O1.out (fun q hq => L2.out.block q (O1.out.lt q hq).2)
  clear c0 c1 c1b
  go_wp2_with fail
  go_loopg [5] X.entries.length (fun left iv wr => ∃ i : Nat, left = X.entries.length - i ∧ i ≤ X.entries.length ∧ iv = .int .i64 (i : Int) ∧ Hid (Low y2.heap.size y2 wr))
  case atStart => exact ⟨0, rfl, Nat.zero_le _, rfl, Low.refl _ _⟩
  case round =>
    obtain ⟨i, hgk, hi, rfl, HI⟩ := hrel
    have HGK := hid hgk
    clear hgk
    have P1 : Hid (wr.ownsRow 0 50 6 (.slice a1 X.entries.length cap1) X.entries.length (X.entries.flatMap Ent.cells)) := ownsRow_at O1'.out (fun q hq => HI.out.block q (O1'.out.lt q hq).2)
    have P2 : Hid (wr.ownsRow 0 50 6 (.slice a2 X.entries.length cap2) X.entries.length (X.entries.flatMap Ent.cells)) := ownsRow_at O2.out (fun q hq => HI.out.block q (O2.out.lt q hq).2)
    by_cases h3 : i < X.entries.length
    · have q1 : decide ((i : Int) < (X.entries.length : Int)) = true := by simp; omega
      obtain ⟨k, hk⟩ : ∃ k, X.entries[i]? = some k := ⟨_, List.getElem?_eq_getElem h3⟩
      obtain ⟨s1, t1, e1, _, f1⟩ := ownsRow_view P1.out
      obtain ⟨s2, t2, e2, _, f2⟩ := ownsRow_view P2.out
      obtain ⟨g1, rfl, z1, z2, z3⟩ := f1 (by omega)
      obtain ⟨g2, rfl, z4, z5, z6⟩ := f2 (by omega)
      cases e1
      cases e2
      have il : (i : Int) < (X.entries.length : Int) := by omega
      have p0 : wr.cell? ⟨g1, i * 6, none⟩ = some (.string k.path) := ent_at P1.out rfl i k hk 0 (by omega)
      have p1 : wr.cell? ⟨g1, i * 6 + 1, none⟩ = some (.int .i64 k.rev) := ent_at P1.out rfl i k hk 1 (by omega)
      have p2 : wr.cell? ⟨g1, i * 6 + 2, none⟩ = some (.int .i64 k.key) := ent_at P1.out rfl i k hk 2 (by omega)
      have p3 : wr.cell? ⟨g1, i * 6 + 3, none⟩ = some (.int .i64 k.draw) := ent_at P1.out rfl i k hk 3 (by omega)
      have p4 : wr.cell? ⟨g1, i * 6 + 4, none⟩ = some (.string k.sealed) := ent_at P1.out rfl i k hk 4 (by omega)
      have p5 : wr.cell? ⟨g1, i * 6 + 5, none⟩ = some (.bool k.gone) := ent_at P1.out rfl i k hk 5 (by omega)
      have r0 : wr.cell? ⟨g2, i * 6, none⟩ = some (.string k.path) := ent_at P2.out rfl i k hk 0 (by omega)
      have r1 : wr.cell? ⟨g2, i * 6 + 1, none⟩ = some (.int .i64 k.rev) := ent_at P2.out rfl i k hk 1 (by omega)
      have r2 : wr.cell? ⟨g2, i * 6 + 2, none⟩ = some (.int .i64 k.key) := ent_at P2.out rfl i k hk 2 (by omega)
      have r3 : wr.cell? ⟨g2, i * 6 + 3, none⟩ = some (.int .i64 k.draw) := ent_at P2.out rfl i k hk 3 (by omega)
      have r4 : wr.cell? ⟨g2, i * 6 + 4, none⟩ = some (.string k.sealed) := ent_at P2.out rfl i k hk 4 (by omega)
      have r5 : wr.cell? ⟨g2, i * 6 + 5, none⟩ = some (.bool k.gone) := ent_at P2.out rfl i k hk 5 (by omega)
      have qp : (k.path.toList == k.path.toList) = true := beq_self_eq_true _
      have qs : (k.sealed.toList == k.sealed.toList) = true := beq_self_eq_true _
      clear hk f1 f2 z1 z2 z3 z4 z5 z6
      go_upto_region 8 with fail
      go_region
      all_goals go_wp2_with fail
      all_goals
        go_roundg (X.entries.length - (i + 1))
        case rel => exact ⟨i + 1, rfl, by omega, by simp, HI.out.drew⟩
        case measure => have := HGK.out; omega
    · have q1 : decide ((i : Int) < (X.entries.length : Int)) = false := by simp; omega
      have L3 : Hid (Low w.heap.size w wr) := L12.out.trans (HI.out.mono L12.out.size)
      have W3 : Hid (WIn wr Fw bw bx br outs) := win_low HW.out L3.out
      have hfr : Hid (∀ g, (Value.slice a1 X.entries.length cap1).ownBlock = some g → w.heap.size ≤ g) := B1.out
      have hFb : Hid (∀ q, Fw q → q < w.heap.size) := by
        obtain ⟨u, hO⟩ := HW.out
        exact hO.below
      go_wp2_with (go_at_call 58; refine (own_any _ Fw H bw bx br outs _ X.entries W3.out (fun o hm => out_low (HO.out o hm) L3.out) HD.out P1.out (fun g e => ⟨fun f => by have := hFb.out g f; have := hfr.out g e; omega, fun f => by have := HH.out g f; have := hfr.out g e; omega⟩) (fun g f => Nat.lt_of_lt_of_le (HH.out g f) L3.out.size) hn hol).mono ?_; rintro e y3 ⟨rfl, outs', F', H', a1', a2', a3', a4', a5', a6', a8', a7'⟩; have RES : Hid (∃ outs' F' H', outs'.length = outs.length + 4 ∧ WIn y3 F' bw bx br outs' ∧ (∀ o ∈ outs', OutOk y3 H' o) ∧ (∀ g, H' g → ¬ F' g) ∧ (∀ q, F' q → Fw q ∨ w.heap.size ≤ q) ∧ (∀ q, H' q → H q ∨ w.heap.size ≤ q) ∧ (∀ q, H' q → q < y3.heap.size) ∧ Kept Fw w y3) := ⟨outs', F', H', a1', a2', a3', a4', fun q f => (a5' q f).imp id (fun x => Nat.le_trans L3.out.size x), fun q f => (a6' q f).elim Or.inl (fun x => x.elim (fun y => Or.inr (hfr.out q y)) (fun y => Or.inr (Nat.le_trans L3.out.size y))), a8', L3.out.kept.trans a7' (fun _ f => f.elim) (fun q hq f => f.elim id (fun y => by have := hfr.out q y; omega))⟩; clear a1' a2' a3' a4' a5' a6' a7' a8')
      go_ret
      exact ⟨rfl, RES.out⟩
end Go.Proofs.YtggbjffmclpmgaaGreatDoor
namespace Go.Proofs.YtggbjffmclpmgaaGreatDoor
open Go.RowKit

variable {F : Nat → Prop} {b : Nat} {X : PS}

theorem xin_rowE {w : World} (h : XIn w F b X) : ∃ a cap, w.cell? ⟨b, 9, none⟩ = some (.slice a X.entries.length cap) ∧ w.ownsRow 0 50 6 (.slice a X.entries.length cap) X.entries.length (X.entries.flatMap Ent.cells) ∧ (Value.slice a X.entries.length cap).ownBlock ≠ some b := by
  obtain ⟨vK, vS, vE, hO⟩ := h
  obtain ⟨v, hv, ho, _⟩ := hO.row 2 rfl
  have hn := hO.apart 2 rfl hv
  obtain ⟨a, cap, rfl, _, _⟩ := ownsRow_view ho
  exact ⟨a, cap, by rw [hO.cell]; exact hv, ho, hn⟩
theorem xin_appE {w w1 : World} {v v' : Value} {o : Obj} (h : XIn w F b X) (hv : w.cell? ⟨b, 9, none⟩ = some v) (k : Kept (fun q => v.ownBlock = some q) (w.alloc o) w1) (K : Ent) (ho : w1.ownsRow 0 50 6 v' (X.entries.length + 1) (X.entries.flatMap Ent.cells ++ K.cells)) (P : v'.ownBlock = v.ownBlock ∨ v'.ownBlock = some (w.alloc o).heap.size) :
    XIn (w1.setCell ⟨b, 9, none⟩ v') (grow F w (w1.setCell ⟨b, 9, none⟩ v')) b { X with entries := X.entries ++ [K] } ∧ Kept F w (w1.setCell ⟨b, 9, none⟩ v') := by
  obtain ⟨vK, vS, vE, hO⟩ := h
  obtain rfl : vE = v := Option.some.inj ((hO.cell 9).symm.trans hv)
  obtain ⟨q1, q2⟩ := hO.appended (Low.refl _ w) 2 rfl rfl k ho P (X.offs 2 rfl)
  exact ⟨⟨vK, vS, v', q1.cast rfl (by simp [PS.rows])⟩, q2⟩
def PS.add (X : PS) (e : Ent) : PS := { X with rev := X.rev + 1, entries := X.entries ++ [{ e with rev := X.rev + 1 }] }
set_option maxRecDepth 100000 in
set_option maxHeartbeats 1000000 in
theorem add_any (w : World) (e : Ent) (h : XIn w F b X) (hn : X.entries.length ≤ 1000) (hr : 0 ≤ X.rev ∧ X.rev ≤ 1000000000000) :
    Calls Tryz.prog 67 #[.pointer (some ⟨b, 0, none⟩), .agg #[.string e.path, .int .i64 e.rev, .int .i64 e.key, .int .i64 e.draw, .string e.sealed, .bool e.gone]] w fun r w' =>
      r = .returned (.int .i64 (X.rev + 1)) ∧ XIn w' (grow F w w') b (X.add e) ∧ Kept F w w' := by
  have HR := hid h
  have c0 := xin_rev h
  have f0 := h.frozen 0
  have hb := h.lt
  have hr0 := hr.1
  have hr1 := hr.2
  clear h hr
  go_enter Tryz.func67, Tryz.ntmps67
  go_upto_region 3 with fail
  go_name_world W hW
  obtain ⟨E, hE⟩ : ∃ E : Ent, E = { e with rev := X.rev + 1 } := ⟨_, rfl⟩
  have hX : XIn W F b { X with rev := X.rev + 1 } := by rw [← hW]; exact (xin_set_rev HR.out (X.rev + 1)).alloc _
  have hB : Blk W w.heap.size 50 E.cells := by
    have q := Blk.new (w.setCell ⟨b, 0, none⟩ (.int .i64 (X.rev + 1))) 50 E.cells
    rw [World.size_setCell] at q
    rw [← hW, hE]
    rw [hE] at q
    exact q
  have hK : Kept F w W := by rw [← hW]; exact (setCell_kept w ⟨b, 0, none⟩ _).trans ((Low.refl _ _).alloc (Nat.le_refl _) _).kept (fun q e => by rw [show q = b from e]; exact HR.out.inF) (fun _ _ f => f.elim)
  obtain ⟨a, cap, c9, o9, n9⟩ := xin_rowE hX
  have c9 : W.cell? ⟨b, 9, none⟩ = some (.slice a X.entries.length cap) := c9
  have o9 : W.ownsRow 0 50 6 (.slice a X.entries.length cap) X.entries.length (X.entries.flatMap Ent.cells) := o9
  have n9 : (Value.slice a X.entries.length cap).ownBlock ≠ some b := n9
  have lb := hX.lt
  have lN := hB.lt
  have hNn : (Value.slice a X.entries.length cap).ownBlock ≠ some w.heap.size := fun q => by
    obtain ⟨vK, vS, vE, hO⟩ := hX
    obtain rfl : vE = .slice a X.entries.length cap := Option.some.inj ((hO.cell 9).symm.trans c9)
    obtain ⟨v2, hv2, _, hF2⟩ := hO.row 2 rfl
    obtain rfl : v2 = _ := (Option.some.inj hv2).symm
    have := HR.out.below _ (hF2 _ q)
    omega
  have HX := hid hX
  have HB := hid hB
  have HK := hid hK
  have HE := hid hE
  have O9 := hid o9
  have N9 := hid n9
  have C9 := hid c9
  have F9 := hid (hX.frozen 9)
  have LB := hid lb
  have LN := hid lN
  have NN := hid hNn
  have e0 : W.cell? ⟨w.heap.size, 0, none⟩ = some (.string E.path) := hB.cell 0
  have e1 : W.cell? ⟨w.heap.size, 1, none⟩ = some (.int .i64 E.rev) := hB.cell 1
  have e2 : W.cell? ⟨w.heap.size, 2, none⟩ = some (.int .i64 E.key) := hB.cell 2
  have e3 : W.cell? ⟨w.heap.size, 3, none⟩ = some (.int .i64 E.draw) := hB.cell 3
  have e4 : W.cell? ⟨w.heap.size, 4, none⟩ = some (.string E.sealed) := hB.cell 4
  have e5 : W.cell? ⟨w.heap.size, 5, none⟩ = some (.bool E.gone) := hB.cell 5
  have E1 := hid e1
  clear hX hB hK hE o9 n9 hNn hW c0 f0
  go_region_law
    ((refine step_append_mine _ rfl (.tmp 24) (.tmp 26) 46 rfl 50 _ 6 64 Tryz.underlying46 info50 rfl (by omega) (.slice a X.entries.length cap) X.entries.length (X.entries.flatMap Ent.cells) ?_ ?_ ⟨W.heap.size, 0, none⟩ 1 1 E.cells ?_ rfl ?_ (Ent.one _) ⟨by omega, by omega⟩ ?_; rfl; exact (World.ownsRow.alloc (w := W) O9.out _); rfl; exact (news_new W E.cells 50); intro v' w1 o1 k1 p1; obtain ⟨a', cap', rfl, _, _⟩ := ownsRow_view o1; have O1 := hid o1; have K1 := hid k1.of_drew; have P1 := hid p1; have c9w := kept_cell K1.out LB.out N9.out C9.out; have f9w := kept_frozen K1.out LB.out N9.out F9.out; have e1w := kept_cell K1.out LN.out NN.out E1.out; clear o1 k1 p1))
  all_goals go_wp2_with fail
  all_goals go_ret
  all_goals
    obtain ⟨q1, q2⟩ := xin_appE HX.out C9.out K1.out E O1.out P1.out
    have hsz := HK.out.size
    refine ⟨by rw [HE.out]; rfl, ?_, HK.out.trans q2 (fun _ f => f) (fun _ _ f => f)⟩
    have hres : ({ X with rev := X.rev + 1, entries := X.entries ++ [E] } : PS) = X.add e := by rw [HE.out]; rfl
    rw [← hres]
    exact XIn.more q1 (fun k hk => hk.elim Or.inl (fun hk => Or.inr ⟨by omega, hk.2⟩)) (fun k hk => hk.elim (fun hk => XIn.below q1 k (Or.inl hk)) (fun hk => hk.2))
end Go.Proofs.YtggbjffmclpmgaaGreatDoor
