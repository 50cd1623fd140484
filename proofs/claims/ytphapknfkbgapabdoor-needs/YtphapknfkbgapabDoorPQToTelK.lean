import Derived.Test.YtphapknfkbgapabDoorRefBToPH
import Derived.Test.YtphapknfkbgapabDoorPMToPF
import Derived.Deep.DeepCutAuto
import Derived.Laws.Cover1
import Derived.Test.YtphapknfkbgapabDoorPPToTelJ
namespace Go.Proofs.YtphapknfkbgapabDoor
open Go.RowKit

variable {F : Nat → Prop} {b : Nat} {X : PS}

/-! Turning the key: the program's small functions. -/
theorem info56 : (Tryd.prog.info? 81).map (fun i => (i.zero, i.size, i.bytes)) = some (some (.agg #[.string ⟨#[]⟩, .int .i64 0, .int .i64 0]), 3, 32) := by kernel_rfl
theorem xin_rowK {w : World} (h : XIn w F b X) : ∃ a cap, w.cell? ⟨b, 7, none⟩ = some (.slice a X.keys.length cap) ∧ w.ownsRow 0 81 3 (.slice a X.keys.length cap) X.keys.length (X.keys.flatMap PKey.cells) ∧ (Value.slice a X.keys.length cap).ownBlock ≠ some b := by
  obtain ⟨vK, vS, vE, vN, hN, hO⟩ := h
  obtain ⟨v, hv, ho, _⟩ := hO.row 0 rfl
  have hn := hO.apart 0 rfl hv
  obtain ⟨a, cap, rfl, _, _⟩ := ownsRow_view ho
  exact ⟨a, cap, by rw [hO.cell]; exact hv, ho, hn⟩
theorem xin_appK {w w1 : World} {v v' : Value} {o : Obj} (h : XIn w F b X) (hv : w.cell? ⟨b, 7, none⟩ = some v) (k : Kept (fun q => v.ownBlock = some q) (w.alloc o) w1) (K : PKey) (ho : w1.ownsRow 0 81 3 v' (X.keys.length + 1) (X.keys.flatMap PKey.cells ++ K.cells)) (P : v'.ownBlock = v.ownBlock ∨ v'.ownBlock = some (w.alloc o).heap.size) :
    XIn (w1.setCell ⟨b, 7, none⟩ v') (grow F w (w1.setCell ⟨b, 7, none⟩ v')) b { X with keys := X.keys ++ [K] } ∧ Kept F w (w1.setCell ⟨b, 7, none⟩ v') := by
  obtain ⟨vK, vS, vE, vN, hN, hO⟩ := h
  obtain rfl : vK = v := Option.some.inj ((hO.cell 7).symm.trans hv)
  obtain ⟨q1, q2⟩ := hO.appended (Low.refl _ w) 0 rfl rfl k ho P (X.offs 0 rfl)
  exact ⟨⟨v', vS, vE, vN, hN, q1.cast rfl (by simp [PS.rows])⟩, q2⟩
theorem xin_keyFull {w : World} {i : Nat} {K : PKey} (h : XIn w F b X) (hk : X.keys[i]? = some K) : ∃ g cap, w.cell? ⟨b, 7, none⟩ = some (.slice (some ⟨g, 0, none⟩) X.keys.length cap) ∧ g < w.heap.size ∧ (∀ j, j < 3 → w.cell? ⟨g, i * 3 + j, none⟩ = K.cells[j]?) ∧ ∀ j, w.frozen? ⟨g, j, none⟩ = false := by
  obtain ⟨a, cap, hc, hel⟩ := xin_keys h
  rw [List.length_map] at hc
  obtain ⟨g, rfl, hg, hcs, hf⟩ := hel i K.cells (by rw [List.getElem?_map, hk]; rfl)
  exact ⟨g, cap, hc, hg, hcs, hf⟩
theorem xin_setWrote {w : World} (h : XIn w F b X) {g cap : Nat} (hc : w.cell? ⟨b, 7, none⟩ = some (.slice (some ⟨g, 0, none⟩) X.keys.length cap)) (i : Nat) (P : PKey) (hP : X.keys[i]? = some P) (v : Int) :
    XIn (w.setCell ⟨g, i * 3 + 2, none⟩ (.int .i64 v)) F b { X with keys := X.keys.set i { P with wrote := v } } ∧ Kept F w (w.setCell ⟨g, i * 3 + 2, none⟩ (.int .i64 v)) := by
  obtain ⟨vK, vS, vE, vN, hN, hO⟩ := h
  obtain rfl : vK = _ := Option.some.inj ((hO.cell 7).symm.trans hc)
  obtain ⟨q1, q2⟩ := own_cellSet hO 0 PKey.len rfl rfl i P { P with wrote := v } hP 2 (by omega) (.int .i64 v) rfl
  exact ⟨⟨_, vS, vE, vN, hN, q1.cast rfl (by simp [PS.rows])⟩, q2⟩
theorem xin_setText {w : World} (h : XIn w F b X) {g cap : Nat} (hc : w.cell? ⟨b, 7, none⟩ = some (.slice (some ⟨g, 0, none⟩) X.keys.length cap)) (i : Nat) (P : PKey) (hP : X.keys[i]? = some P) (v : ByteArray) :
    XIn (w.setCell ⟨g, i * 3, none⟩ (.string v)) F b { X with keys := X.keys.set i { P with text := v } } ∧ Kept F w (w.setCell ⟨g, i * 3, none⟩ (.string v)) := by
  obtain ⟨vK, vS, vE, vN, hN, hO⟩ := h
  obtain rfl : vK = _ := Option.some.inj ((hO.cell 7).symm.trans hc)
  obtain ⟨q1, q2⟩ := own_cellSet hO 0 PKey.len rfl rfl i P { P with text := v } hP 0 (by omega) (.string v) rfl
  exact ⟨⟨_, vS, vE, vN, hN, q1.cast rfl (by simp [PS.rows])⟩, q2⟩
theorem xset_kept {w : World} (h : XIn w F b X) (i : Nat) (v : Value) : Kept F w (w.setCell ⟨b, i, none⟩ v) := (setCell_kept w ⟨b, i, none⟩ v).mono (fun q _ e => by rw [show q = b from e]; exact h.inF)
/-- The table of package seal is none of a coffer's blocks. -/
theorem xin_apart0 {w : World} (h : XIn w F b X) (hF : Fours w) (hk : 1 ≤ X.keys.length) (hs : 1 ≤ X.servers.length) (he : 1 ≤ X.entries.length) : XIn w (fun k => F k ∧ k ≠ 0) b X := by
  obtain ⟨vK, vS, vE, vN, hN, hO⟩ := h
  have hb0 : b ≠ 0 := by
    rintro rfl
    have c := hO.cell 7
    rw [hF.t7] at c
    obtain ⟨v, hv, ho, _⟩ := hO.row 0 rfl
    obtain ⟨a, cap, rfl, _, _⟩ := ownsRow_view ho
    have e : (X.cells vK vS vE vN)[7]? = some (.slice a X.keys.length cap) := hv
    rw [e] at c
    cases c
  obtain ⟨τ, t0, hr⟩ := hO.rows
  have no : ∀ (j : Nat) (r : Row), X.rows[j]? = some r → ∀ v, (X.cells vK vS vE vN)[r.off]? = some v → w.ownsRow 0 r.e r.size v r.n r.xs → v.ownBlock ≠ some 0 := by
    intro j r hj v hv ho e
    have hcases : j = 0 ∨ j = 1 ∨ j = 2 ∨ j = 3 ∨ j = 4 ∨ j = 5 ∨ j = 6 ∨ j = 7 ∨ j = 8 ∨ j = 9 ∨ j = 10 := by have := (List.getElem?_eq_some_iff.1 hj).1; simp [PS.rows] at this; omega
    have hpod : ∀ i, (X.cells vK vS vE vN)[r.off]? = some (vN i) → False := fun i q => hN i (by rw [Option.some.inj (q.symm.trans hv)]; exact e)
    rcases hcases with hc | hc | hc | hc | hc | hc | hc | hc | hc | hc | hc
    · subst hc
      obtain ⟨a, cap, rfl, hcap, hg⟩ := ownsRow_view ho
      obtain rfl := (Option.some.inj hj).symm
      obtain ⟨g, rfl, _, hcs, _⟩ := hg (by show 0 < X.keys.length; omega)
      obtain rfl : g = 0 := Option.some.inj e
      obtain ⟨k, r, hkr⟩ : ∃ k r, X.keys = k :: r := by cases hq : X.keys with
        | nil => rw [hq] at hk; cases hk
        | cons k r => exact ⟨k, r, rfl⟩
      have c := hcs 0 (by show 0 < X.keys.length * 3; omega)
      rw [hF.t0] at c
      have c2 : some (Value.int .i64 0) = (X.keys.flatMap PKey.cells)[0]? := c
      rw [hkr] at c2
      cases c2
    · subst hc
      obtain ⟨a, cap, rfl, hcap, hg⟩ := ownsRow_view ho
      obtain rfl := (Option.some.inj hj).symm
      obtain ⟨g, rfl, _, hcs, _⟩ := hg (by show 0 < X.servers.length; omega)
      obtain rfl : g = 0 := Option.some.inj e
      obtain ⟨k, r, hkr⟩ : ∃ k r, X.servers = k :: r := by cases hq : X.servers with
        | nil => rw [hq] at hs; cases hs
        | cons k r => exact ⟨k, r, rfl⟩
      have c := hcs 1 (by show 1 < X.servers.length * 10; omega)
      rw [hF.t1] at c
      have c2 : some (Value.int .i64 4) = (X.servers.flatMap PSrv.cells)[1]? := c
      rw [hkr] at c2
      cases c2
    · subst hc
      obtain ⟨a, cap, rfl, hcap, hg⟩ := ownsRow_view ho
      obtain rfl := (Option.some.inj hj).symm
      obtain ⟨g, rfl, _, hcs, _⟩ := hg (by show 0 < X.entries.length; omega)
      obtain rfl : g = 0 := Option.some.inj e
      obtain ⟨k, r, hkr⟩ : ∃ k r, X.entries = k :: r := by cases hq : X.entries with
        | nil => rw [hq] at he; cases he
        | cons k r => exact ⟨k, r, rfl⟩
      have c := hcs 0 (by show 0 < X.entries.length * 6; omega)
      rw [hF.t0] at c
      have c2 : some (Value.int .i64 0) = (X.entries.flatMap Ent.cells)[0]? := c
      rw [hkr] at c2
      cases c2
    · subst hc; obtain rfl := (Option.some.inj hj).symm; exact hpod 0 rfl
    · subst hc; obtain rfl := (Option.some.inj hj).symm; exact hpod 1 rfl
    · subst hc; obtain rfl := (Option.some.inj hj).symm; exact hpod 2 rfl
    · subst hc; obtain rfl := (Option.some.inj hj).symm; exact hpod 3 rfl
    · subst hc; obtain rfl := (Option.some.inj hj).symm; exact hpod 4 rfl
    · subst hc; obtain rfl := (Option.some.inj hj).symm; exact hpod 5 rfl
    · subst hc; obtain rfl := (Option.some.inj hj).symm; exact hpod 6 rfl
    · subst hc; obtain rfl := (Option.some.inj hj).symm; exact hpod 7 rfl
  refine ⟨vK, vS, vE, vN, hN, hO.blk, ⟨hO.inF, hb0⟩, fun k hk => hO.below k hk.1, τ, t0, fun j r hj => ?_⟩
  obtain ⟨v, hv, ho, hq⟩ := hr j r hj
  exact ⟨v, hv, ho, fun k e => ⟨⟨(hq k e).1, fun e0 => no j r hj v hv ho (by rw [e, e0])⟩, (hq k e).2⟩⟩
theorem Fours.kept {w w' : World} {G : Nat → Prop} (h : Fours w) (h1 : 1 ≤ w.heap.size) (k : Kept G w w') (h0 : ¬ G 0) : Fours w' :=
  h.later ⟨k.os, k.output, k.size, fun i hi => by
    obtain rfl : i = 0 := by omega
    exact k.block 0 (by omega) h0⟩
def pProm (X : PS) : Bool := (X.turn == 2) || (X.turn == 3)
theorem isPromoted_any (w : World) (h : XIn w F b X) :
    Calls Tryd.prog 64 #[.pointer (some ⟨b, 0, none⟩)] w fun e w' => e = .returned (.bool (pProm X)) ∧ w' = w := by
  have c := xin_turn h
  clear h
  cases q : (X.turn == 2)
  all_goals
    go_enter Tryd.func64, Tryd.ntmps64
    go_wp2
    go_ret
    exact ⟨by simp [pProm, q], rfl⟩
def pOld (X : PS) (e : Ent) : Bool := !e.gone && (e.key != X.write)
set_option maxRecDepth 100000 in
theorem isOld_any (w : World) (e : Ent) (h : XIn w F b X) :
    Calls Tryd.prog 65 #[.pointer (some ⟨b, 0, none⟩), .agg #[.string e.path, .int .i64 e.rev, .int .i64 e.key, .int .i64 e.draw, .string e.sealed, .bool e.gone]] w fun r w' => r = .returned (.bool (pOld X e)) ∧ Low w.heap.size w w' := by
  have HR := hid h
  clear h
  go_enter Tryd.func65, Tryd.ntmps65
  go_upto_region 1 with fail
  go_name_world W hW
  have hB : Blk W w.heap.size 65 e.cells := by rw [← hW]; exact Blk.new w 65 e.cells
  have hX : XIn W F b X := by rw [← hW]; exact HR.out.alloc _
  have LW : Hid (Low w.heap.size w W) := by
    show Low _ _ _
    rw [← hW]; exact (Low.refl _ w).alloc (Nat.le_refl _) _
  have e2 : W.cell? ⟨w.heap.size, 2, none⟩ = some (.int .i64 e.key) := hB.cell 2
  have e5 : W.cell? ⟨w.heap.size, 5, none⟩ = some (.bool e.gone) := hB.cell 5
  have c3 := xin_write hX
  have lb := hX.lt
  have lN := hB.lt
  clear hW hB hX
  cases qg : e.gone
  all_goals
    rw [qg] at e5
    go_region
    all_goals go_wp2_with fail
    all_goals go_ret
    all_goals exact ⟨by simp [pOld, qg], LW.out.drew⟩
def pSeen (X : PS) : Bool := X.servers.all (fun s => !decide (s.seen < X.epoch))
theorem pall_snoc {α : Type} (l : List α) (i : Nat) (x : α) (p : α → Bool) (h : l[i]? = some x) : (l.take (i + 1)).all p = ((l.take i).all p && p x) := by
  rw [take_snoc h, List.all_append]; simp
set_option maxRecDepth 100000 in
set_option maxHeartbeats 1000000 in
theorem allHaveSeen_any (w : World) (h : XIn w F b X) (hs : X.servers.length ≤ 4) :
    Calls Tryd.prog 61 #[.pointer (some ⟨b, 0, none⟩)] w fun e w' => e = .returned (.bool (pSeen X)) ∧ Low w.heap.size w w' := by
  have HR := hid h
  clear h
  go_enter Tryd.func61, Tryd.ntmps61
  go_wp2_with fail
  go_loopg [3] X.servers.length (fun left iv wr => ∃ i : Nat, left = X.servers.length - i ∧ i ≤ X.servers.length ∧ iv = .int .i64 (i : Int) ∧ Hid ((X.servers.take i).all (fun s => !decide (s.seen < X.epoch)) = true) ∧ Hid (Low w.heap.size w wr))
  case atStart => exact ⟨0, rfl, Nat.zero_le _, rfl, by show _ = _; simp, Low.refl _ _⟩
  case round =>
    obtain ⟨i, hgk, hi, rfl, HI, HL⟩ := hrel
    have HGK := hid hgk
    have R1 : Hid (XIn wr F b X) := HR.out.low HL.out
    clear hgk
    have lb := R1.out.lt
    have c2 := xin_epoch R1.out
    by_cases h3 : i < X.servers.length
    · have q1 : decide ((i : Int) < (X.servers.length : Int)) = true := by simp; omega
      have il : (i : Int) < (X.servers.length : Int) := by omega
      obtain ⟨x, hx⟩ : ∃ x, X.servers[i]? = some x := ⟨_, List.getElem?_eq_getElem h3⟩
      obtain ⟨g, cap, hc, hg, hcs, _⟩ := xin_srvAt R1.out hx
      have c0 : wr.cell? ⟨g, i * 10, none⟩ = some (.int .i64 x.seen) := hcs 0 (by omega)
      have HX := hid hx
      clear hx hcs
      cases qx : decide (x.seen < X.epoch)
      · go_upto_region 4 with fail
        go_region
        all_goals go_wp2_with fail
        all_goals
          go_roundg (X.servers.length - (i + 1))
          case rel => exact ⟨i + 1, rfl, by omega, by simp, by show _ = _; rw [pall_snoc _ i _ _ HX.out, HI.out, qx]; rfl, HL.out.drew⟩
          case measure => have := HGK.out; omega
      · go_upto_region 4 with fail
        go_region
        all_goals go_wp2_with fail
        all_goals
          go_ret
          refine ⟨?_, HL.out.drew⟩
          have : pSeen X = false := List.all_eq_false.2 ⟨x, List.mem_of_getElem? HX.out, by rw [qx]; simp⟩
          rw [this]
          rfl
    · have q1 : decide ((i : Int) < (X.servers.length : Int)) = false := by simp; omega
      obtain ⟨a5, cap5, hc5, _⟩ := xin_servers R1.out
      rw [List.length_map] at hc5
      have hall : Hid (pSeen X = true) := by
        show pSeen X = true
        unfold pSeen
        have := HI.out
        rwa [List.take_of_length_le (by omega)] at this
      go_wp2_with fail
      go_ret
      exact ⟨by rw [hall.out]; rfl, HL.out⟩
def PS.takeOver (X : PS) (n : Nat) (P : PKey) : PS := { X with keys := X.keys.set n { P with wrote := X.epoch }, write := (n : Int) + 1 }
set_option maxRecDepth 100000 in
set_option maxHeartbeats 1000000 in
theorem takeOver_any (w : World) (n : Nat) (P : PKey) (h : XIn w F b X) (hn : X.keys.length = n + 1) (hn6 : n ≤ 6) (hP : X.keys[n]? = some P) :
    Calls Tryd.prog 62 #[.pointer (some ⟨b, 0, none⟩)] w fun e w' => e = .returned (.tuple #[]) ∧ XIn w' F b (X.takeOver n P) ∧ Kept F w w' := by
  obtain ⟨g, cap, hc, hg, hcs, hf⟩ := xin_keyFull h hP
  obtain ⟨r1, k1⟩ := xin_setWrote h hc n P hP X.epoch
  have e2 : w.cell? ⟨g, n * 3 + 2, none⟩ = some (.int .i64 P.wrote) := hcs 2 (by omega)
  have f2 := hf (n * 3 + 2)
  have d2 := xin_epoch h
  have lb := h.lt
  have d3 := xin_write r1
  have f3 := r1.frozen 3
  have R1 := hid r1
  have K1 := hid k1
  have hc2 : w.cell? ⟨b, 7, none⟩ = some (.slice (some ⟨g, 0, none⟩) ((n : Int) + 1).toNat cap) := by rw [hc, hn]; rfl
  have ix : wrap64 ((X.keys.length : Int) - 1) = (n : Int) := by unfold wrap64; omega
  have ix2 : IntKind.i64.wrap ((X.keys.length : Int) - 1) = (n : Int) := by rw [IntKind.wrap_i64]; omega
  have nl : (n : Int) < (X.keys.length : Int) := by omega
  have HN : Hid ((X.keys.length : Int) = (n : Int) + 1) := by show _ = _; omega
  clear h hcs hf r1 k1 hP hc2 hn
  go_enter Tryd.func62, Tryd.ntmps62
  go_upto_region 1 with fail
  go_region
  all_goals go_wp2_with fail
  all_goals
    go_end0
    refine ⟨rfl, ?_, ?_⟩
    · have := (xin_set_write R1.out (X.keys.length : Int)).drew
      unfold PS.takeOver
      rw [← HN.out]
      exact this
    · exact (K1.out.trans (xset_kept R1.out 3 _) (fun _ f => f) (fun _ _ f => f)).drew
set_option maxRecDepth 100000 in
set_option maxHeartbeats 1000000 in
theorem come_any (w : World) (text : ByteArray) (h : XIn w F b X) (hk : X.keys.length < 6) :
    Calls Tryd.prog 81 #[.pointer (some ⟨b, 0, none⟩), .string text] w fun e w' => e = .returned (.int .i64 ((X.keys.length : Int) + 1)) ∧ XIn w' (grow F w w') b { X with keys := X.keys ++ [⟨text, X.epoch, 0⟩] } ∧ Kept F w w' := by
  obtain ⟨a, cap, c7, o7, n7⟩ := xin_rowK h
  have c2 := xin_epoch h
  have lb := h.lt
  have HR := hid h
  have O7 := hid o7
  have N7 := hid n7
  have C7 := hid c7
  have F7 := hid (h.frozen 7)
  have LB := hid lb
  clear h o7 n7
  go_enter Tryd.func81, Tryd.ntmps81
  go_upto_region 1 with fail
  go_region_law ((refine step_append_mine _ rfl (.tmp 9) (.tmp 17) 69 rfl 81 _ 3 32 Tryd.underlying69 info56 rfl (by omega) (.slice a X.keys.length cap) X.keys.length (X.keys.flatMap PKey.cells) ?_ ?_ ⟨w.heap.size, 0, none⟩ 1 1 (PKey.mk text X.epoch 0).cells ?_ rfl ?_ (PKey.one _) ⟨by omega, by omega⟩ ?_; rfl; exact (World.ownsRow.alloc (w := w) O7.out _); rfl; exact (news_new w (PKey.mk text X.epoch 0).cells 81); intro v' w1 o1 k1 p1; obtain ⟨a', cap', rfl, _, _⟩ := ownsRow_view o1; have O1 := hid o1; have K1 := hid k1.of_drew; have P1 := hid p1; have c7w := kept_cell K1.out LB.out N7.out C7.out; have f7w := kept_frozen K1.out LB.out N7.out F7.out; clear o1 k1 p1))
  all_goals go_wp2_with fail
  all_goals go_ret
  all_goals
    obtain ⟨r1, r2⟩ := xin_appK HR.out C7.out K1.out (PKey.mk text X.epoch 0) O1.out P1.out
    exact ⟨by simp, r1, r2⟩
end Go.Proofs.YtphapknfkbgapabDoor
namespace Go.Proofs.YtphapknfkbgapabDoor
open Go.RowKit

variable {F : Nat → Prop} {b : Nat} {X : PS}

/-! firstOld: what Migrate moves next. -/
def pKeyAt (ks : List PKey) (k : Int) : PKey := (ks[(k - 1).toNat]?).getD ⟨⟨#[]⟩, 0, 0⟩
structure Fst where
  e : Ent
  text : ByteArray
def fst0 : Fst := ⟨Ent.zero, ⟨#[]⟩⟩
def pSkip (f : Fst) (x : Ent) : Bool := (f.e.rev != 0) && !(Op.bytesLess x.path.toList f.e.path.toList)
def pPass (X : PS) (x : Ent) : Bool := (x.rev != (newestOf X.entries x.path X.rev).rev) || !(pOld X x)
def pTake (f : Fst) (x : Ent) (O : ByteArray × Int) : Fst := if O.2 == 0 then ⟨x, O.1⟩ else f
def pStep (X : PS) (f : Fst) (x : Ent) : Fst := if pSkip f x then f else if pPass X x then f else pTake f x (pOpened (pKeyAt X.keys x.key) x)
def pFirst (X : PS) : Fst := X.entries.foldl (pStep X) fst0
theorem pKeyAt_eq {ks : List PKey} {j : Nat} {K : PKey} {k : Int} (h : ks[j]? = some K) (hk : k = (j : Int) + 1) : pKeyAt ks k = K := by
  unfold pKeyAt
  rw [hk, show ((j : Int) + 1 - 1).toNat = j by omega, h]
  rfl
/-- What is kept and not gone has a key that is there. -/
structure EKey (X : PS) (x : Ent) (j : Nat) (P : PKey) : Prop where
  ok : EntOk x
  key : x.key = (j : Int) + 1
  at_ : X.keys[j]? = some P
  six : j ≤ 6
  size : P.text.size = 48
theorem newest_lit (w : World) (p : ByteArray) (rev : Int) (h : XIn w F b X) (hn : X.entries.length ≤ 1000) (E : Ent) (hE : newestOf X.entries p rev = E) :
    Calls Tryd.prog 27 #[.pointer (some ⟨b, 0, none⟩), .string p, .int .i64 rev] w fun e w' => e = .returned (.agg #[.string E.path, .int .i64 E.rev, .int .i64 E.key, .int .i64 E.draw, .string E.sealed, .bool E.gone]) ∧ Low w.heap.size w w' := by
  subst hE
  exact newest_any w p rev h hn
theorem metA1 {W y2 : World} {X : Ent} (l : Low W.heap.size W y2) : ∃ M, Value.pointer (some ⟨y2.heap.size, 0, none⟩) = Value.pointer (some ⟨M, 0, none⟩) ∧
    Hid (Low W.heap.size W (y2.alloc (Obj.cells #[Value.string X.path, Value.int .i64 X.rev, Value.int .i64 X.key, Value.int .i64 X.draw, Value.string X.sealed, Value.bool X.gone] 65)) ∧ W.heap.size ≤ M ∧ Blk (y2.alloc (Obj.cells #[Value.string X.path, Value.int .i64 X.rev, Value.int .i64 X.key, Value.int .i64 X.draw, Value.string X.sealed, Value.bool X.gone] 65)) M 65 X.cells) :=
  ⟨_, rfl, l.alloc l.size _, l.size, Blk.new y2 65 X.cells⟩
theorem metB1 {W y2 : World} {X : Ent} (l : Low W.heap.size W y2) (z : Blk y2 W.heap.size 65 Ent.zero.cells) : ∃ M, Value.pointer (some ⟨W.heap.size, 0, none⟩) = Value.pointer (some ⟨M, 0, none⟩) ∧
    Hid (Low W.heap.size W ((((((y2.setCell ⟨W.heap.size, 0, none⟩ (Value.string X.path)).setCell ⟨W.heap.size, 1, none⟩ (Value.int .i64 X.rev)).setCell ⟨W.heap.size, 2, none⟩ (Value.int .i64 X.key)).setCell ⟨W.heap.size, 3, none⟩ (Value.int .i64 X.draw)).setCell ⟨W.heap.size, 4, none⟩ (Value.string X.sealed)).setCell ⟨W.heap.size, 5, none⟩ (Value.bool X.gone)) ∧ W.heap.size ≤ M ∧ Blk ((((((y2.setCell ⟨W.heap.size, 0, none⟩ (Value.string X.path)).setCell ⟨W.heap.size, 1, none⟩ (Value.int .i64 X.rev)).setCell ⟨W.heap.size, 2, none⟩ (Value.int .i64 X.key)).setCell ⟨W.heap.size, 3, none⟩ (Value.int .i64 X.draw)).setCell ⟨W.heap.size, 4, none⟩ (Value.string X.sealed)).setCell ⟨W.heap.size, 5, none⟩ (Value.bool X.gone)) M 65 X.cells) :=
  ⟨_, rfl, (((((l.setCell (Nat.le_refl _) _).setCell (Nat.le_refl _) _).setCell (Nat.le_refl _) _).setCell (Nat.le_refl _) _).setCell (Nat.le_refl _) _).setCell (Nat.le_refl _) _, Nat.le_refl _, (((((z.set 0 _).set 1 _).set 2 _).set 3 _).set 4 _).set 5 _⟩
theorem pfold_snoc {α β : Type} (l : List α) (i : Nat) (x : α) (f : β → α → β) (d : β) (h : l[i]? = some x) : (l.take (i + 1)).foldl f d = f ((l.take i).foldl f d) x := by
  rw [take_snoc h, List.foldl_append]; rfl
/-- What lies in memory within firstOld: the answer's block, and the first one's. -/
structure FO (w wr : World) (f : Fst) : Prop where
  low : Low w.heap.size w wr
  size : w.heap.size + 2 ≤ wr.heap.size
  zero : Blk wr w.heap.size 65 Ent.zero.cells
  fst : Blk wr (w.heap.size + 1) 65 f.e.cells
theorem FO.later {w wr wr' : World} {f : Fst} (h : FO w wr f) (l : Low wr.heap.size wr wr') : FO w wr' f :=
  ⟨h.low.trans (l.mono h.low.size), Nat.le_trans h.size l.size, h.zero.low l h.zero.lt, h.fst.low l h.fst.lt⟩
set_option maxRecDepth 100000 in
set_option maxHeartbeats 4000000 in
theorem firstOld_any (w : World) (h : XIn w F b X) (hn : X.entries.length ≤ 1000) (hE : ∀ x ∈ X.entries, x.gone = false → ∃ j P, EKey X x j P) (hF : Fours w) (h1 : 1 ≤ w.heap.size) :
    Calls Tryd.prog 82 #[.pointer (some ⟨b, 0, none⟩)] w fun e w' => e = .returned (.tuple #[.agg (pFirst X).e.cells.toArray, .string (pFirst X).text]) ∧ Low w.heap.size w w' := by
  have HR := hid h
  have HE := hid hE
  have HF := hid hF
  obtain ⟨l, hl⟩ : ∃ l, l = X.entries := ⟨_, rfl⟩
  have HL := hid hl
  rw [← hl] at hn
  clear h hE hF hl
  go_enter Tryd.func82, Tryd.ntmps82
  go_wp2_with fail
  go_loopg [5, 6] l.length (fun left sv iv wr => ∃ (i : Nat) (f : Fst), left = l.length - i ∧ i ≤ l.length ∧ sv = .string f.text ∧ iv = .int .i64 (i : Int) ∧ Hid (f = (l.take i).foldl (pStep X) fst0) ∧ Hid (FO w wr f))
  case atStart =>
    refine ⟨0, fst0, rfl, Nat.zero_le _, rfl, rfl, rfl, ((Low.refl _ w).alloc (Nat.le_refl _) _).alloc (by simp) _, by simp, (Blk.new w 65 Ent.zero.cells).alloc _, ?_⟩
    have := Blk.new (w.alloc (.cells Ent.zero.cells.toArray 65)) 65 Ent.zero.cells
    rw [World.size_alloc] at this
    exact this
  case round =>
    obtain ⟨i, f, hgk, hi, rfl, rfl, HFI, HFO⟩ := hrel
    have HGK := hid hgk
    clear hgk
    have RR : Hid (XIn wr F b X) := HR.out.low HFO.out.low
    have lb := RR.out.lt
    obtain ⟨a9, cap9, hc9, hel⟩ := xin_entries RR.out
    rw [List.length_map, ← HL.out] at hc9
    by_cases h3 : i < l.length
    · have q1 : decide ((i : Int) < (l.length : Int)) = true := by simp; omega
      have il : (i : Int) < (l.length : Int) := by omega
      obtain ⟨x, hx⟩ : ∃ x, l[i]? = some x := ⟨_, List.getElem?_eq_getElem h3⟩
      obtain ⟨g, rfl, hg, hcs, _⟩ := hel i x.cells (by rw [List.getElem?_map, ← HL.out, hx]; rfl)
      have HC : Hid (wr.rangeAt g (i * 6) x.cells) := range_of hcs (fun _ _ e => ⟨(List.getElem?_eq_some_iff.1 e).1, e⟩)
      have HXM : Hid (x ∈ X.entries) := by show x ∈ X.entries; rw [← HL.out]; exact List.mem_of_getElem? hx
      have HST : Hid ((l.take (i + 1)).foldl (pStep X) fst0 = pStep X f x) := by
        show _ = _
        rw [pfold_snoc l i x _ _ hx, ← HFI.out]
      clear hx hcs hel
      go_upto_region 7 with (first | ((with_reducible refine ld50 (.tmp 26) g (i * 6) x ?_ HC.out ?_); rfl) | ((with_reducible refine st50 (.tmp 7) (.tmp 27) wr.heap.size Ent.zero x ?_ ?_ ?_ ?_); rfl; rfl; exact (Blk.new wr 65 Ent.zero.cells); intro W b2 k2 s2; have B2 := hid b2; have LW : Hid (Low wr.heap.size wr W) := low_set ((Low.refl _ wr).alloc (Nat.le_refl _) _) k2 (Nat.le_refl _) (by simp); clear b2 k2 s2))
      have FW : Hid (FO w W f) := HFO.out.later LW.out
      have RW : Hid (XIn W F b X) := RR.out.low LW.out
      have m0 : W.cell? ⟨wr.heap.size, 0, none⟩ = some (.string x.path) := B2.out.cell 0
      have m1 : W.cell? ⟨wr.heap.size, 1, none⟩ = some (.int .i64 x.rev) := B2.out.cell 1
      have n0 : W.cell? ⟨w.heap.size + 1, 0, none⟩ = some (.string f.e.path) := FW.out.fst.cell 0
      have n1 : W.cell? ⟨w.heap.size + 1, 1, none⟩ = some (.int .i64 f.e.rev) := FW.out.fst.cell 1
      have lM := B2.out.lt
      clear hc9 hg
      have hsplit : (pSkip f x = true ∧ (f.e.rev != 0) = true ∧ Op.bytesLess x.path.toList f.e.path.toList = false) ∨ (pSkip f x = false ∧ (f.e.rev != 0) = false) ∨ (pSkip f x = false ∧ (f.e.rev != 0) = true ∧ Op.bytesLess x.path.toList f.e.path.toList = true) := by
        unfold pSkip
        cases (f.e.rev != 0)
        · exact Or.inr (Or.inl ⟨rfl, rfl⟩)
        · cases Op.bytesLess x.path.toList f.e.path.toList
          · exact Or.inl ⟨rfl, rfl, rfl⟩
          · exact Or.inr (Or.inr ⟨rfl, rfl, rfl⟩)
      rcases hsplit with ⟨hsk, q0, ql⟩ | ⟨hsk, q0⟩ | ⟨hsk, q0, ql⟩
      · have HSK := hid hsk
        clear hsk
        go_wp2_with fail
        go_roundg (l.length - (i + 1))
        case rel => exact ⟨i + 1, f, rfl, by omega, rfl, by simp, by show _ = _; rw [HST.out]; unfold pStep; rw [HSK.out]; rfl, FW.out⟩
        case measure => have := HGK.out; omega
      all_goals
        have HSK := hid hsk
        clear hsk
        go_upto_region 8 with fail
        obtain ⟨N, hN⟩ : ∃ N, newestOf X.entries x.path X.rev = N := ⟨_, rfl⟩
        have HN := hid hN
        have HN1 : Hid (X.entries.length ≤ 1000) := by show _ ≤ _; rw [← HL.out]; exact hn
        have c0 := xin_rev RW.out
        have lbW := RW.out.lt
        clear n0 n1 hN
        go_cut [8] (fun mv wc => ∃ M, mv = .pointer (some ⟨M, 0, none⟩) ∧ Hid (Low W.heap.size W wc ∧ W.heap.size ≤ M ∧ Blk wc M 65 N.cells))
        case first =>
          go_region_with (first | (go_at_call 27; refine (newest_lit (X := X) _ x.path X.rev (by exact RW.out.drew) HN1.out N HN.out).mono ?_; rintro e y2 ⟨rfl, l2⟩; have LL2 : Hid (Low W.heap.size W y2) := (Low.refl _ W).drew.trans l2; clear l2) | (go_at_call 27; refine (newest_lit (X := X) _ x.path X.rev (by exact (RW.out.alloc _).drew) HN1.out N HN.out).mono ?_; rintro e y2 ⟨rfl, l2⟩; have LL2 : Hid (Low W.heap.size W y2) := ((Low.refl _ W).alloc (Nat.le_refl _) _).drew.trans (l2.mono (by simp)); have bz : Blk y2 W.heap.size 65 Ent.zero.cells := (Blk.new W 65 Ent.zero.cells).drew.low l2 (by simp); have z0 : y2.cell? ⟨W.heap.size, 0, none⟩ = some (.string ⟨#[]⟩) := bz.cell 0; have z1 : y2.cell? ⟨W.heap.size, 1, none⟩ = some (.int .i64 0) := bz.cell 1; have z2 : y2.cell? ⟨W.heap.size, 2, none⟩ = some (.int .i64 0) := bz.cell 2; have z3 : y2.cell? ⟨W.heap.size, 3, none⟩ = some (.int .i64 0) := bz.cell 3; have z4 : y2.cell? ⟨W.heap.size, 4, none⟩ = some (.string ⟨#[]⟩) := bz.cell 4; have z5 : y2.cell? ⟨W.heap.size, 5, none⟩ = some (.bool false) := bz.cell 5; have g0 := bz.frozen 0; have g1 := bz.frozen 1; have g2 := bz.frozen 2; have g3 := bz.frozen 3; have g4 := bz.frozen 4; have g5 := bz.frozen 5; have BZ := hid bz; clear l2 bz))
          all_goals
            go_wp2_with fail
            go_meet
          all_goals first | exact metB1 LL2.out BZ.out | exact metA1 LL2.out
        case rest =>
          obtain ⟨M, rfl, HMM⟩ := hcut
          have FC : Hid (FO w wc f) := FW.out.later HMM.out.1
          have RC : Hid (XIn wc F b X) := RW.out.low HMM.out.1
          have BX : Hid (Blk wc wr.heap.size 65 x.cells) := B2.out.low HMM.out.1 B2.out.lt
          have p0 : wc.cell? ⟨wr.heap.size, 0, none⟩ = some (.string x.path) := BX.out.cell 0
          have p1 : wc.cell? ⟨wr.heap.size, 1, none⟩ = some (.int .i64 x.rev) := BX.out.cell 1
          have p3 : wc.cell? ⟨wr.heap.size, 2, none⟩ = some (.int .i64 x.key) := BX.out.cell 2
          have p4 : wc.cell? ⟨wr.heap.size, 3, none⟩ = some (.int .i64 x.draw) := BX.out.cell 3
          have p5 : wc.cell? ⟨wr.heap.size, 4, none⟩ = some (.string x.sealed) := BX.out.cell 4
          have p6 : wc.cell? ⟨wr.heap.size, 5, none⟩ = some (.bool x.gone) := BX.out.cell 5
          have p2 : wc.cell? ⟨M, 1, none⟩ = some (.int .i64 N.rev) := HMM.out.2.2.cell 1
          clear m0 m1 c0 lbW
          cases qr : (x.rev != N.rev)
          · obtain ⟨o, ho⟩ : ∃ o, o = pOld X x := ⟨_, rfl⟩
            have HO := hid ho
            clear ho
            cases qo : o
            · go_wp2_with (go_at_call 65; refine (isOld_any _ x RC.out).mono ?_; rw [← HO.out, qo]; rintro e y3 ⟨rfl, l3⟩; have L3 := hid l3; clear l3)
              go_roundg (l.length - (i + 1))
              case rel => exact ⟨i + 1, f, rfl, by omega, rfl, by simp, by show _ = _; rw [HST.out]; unfold pStep; rw [HSK.out]; unfold pPass; rw [HN.out, qr, ← HO.out, qo]; rfl, FC.out.later L3.out⟩
              case measure => have := HGK.out; omega
            · have hgo : x.gone = false := by
                have := HO.out
                rw [qo] at this
                unfold pOld at this
                cases hg : x.gone
                · rfl
                · rw [hg] at this
                  cases this
              obtain ⟨jk, P, hEK⟩ := HE.out x HXM.out hgo
              have EK := hid hEK
              obtain ⟨O, hO⟩ : ∃ O, O = pOpened P x := ⟨_, rfl⟩
              have HOP := hid hO
              have HSO : Hid ((l.take (i + 1)).foldl (pStep X) fst0 = if O.2 == 0 then ⟨x, O.1⟩ else f) := by
                show _ = _
                rw [HST.out]
                unfold pStep
                rw [HSK.out]
                unfold pPass
                rw [HN.out, qr, ← HO.out, qo, pKeyAt_eq hEK.at_ hEK.key, ← hO]
                rfl
              have F4c : Hid (Fours wc) := HF.out.later (FC.out.low.mono h1)
              have hc1 : 1 ≤ wc.heap.size := Nat.le_trans h1 FC.out.low.size
              clear hEK hO hgo
              go_upto_region 11 with (first | (go_at_call 65; refine (isOld_any _ x RC.out).mono ?_; rw [← HO.out, qo]; rintro e y3 ⟨rfl, l3⟩; have L3 := hid l3; have B3 : Hid (Blk y3 wr.heap.size 65 x.cells) := BX.out.low l3 BX.out.lt; have F43 : Hid (Fours y3) := F4c.out.later (l3.mono hc1); have R3 : Hid (XIn y3 F b X) := RC.out.low l3; clear l3 p0 p1 p2 p3 p4 p5 p6) | ((with_reducible refine ld50 (.tmp 7) wr.heap.size 0 x ?_ B3.out.whole ?_); rfl) | (go_at_call 54; refine (popened_any _ x P jk R3.out EK.out.at_ EK.out.key EK.out.six EK.out.size EK.out.ok F43.out (by have := L3.out.size; omega)).mono ?_; rw [← HOP.out]; rintro e y4 ⟨rfl, l4⟩; have L4 : Hid (Low wc.heap.size wc y4) := L3.out.trans (l4.mono L3.out.size); have B4 : Hid (Blk y4 wr.heap.size 65 x.cells) := B3.out.low l4 B3.out.lt; clear l4))
              have FD : Hid (FO w y4 f) := FC.out.later L4.out
              cases qe : (O.2 == 0)
              · go_wp2_with fail
                go_roundg (l.length - (i + 1))
                case rel => exact ⟨i + 1, f, rfl, by omega, rfl, by simp, by show _ = _; rw [HSO.out, qe]; rfl, FD.out⟩
                case measure => have := HGK.out; omega
              · go_wp2_with (first | ((with_reducible refine ld50 (.tmp 7) wr.heap.size 0 x ?_ B4.out.whole ?_); rfl) | ((with_reducible refine st50 (.tmp 4) (.tmp 66) (w.heap.size + 1) f.e x ?_ ?_ FD.out.fst ?_); rfl; rfl; intro w5 b5 k5 s5; have B5 := hid b5; have K5 := hid k5; have S5 := hid s5; clear b5 k5 s5))
                go_roundg (l.length - (i + 1))
                case rel => exact ⟨i + 1, ⟨x, O.1⟩, rfl, by omega, rfl, by simp, by show _ = _; rw [HSO.out, qe]; rfl, low_set FD.out.low K5.out (by omega) FD.out.low.size, by rw [S5.out]; exact FD.out.size, FD.out.zero.kept K5.out (by omega), B5.out⟩
                case measure => have := HGK.out; omega
          · go_wp2_with fail
            go_roundg (l.length - (i + 1))
            case rel => exact ⟨i + 1, f, rfl, by omega, rfl, by simp, by show _ = _; rw [HST.out]; unfold pStep; rw [HSK.out]; unfold pPass; rw [HN.out, qr]; rfl, FC.out⟩
            case measure => have := HGK.out; omega
    · have q1 : decide ((i : Int) < (l.length : Int)) = false := by simp; omega
      have hfin : Hid (pFirst X = f) := by
        show _ = _
        rw [HFI.out, List.take_of_length_le (by omega)]
        unfold pFirst
        rw [← HL.out]
      clear hel
      go_wp2_with (first | ((with_reducible refine ld50 (.tmp 4) (w.heap.size + 1) 0 f.e ?_ HFO.out.fst.whole ?_); rfl) | ((with_reducible refine st50 (.tmp 2) (.tmp 68) w.heap.size Ent.zero f.e ?_ ?_ HFO.out.zero ?_); rfl; rfl; intro w1 b1 k1 s1; have B1 := hid b1; have K1 := hid k1; clear b1 k1 s1))
      (try simp only [Exit.inBlock, Exit.then])
      refine bodyPost_ret (results_cell_tmp rfl w.heap.size f.e.cells _ rfl B1.out.whole Tryd.underlying65 rfl (sz50 _)) rfl ?_
      refine ⟨by rw [hfin.out]; rfl, low_set HFO.out.low K1.out (Nat.le_refl _) HFO.out.low.size⟩
end Go.Proofs.YtphapknfkbgapabDoor
namespace Go.Proofs.YtphapknfkbgapabDoor
open Go.RowKit

variable {F : Nat → Prop} {b : Nat} {X : PS}

/-! Migrate. -/
def PS.pmove (X : PS) (T : ByteArray) (m : Int) : PS := { X with draws := X.draws + 1, rev := X.rev + 1, entries := X.entries ++ [{ closedOf T m (pFirst X).e.path (pFirst X).text (X.draws + 1) with rev := X.rev + 1 }] }
/-- What n moves leave; how many were made; the answer. -/
def pMoves (T : ByteArray) (m : Int) : Nat → PS → PS × Nat × Int
  | 0, X => (X, 0, 0)
  | n + 1, X => if (pFirst X).e.rev != 0 then (if pFull X then (X, 0, 11) else ((pMoves T m n (X.pmove T m)).1, (pMoves T m n (X.pmove T m)).2.1 + 1, (pMoves T m n (X.pmove T m)).2.2)) else (X, 0, 0)
def pBadMove (n : Int) : Bool := decide (n < 0) || decide (20 < n)
theorem pMigrate_arg (w : World) (n : Int) (hn : pBadMove n = true) :
    Calls Tryd.prog 63 #[.pointer (some ⟨b, 0, none⟩), .int .i64 n] w fun e w' => e = .returned (.tuple #[.int .i64 0, .int .i64 2]) ∧ w' = w := by
  unfold pBadMove at hn
  cases q : decide (n < 0)
  · rw [q, Bool.false_or] at hn
    go_enter Tryd.func63, Tryd.ntmps63
    go_wp2
    go_ret2
    exact ⟨rfl, rfl⟩
  · clear hn
    go_enter Tryd.func63, Tryd.ntmps63
    go_wp2
    go_ret2
    exact ⟨rfl, rfl⟩
theorem pMigrate_turn (w : World) (n : Int) (h : XIn w F b X) (hn : pBadMove n = false) (hg : pProm X = false) :
    Calls Tryd.prog 63 #[.pointer (some ⟨b, 0, none⟩), .int .i64 n] w fun e w' => e = .returned (.tuple #[.int .i64 0, .int .i64 17]) ∧ w' = w := by
  unfold pBadMove at hn
  rw [Bool.or_eq_false_iff] at hn
  obtain ⟨q1, q2⟩ := hn
  have HR := hid h
  have HG := hid hg
  clear h hg
  go_enter Tryd.func63, Tryd.ntmps63
  go_wp2_with (go_at_call 64; refine (isPromoted_any _ HR.out).mono ?_; rw [HG.out]; rintro e y1 ⟨rfl, hy⟩; obtain rfl := hy.symm)
  go_ret2
  exact ⟨rfl, rfl⟩
/-- What a move asks of the coffer. -/
structure MOk (X Z : PS) : Prop where
  keys : Z.keys = X.keys
  write : Z.write = X.write
  ents : Z.entries.length ≤ 1000
  ek : ∀ x ∈ Z.entries, x.gone = false → ∃ j P, EKey Z x j P
  draws : 0 ≤ Z.draws ∧ Z.draws + 1 ≤ 100000000000000
  rev : 0 ≤ Z.rev ∧ Z.rev ≤ 100000000000000
  fst : (pFirst Z).e.rev ≠ 0 → (1 ≤ (pFirst Z).e.path.size ∧ (pFirst Z).e.path.size ≤ 16) ∧ (pFirst Z).text.size ≤ 64
theorem sealed_lit (w : World) (path plain : ByteArray) (K : PKey) (i : Nat) (h : XIn w F b X) (hk : X.keys[i]? = some K) (hi6 : i ≤ 6) (hK : K.text.size = 48) (hp : 1 ≤ path.size ∧ path.size ≤ 16) (hs : plain.size ≤ 64) (hd : 0 ≤ X.draws ∧ X.draws + 1 ≤ 100000000000000) (hF : Fours w) (h1 : 1 ≤ w.heap.size) (E : Ent) (hE : closedOf K.text ((i : Int) + 1) path plain (X.draws + 1) = E) :
    Calls Tryd.prog 78 #[.pointer (some ⟨b, 0, none⟩), .int .i64 ((i : Int) + 1), .string path, .string plain] w fun r w' =>
      r = .returned (.tuple #[.agg #[.string E.path, .int .i64 E.rev, .int .i64 E.key, .int .i64 E.draw, .string E.sealed, .bool E.gone], .int .i64 0]) ∧ XIn w' F b { X with draws := X.draws + 1 } ∧ Kept F w w' := by
  subst hE
  exact sealed_any w path plain K i h hk hi6 hK hp hs hd hF h1
/-- The secret was sealed anew, and lies in a block of its own. -/
structure Cut13 (W wc : World) (F : Nat → Prop) (b : Nat) (X : PS) (M : Nat) (E : Ent) : Prop where
  x : XIn wc F b X
  kept : Kept F W wc
  new : W.heap.size ≤ M
  blk : Blk wc M 65 E.cells
theorem cut13_A {W y2 : World} {E : Ent} (hx : XIn y2 F b X) (hk : Kept F W y2) : ∃ M, Value.pointer (some ⟨y2.heap.size, 0, none⟩) = Value.pointer (some ⟨M, 0, none⟩) ∧ Value.int .i64 0 = Value.int .i64 0 ∧
    Hid (Cut13 W (y2.alloc (Obj.cells #[Value.string E.path, Value.int .i64 E.rev, Value.int .i64 E.key, Value.int .i64 E.draw, Value.string E.sealed, Value.bool E.gone] 65)) F b X M E) :=
  ⟨_, rfl, rfl, hx.alloc _, hk.trans ((Low.refl _ y2).alloc (Nat.le_refl _) _).kept (fun _ f => f) (fun _ _ f => f.elim), hk.size, Blk.new y2 65 E.cells⟩
theorem Kept.set {G : Nat → Prop} {w w' : World} (h : Kept G w w') {a : Addr} (ha : w.heap.size ≤ a.block) (v : Value) : Kept G w (w'.setCell a v) :=
  h.trans (setCell_kept w' a v) (fun _ f => f) (fun q hq e => by omega)
theorem xin_other {w : World} (h : XIn w F b X) {a : Addr} (ha : ¬ F a.block) (v : Value) : XIn (w.setCell a v) F b X :=
  h.kept (setCell_kept w a v) (fun i hi e => ha (by rw [← show i = a.block from e]; exact hi))
theorem cut13_B {W y2 : World} {E : Ent} (hx : XIn y2 F b X) (hk : Kept F W y2) (hn : ¬ F W.heap.size) (z : Blk y2 W.heap.size 65 Ent.zero.cells) : ∃ M, Value.pointer (some ⟨W.heap.size, 0, none⟩) = Value.pointer (some ⟨M, 0, none⟩) ∧ Value.int .i64 0 = Value.int .i64 0 ∧
    Hid (Cut13 W ((((((y2.setCell ⟨W.heap.size, 0, none⟩ (Value.string E.path)).setCell ⟨W.heap.size, 1, none⟩ (Value.int .i64 E.rev)).setCell ⟨W.heap.size, 2, none⟩ (Value.int .i64 E.key)).setCell ⟨W.heap.size, 3, none⟩ (Value.int .i64 E.draw)).setCell ⟨W.heap.size, 4, none⟩ (Value.string E.sealed)).setCell ⟨W.heap.size, 5, none⟩ (Value.bool E.gone)) F b X M E) :=
  ⟨_, rfl, rfl, xin_other (xin_other (xin_other (xin_other (xin_other (xin_other hx hn _) hn _) hn _) hn _) hn _) hn _, (((((hk.set (Nat.le_refl _) _).set (Nat.le_refl _) _).set (Nat.le_refl _) _).set (Nat.le_refl _) _).set (Nat.le_refl _) _).set (Nat.le_refl _) _, Nat.le_refl _, (((((z.set 0 _).set 1 _).set 2 _).set 3 _).set 4 _).set 5 _⟩
theorem pmoves_stop {T : ByteArray} {m : Int} {n : Nat} {Z : PS} (hn : 0 < n) (hf : ((pFirst Z).e.rev != 0) = false) : pMoves T m n Z = (Z, 0, 0) := by
  obtain ⟨t, rfl⟩ : ∃ t, n = t + 1 := ⟨n - 1, by omega⟩
  unfold pMoves
  simp [hf]
theorem pmoves_full {T : ByteArray} {m : Int} {n : Nat} {Z : PS} (hn : 0 < n) (hf : ((pFirst Z).e.rev != 0) = true) (hu : pFull Z = true) : pMoves T m n Z = (Z, 0, 11) := by
  obtain ⟨t, rfl⟩ : ∃ t, n = t + 1 := ⟨n - 1, by omega⟩
  unfold pMoves
  simp [hf, hu]
theorem pmoves_step {T : ByteArray} {m : Int} {n : Nat} {Z : PS} (hf : ((pFirst Z).e.rev != 0) = true) (hu : pFull Z = false) : pMoves T m (n + 1) Z = ((pMoves T m n (Z.pmove T m)).1, (pMoves T m n (Z.pmove T m)).2.1 + 1, (pMoves T m n (Z.pmove T m)).2.2) := by
  conv => lhs; unfold pMoves
  simp [hf, hu]
/-- How far the moves have come: i of n are made, Z is what they left. -/
def PMig (X Z : PS) (T : ByteArray) (m : Int) (n i : Nat) : Prop := pMoves T m n X = ((pMoves T m (n - i) Z).1, (pMoves T m (n - i) Z).2.1 + i, (pMoves T m (n - i) Z).2.2)
theorem PMig.step {Z : PS} {T : ByteArray} {m : Int} {n i : Nat} (h : PMig X Z T m n i) (hi : i < n) (hf : ((pFirst Z).e.rev != 0) = true) (hu : pFull Z = false) : PMig X (Z.pmove T m) T m n (i + 1) := by
  unfold PMig at *
  rw [h, show n - i = (n - (i + 1)) + 1 by omega, pmoves_step hf hu]
  refine Prod.ext rfl (Prod.ext ?_ rfl)
  show (pMoves T m (n - (i + 1)) (Z.pmove T m)).2.1 + 1 + i = (pMoves T m (n - (i + 1)) (Z.pmove T m)).2.1 + (i + 1)
  omega
set_option maxRecDepth 100000 in
set_option maxHeartbeats 4000000 in
theorem pMigrate_any (w : World) (n j : Nat) (P : PKey) (G : Nat → PS → Prop) (h : XIn w F b X) (h0 : ¬ F 0 ∨ ((pFirst X).e.rev != 0) = false) (hn : n ≤ 20) (hg : pProm X = true) (hP : X.keys[j]? = some P) (hj6 : j ≤ 6) (hT : P.text.size = 48) (hw : X.write = (j : Int) + 1) (hF : Fours w) (h1 : 1 ≤ w.heap.size)
    (hG0 : G 0 X) (hok : ∀ i Z, G i Z → MOk X Z) (hst : ∀ i Z, G i Z → i < n → ((pFirst Z).e.rev != 0) = true → pFull Z = false → G (i + 1) (Z.pmove P.text ((j : Int) + 1))) :
    Calls Tryd.prog 63 #[.pointer (some ⟨b, 0, none⟩), .int .i64 (n : Int)] w fun e w' => e = .returned (.tuple #[.int .i64 ((pMoves P.text ((j : Int) + 1) n X).2.1 : Int), .int .i64 (pMoves P.text ((j : Int) + 1) n X).2.2]) ∧ ∃ F', XIn w' F' b (pMoves P.text ((j : Int) + 1) n X).1 ∧ Kept F w w' ∧ ∀ k, F' k → F k ∨ w.heap.size ≤ k := by
  have HR := hid h
  have HG := hid hg
  have HP := hid hP
  have HT := hid hT
  have HW := hid hw
  have HF := hid hF
  have H0 := hid h0
  have HOK := hid hok
  have HST := hid hst
  have HG0 := hid hG0
  have q1 : decide ((n : Int) < 0) = false := by simp
  have q2 : decide ((20 : Int) < (n : Int)) = false := by simp; omega
  clear h hg hP hT hw hF h0 hok hst hG0
  go_enter Tryd.func63, Tryd.ntmps63
  go_wp2_with (go_at_call 64; refine (isPromoted_any _ HR.out).mono ?_; rw [HG.out]; rintro e y1 ⟨rfl, hy⟩; obtain rfl := hy.symm)
  go_loopg [6] n (fun left iv wr => ∃ i : Nat, left = n - i ∧ i ≤ n ∧ iv = .int .i64 (i : Int) ∧ Hid (∃ Z F', (¬ F 0 ∨ Z = X) ∧ Fours wr ∧ G i Z ∧ PMig X Z P.text ((j : Int) + 1) n i ∧ XIn wr F' b Z ∧ Kept F w wr ∧ ∀ k, F' k → F k ∨ w.heap.size ≤ k))
  case atStart => exact ⟨0, rfl, Nat.zero_le _, rfl, X, F, Or.inr rfl, HF.out, HG0.out, rfl, HR.out, Kept.refl _ _, fun _ f => Or.inl f⟩
  case round =>
    obtain ⟨i, hgk, hi, rfl, HI⟩ := hrel
    have HGK := hid hgk
    clear hgk
    obtain ⟨Z, F', hzx, hf4, hGZ, hM, hR, hKp, hFF⟩ := HI.out
    have ZX := hid hzx
    have F4 := hid hf4
    have GZ := hid hGZ
    have MZ := hid hM
    have RZ := hid hR
    have KZ := hid hKp
    have FZ := hid hFF
    have OZ := hid (HOK.out i Z hGZ)
    have hwr : 1 ≤ wr.heap.size := Nat.le_trans h1 hKp.size
    clear hGZ hM hR hKp hFF HI hzx hf4
    by_cases h3 : i < n
    · have q3 : decide ((i : Int) < (n : Int)) = true := by simp; omega
      obtain ⟨f, hf⟩ : ∃ f, f = pFirst Z := ⟨_, rfl⟩
      have HFI := hid hf
      clear hf
      cases qf : (f.e.rev == 0)
      · have hne : Hid (((pFirst Z).e.rev != 0) = true) := by
          show _ = _
          rw [← HFI.out]; unfold bne; rw [qf]; rfl
        obtain ⟨fu, hfu⟩ : ∃ fu, fu = pFull Z := ⟨_, rfl⟩
        have HFU := hid hfu
        clear hfu
        cases qu : fu
        · have hnf : Hid (pFull Z = false) := by show _ = _; rw [← HFU.out]; exact qu
          obtain ⟨hp1, hp2⟩ := OZ.out.fst (by simpa using hne.out)
          rw [← HFI.out] at hp1 hp2
          have HP1 := hid hp1
          have HP2 := hid hp2
          obtain ⟨E, hE⟩ : ∃ E, closedOf P.text ((j : Int) + 1) f.e.path f.text (Z.draws + 1) = E := ⟨_, rfl⟩
          have HEQ := hid hE
          have HZK : Hid (Z.keys[j]? = some P) := by show _ = _; rw [OZ.out.keys]; exact HP.out
          have HZW : Hid (Z.write = (j : Int) + 1) := by show _ = _; rw [OZ.out.write]; exact HW.out
          clear hE hp1 hp2
          go_upto_region 13 with (first | (go_at_call 82; refine (firstOld_any (X := Z) _ RZ.out OZ.out.ents OZ.out.ek F4.out hwr).mono ?_; rw [← HFI.out]; rintro e y1 ⟨rfl, l1⟩; have L1 := hid l1; clear l1) | ((with_reducible refine st50 (.tmp 7) (.tmp 28) y1.heap.size Ent.zero f.e ?_ ?_ ?_ ?_); rfl; rfl; exact (Blk.new y1 65 Ent.zero.cells); intro W b2 k2 s2; have B2 := hid b2; have m1 : W.cell? ⟨y1.heap.size, 1, none⟩ = some (.int .i64 f.e.rev) := b2.cell 1; have LW : Hid (Low wr.heap.size wr W) := low_set (L1.out.alloc L1.out.size _) k2 L1.out.size (by have := L1.out.size; simp; omega); clear b2 k2 s2) | (go_at_call 80; refine (pfull_any (X := Z) _ (by exact RZ.out.low LW.out)).mono ?_; rw [← HFU.out, qu]; rintro e V ⟨rfl, l3⟩; have L3 : Hid (Low wr.heap.size wr V) := LW.out.trans (l3.mono LW.out.size); have B3 : Hid (Blk V y1.heap.size 65 f.e.cells) := B2.out.low l3 B2.out.lt; clear l3 m1))
          have RV : Hid (XIn V F' b Z) := RZ.out.low L3.out
          have F4V : Hid (Fours V) := F4.out.later (L3.out.mono hwr)
          have hV : 1 ≤ V.heap.size := Nat.le_trans hwr L3.out.size
          have KV : Hid (Kept F w V) := KZ.out.trans L3.out.kept (fun _ f => f) (fun _ _ f => f.elim)
          have c3 : V.cell? ⟨b, 3, none⟩ = some (.int .i64 ((j : Int) + 1)) := by rw [xin_write RV.out, HZW.out]
          have m0 : V.cell? ⟨y1.heap.size, 0, none⟩ = some (.string f.e.path) := B3.out.cell 0
          have lb := RV.out.lt
          have lm := B3.out.lt
          have nF : Hid (¬ F' V.heap.size) := fun hq => by have := RV.out.below _ hq; omega
          go_cut [9, 10] (fun mv ev wc => ∃ M, mv = .pointer (some ⟨M, 0, none⟩) ∧ ev = .int .i64 0 ∧ Hid (Cut13 V wc F' b { Z with draws := Z.draws + 1 } M E))
          case first =>
            go_region_with (first | (go_at_call 78; refine (sealed_lit (X := Z) _ f.e.path f.text P j (by exact RV.out.drew) HZK.out hj6 HT.out HP1.out HP2.out OZ.out.draws (by exact F4V.out.later (Low.refl 1 V).drew) (by exact hV) E HEQ.out).mono ?_; rintro e y2 ⟨rfl, r2, k2⟩; have R2 := hid r2; have K2 : Hid (Kept F' V y2) := (Kept.refl F' V).drew.trans k2 (fun _ f => f) (fun _ _ f => f); clear r2 k2) | (go_at_call 78; refine (sealed_lit (X := Z) _ f.e.path f.text P j (by exact (RV.out.alloc _).drew) HZK.out hj6 HT.out HP1.out HP2.out OZ.out.draws (by exact F4V.out.later ((Low.refl 1 V).alloc hV _).drew) (by exact Nat.le_trans hV ((Low.refl 1 V).alloc hV _).drew.size) E HEQ.out).mono ?_; rintro e y2 ⟨rfl, r2, k2⟩; have R2 := hid r2; have K2 : Hid (Kept F' V y2) := (((Low.refl _ V).alloc (Nat.le_refl _) _).kept.mono (fun _ _ f => f.elim)).drew.trans k2 (fun _ f => f) (fun _ _ f => f); have bz : Blk y2 V.heap.size 65 Ent.zero.cells := (Blk.new V 65 Ent.zero.cells).drew.kept k2 nF.out; have z0 : y2.cell? ⟨V.heap.size, 0, none⟩ = some (.string ⟨#[]⟩) := bz.cell 0; have z1 : y2.cell? ⟨V.heap.size, 1, none⟩ = some (.int .i64 0) := bz.cell 1; have z2 : y2.cell? ⟨V.heap.size, 2, none⟩ = some (.int .i64 0) := bz.cell 2; have z3 : y2.cell? ⟨V.heap.size, 3, none⟩ = some (.int .i64 0) := bz.cell 3; have z4 : y2.cell? ⟨V.heap.size, 4, none⟩ = some (.string ⟨#[]⟩) := bz.cell 4; have z5 : y2.cell? ⟨V.heap.size, 5, none⟩ = some (.bool false) := bz.cell 5; have g0 := bz.frozen 0; have g1 := bz.frozen 1; have g2 := bz.frozen 2; have g3 := bz.frozen 3; have g4 := bz.frozen 4; have g5 := bz.frozen 5; have BZ := hid bz; clear r2 k2 bz))
            all_goals
              go_wp2_with fail
              go_meet
            all_goals first | exact cut13_B R2.out K2.out nF.out BZ.out | exact cut13_A R2.out K2.out
          case rest =>
            obtain ⟨M, rfl, rfl, HC⟩ := hcut
            clear c3 m0
            go_wp2_with (first | ((with_reducible refine ld50 (.tmp 9) M 0 E ?_ HC.out.blk.whole ?_); rfl) | (go_at_call 58; refine (add_any (X := { Z with draws := Z.draws + 1 }) _ E HC.out.x OZ.out.ents OZ.out.rev).mono ?_; rintro e y5 ⟨rfl, r5, k5⟩; have R5 := hid r5; have K5 := hid k5; clear r5 k5))
            go_roundg (n - (i + 1))
            case rel =>
              have hz : (({ Z with draws := Z.draws + 1 } : PS).add E) = Z.pmove P.text ((j : Int) + 1) := by
                unfold PS.add PS.pmove
                rw [← HFI.out, HEQ.out]
              have n0 : ¬ F 0 := by
                rcases ZX.out with q | q
                · exact q
                · rcases H0.out with r | r
                  · exact r
                  · have := hne.out
                    rw [q, r] at this
                    cases this
              have a2 : Kept F w wc := KV.out.trans HC.out.kept (fun _ f => f) (fun k hk f => (FZ.out k f).elim id (fun e => by omega))
              have a3 : Kept F w y5 := a2.trans K5.out (fun _ f => f) (fun k hk f => (FZ.out k f).elim id (fun e => by omega))
              refine ⟨i + 1, rfl, by omega, by simp, Z.pmove P.text ((j : Int) + 1), grow F' wc y5, Or.inl n0, HF.out.kept h1 a3 n0, HST.out i Z GZ.out h3 hne.out hnf.out, MZ.out.step h3 hne.out hnf.out, ?_, ?_, ?_⟩
              · rw [← hz]; exact R5.out
              · exact a3
              · intro k hk
                rcases hk with hk | hk
                · exact FZ.out k hk
                · have b1 := KV.out.size
                  have b2 := HC.out.kept.size
                  exact Or.inr (by omega)
            case measure => have := HGK.out; omega
        · have hnf : Hid (pFull Z = true) := by show _ = _; rw [← HFU.out]; exact qu
          go_wp2_with (first | (go_at_call 82; refine (firstOld_any (X := Z) _ RZ.out OZ.out.ents OZ.out.ek F4.out hwr).mono ?_; rw [← HFI.out]; rintro e y1 ⟨rfl, l1⟩; have L1 := hid l1; clear l1) | ((with_reducible refine st50 (.tmp 7) (.tmp 28) y1.heap.size Ent.zero f.e ?_ ?_ ?_ ?_); rfl; rfl; exact (Blk.new y1 65 Ent.zero.cells); intro W b2 k2 s2; have m1 : W.cell? ⟨y1.heap.size, 1, none⟩ = some (.int .i64 f.e.rev) := b2.cell 1; have LW : Hid (Low wr.heap.size wr W) := low_set (L1.out.alloc L1.out.size _) k2 L1.out.size (by have := L1.out.size; simp; omega); clear b2 k2 s2) | (go_at_call 80; refine (pfull_any (X := Z) _ (by exact RZ.out.low LW.out)).mono ?_; rw [← HFU.out, qu]; rintro e V ⟨rfl, l3⟩; have L3 : Hid (Low wr.heap.size wr V) := LW.out.trans (l3.mono LW.out.size); clear l3))
          go_ret2
          have hm := MZ.out
          unfold PMig at hm
          rw [hm, pmoves_full (by omega) hne.out hnf.out]
          exact ⟨by simp, F', RZ.out.low L3.out, KZ.out.trans L3.out.kept (fun _ f => f) (fun _ _ f => f.elim), FZ.out⟩
      · have hne : Hid (((pFirst Z).e.rev != 0) = false) := by
          show _ = _
          rw [← HFI.out]; unfold bne; rw [qf]; rfl
        go_wp2_with (first | (go_at_call 82; refine (firstOld_any (X := Z) _ RZ.out OZ.out.ents OZ.out.ek F4.out hwr).mono ?_; rw [← HFI.out]; rintro e y1 ⟨rfl, l1⟩; have L1 := hid l1; clear l1) | ((with_reducible refine st50 (.tmp 7) (.tmp 28) y1.heap.size Ent.zero f.e ?_ ?_ ?_ ?_); rfl; rfl; exact (Blk.new y1 65 Ent.zero.cells); intro W b2 k2 s2; have m1 : W.cell? ⟨y1.heap.size, 1, none⟩ = some (.int .i64 f.e.rev) := b2.cell 1; have LW : Hid (Low wr.heap.size wr W) := low_set (L1.out.alloc L1.out.size _) k2 L1.out.size (by have := L1.out.size; simp; omega); clear b2 k2 s2))
        go_ret2
        have hm := MZ.out
        unfold PMig at hm
        rw [hm, pmoves_stop (by omega) hne.out]
        exact ⟨by simp, F', RZ.out.low LW.out, KZ.out.trans LW.out.kept (fun _ f => f) (fun _ _ f => f.elim), FZ.out⟩
    · have q3 : decide ((i : Int) < (n : Int)) = false := by simp; omega
      go_wp2_with fail
      go_ret2
      obtain rfl : i = n := by omega
      have hm := MZ.out
      unfold PMig at hm
      rw [hm, Nat.sub_self]
      exact ⟨by simp [pMoves], F', RZ.out, KZ.out, FZ.out⟩
end Go.Proofs.YtphapknfkbgapabDoor
namespace Go.Proofs.YtphapknfkbgapabDoor
open Go.RowKit

/-! What the program's Migrate takes next, and that it is what is due: plain data. -/

variable {X : PS} {Y : RS} {n : Nat}
theorem kept_mem {x : Ent} {l : List RKept} (h : x ∈ keptOf l) : ∃ k ∈ l, k.e = x ∧ k.out = false := by
  obtain ⟨k, hk, rfl⟩ := List.mem_map.1 h
  obtain ⟨h1, h2⟩ := List.mem_filter.1 hk
  exact ⟨k, h1, rfl, by simpa using h2⟩
theorem Rel2.ekey (h : Rel2 n X Y) {x : Ent} (hx : x ∈ X.entries) (hg : x.gone = false) : ∃ j P, EKey X x j P ∧ pOpened (pKeyAt X.keys x.key) x = openedOf (keyAt Y.keys x.key) x Y.epoch := by
  rw [h.ent] at hx
  obtain ⟨k, hk, rfl, ho⟩ := kept_mem hx
  obtain ⟨ok1, j, K, ok2, ok3, ok4⟩ := h.eok k hk hg
  have hKg := ok4 ho
  have hjl : j < Y.keys.length := (List.getElem?_eq_some_iff.1 ok3).1
  have hj6 : j ≤ 6 := by have := h.keys.few.2; omega
  obtain ⟨P, hP⟩ : ∃ P, X.keys[j]? = some P := ⟨_, List.getElem?_eq_getElem (by rw [h.keys.len]; exact hjl)⟩
  have hks := h.keys.same j P K hP ok3
  have htx := hks.text hKg
  have hsz : P.text.size = 48 := by rw [htx]; exact hks.size
  refine ⟨j, P, ⟨ok1, ok2, hP, hj6, hsz⟩, ?_⟩
  rw [pKeyAt_eq hP ok2, keyAt_eq ok3 ok2]
  have hc := h.keys.came j K ok3
  have hd : decide (Y.epoch < K.came) = false := by simp; omega
  unfold pOpened openedOf
  rw [keyGone_no hsz, hKg, htx, hd]
  simp only [Bool.false_eq_true, if_false]
theorem Rel2.newest (h : Rel2 n X Y) (p : ByteArray) : newestOf X.entries p X.rev = (lastOf Y.all p).getD Ent.zero := by
  rw [h.ent, h.rev]; exact newest_all p Y.all h.revs
theorem same_rev {l : List RKept} (h : Revs l) {a c : RKept} (ha : a ∈ l) (hc : c ∈ l) (he : a.e.rev = c.e.rev) : a = c := by
  obtain ⟨i, hi⟩ := List.getElem?_of_mem ha
  obtain ⟨j, hj⟩ := List.getElem?_of_mem hc
  have e1 := h i a hi
  have e2 := h j c hj
  have : i = j := by omega
  subst this
  exact Option.some.inj (hi.symm.trans hj)
/-- An entry that is kept is passed by just if it does not move. -/
theorem Rel2.pass (h : Rel2 n X Y) {x : Ent} (hx : x ∈ X.entries) : (pPass X x = true → ∀ s, ¬ Moves Y X.write x x s) ∧ (pPass X x = false → x = (lastOf Y.all x.path).getD Ent.zero ∧ x.gone = false ∧ x.key ≠ X.write) := by
  have hx2 := hx
  rw [h.ent] at hx2
  obtain ⟨k, hk, hkx, ho⟩ := kept_mem hx2
  unfold pPass pOld
  rw [h.newest]
  refine ⟨fun hp s q => ?_, fun hp => ?_⟩
  · rw [Bool.or_eq_true] at hp
    rcases hp with hp | hp
    · rw [← q.newest] at hp
      simp at hp
    · rw [q.there] at hp
      have := q.old
      simp at hp
      exact this hp
  · rw [Bool.or_eq_false_iff] at hp
    obtain ⟨h1, h2⟩ := hp
    have h1 : x.rev = ((lastOf Y.all x.path).getD Ent.zero).rev := by simpa using h1
    have h2 : x.gone = false ∧ x.key ≠ X.write := by
      cases hg : x.gone
      · rw [hg] at h2
        exact ⟨rfl, by simpa using h2⟩
      · rw [hg] at h2
        simp at h2
    obtain ⟨k2, hk2, hl⟩ := last_some hx2
    rw [hl] at h1 ⊢
    refine ⟨?_, h2⟩
    have : k = k2 := same_rev h.revs hk hk2 (by rw [hkx]; exact h1)
    rw [← hkx, this]
    rfl
structure FstSpec (Y : RS) (m : Int) (l : List Ent) (f : Fst) : Prop where
  no : f.e.rev = 0 → ∀ x ∈ l, ∀ s, ¬ Moves Y m x x s
  yes : f.e.rev ≠ 0 → f.e ∈ l ∧ Moves Y m f.e f.e f.text
  least : f.e.rev ≠ 0 → ∀ x ∈ l, ∀ s, Moves Y m x x s → beforeOf x.path f.e.path = false
theorem first_spec (h : Rel2 n X Y) (l : List Ent) : (∀ x ∈ l, x ∈ X.entries) → FstSpec Y X.write l (l.foldl (pStep X) fst0) := by
  refine snoc_ind (P := fun l => (∀ x ∈ l, x ∈ X.entries) → FstSpec Y X.write l (l.foldl (pStep X) fst0)) ?_ ?_ l
  · intro _
    exact ⟨fun _ x hx => (by simp at hx), fun h => absurd rfl h, fun h => absurd rfl h⟩
  · intro l x ih hl
    have ih := ih (fun y hy => hl y (List.mem_append_left _ hy))
    have hx : x ∈ X.entries := hl x (by simp)
    rw [List.foldl_append]
    show FstSpec Y X.write (l ++ [x]) (pStep X (l.foldl (pStep X) fst0) x)
    obtain ⟨f, hf⟩ : ∃ f, f = l.foldl (pStep X) fst0 := ⟨_, rfl⟩
    rw [← hf] at ih ⊢
    have hx0 : x.rev ≠ 0 := by
      rw [h.ent] at hx
      obtain ⟨k, hk, rfl, _⟩ := kept_mem hx
      obtain ⟨i, hi⟩ := List.getElem?_of_mem hk
      have := h.revs i k hi
      omega
    have same : (∀ s, ¬ Moves Y X.write x x s) → FstSpec Y X.write (l ++ [x]) f := fun hno => by
      refine ⟨fun h0 y hy s q => ?_, fun h0 => ?_, fun h0 y hy s q => ?_⟩
      · rcases List.mem_append.1 hy with hy | hy
        · exact ih.no h0 y hy s q
        · obtain rfl := List.mem_singleton.1 hy; exact hno s q
      · exact ⟨List.mem_append_left _ (ih.yes h0).1, (ih.yes h0).2⟩
      · rcases List.mem_append.1 hy with hy | hy
        · exact ih.least h0 y hy s q
        · obtain rfl := List.mem_singleton.1 hy; exact absurd q (hno s)
    unfold pStep
    by_cases hs : pSkip f x = true
    · rw [if_pos hs]
      unfold pSkip at hs
      rw [Bool.and_eq_true] at hs
      have h0 : f.e.rev ≠ 0 := by simpa using hs.1
      have hb : beforeOf x.path f.e.path = false := by rw [before_string]; simpa using hs.2
      refine ⟨fun h1 => absurd h1 h0, fun _ => ⟨List.mem_append_left _ (ih.yes h0).1, (ih.yes h0).2⟩, fun _ y hy s q => ?_⟩
      rcases List.mem_append.1 hy with hy | hy
      · exact ih.least h0 y hy s q
      · obtain rfl := List.mem_singleton.1 hy; exact hb
    · rw [if_neg hs]
      obtain ⟨p1, p2⟩ := h.pass hx
      by_cases hp : pPass X x = true
      · rw [if_pos hp]
        exact same (p1 hp)
      · rw [if_neg hp]
        obtain ⟨n1, n2, n3⟩ := p2 (by simpa using hp)
        obtain ⟨j, P, _, hO⟩ := h.ekey hx n2
        rw [hO]
        obtain ⟨O, hOe⟩ : ∃ O, O = openedOf (keyAt Y.keys x.key) x Y.epoch := ⟨_, rfl⟩
        rw [← hOe]
        unfold pTake
        by_cases h0 : (O.2 == 0) = true
        · rw [if_pos h0]
          have hm : Moves Y X.write x x O.1 := ⟨n1, n2, n3, by rw [← hOe, ← (by simpa using h0 : O.2 = 0)]⟩
          refine ⟨fun h1 => absurd h1 hx0, fun _ => ⟨by simp, hm⟩, fun _ y hy s q => ?_⟩
          show beforeOf y.path x.path = false
          rcases List.mem_append.1 hy with hy | hy
          · by_cases hz : f.e.rev = 0
            · exact absurd q (ih.no hz y hy s)
            · have hb : beforeOf x.path f.e.path = true := by
                rw [before_string]
                unfold pSkip at hs
                have hz2 : (f.e.rev != 0) = true := by rw [bne_iff_ne]; exact hz
                rw [hz2, Bool.true_and] at hs
                simpa using hs
              have hl2 := ih.least hz y hy s q
              cases hq : beforeOf y.path x.path
              · rfl
              · have := before_trans _ _ _ hq hb
                unfold beforeOf at hl2
                rw [this] at hl2
                cases hl2
          · obtain rfl := List.mem_singleton.1 hy
            exact before_irrefl _
        · rw [if_neg h0]
          refine same (fun s q => ?_)
          have := q.opens
          rw [← hOe] at this
          exact h0 (by rw [this]; rfl)
/-- The program's choice is what is due. -/
theorem first_due (h : Rel2 n X Y) : ((pFirst X).e.rev != 0) = (dueOf Y).found ∧ ((dueOf Y).found = true → (pFirst X).e.path = (dueOf Y).name ∧ (pFirst X).text = (dueOf Y).text) := by
  have hs : FstSpec Y X.write X.entries (pFirst X) := first_spec h X.entries (fun _ hx => hx)
  have hd := dueOf_spec Y
  rw [← h.write] at hd
  have self : ∀ x ∈ keptOf Y.all, ∀ E s, Moves Y X.write x E s → E ∈ keptOf Y.all ∧ Moves Y X.write E E s := fun x hx E s q => by
    obtain ⟨k, _, hk⟩ := last_some hx
    have hE : E = k.e := by rw [q.newest, hk]; rfl
    obtain ⟨k2, hk2, e1, e2, e3⟩ := lastOf_mem hk
    refine ⟨List.mem_map.2 ⟨k2, List.mem_filter.2 ⟨hk2, by simp [e2]⟩, by rw [e1, hE]⟩, ⟨?_, q.there, q.old, q.opens⟩⟩
    rw [last_path (l := Y.all) (p := E.path) (q := x.path) (by rw [hE]; exact e3)]
    exact q.newest
  have hF : DueSpec Y X.write (keptOf Y.all) ⟨(pFirst X).e.path, (pFirst X).text, (pFirst X).e.rev != 0⟩ := by
    refine ⟨fun hf x hx E s q => ?_, fun hf => ?_, fun hf x hx E s q => ?_⟩
    · obtain ⟨a1, a2⟩ := self x hx E s q
      exact hs.no (by simpa using hf) E (by rw [h.ent]; exact a1) s a2
    · obtain ⟨a1, a2⟩ := hs.yes (by simpa using hf)
      exact ⟨_, by rw [← h.ent]; exact a1, _, a2, rfl⟩
    · obtain ⟨a1, a2⟩ := self x hx E s q
      exact hs.least (by simpa using hf) E (by rw [h.ent]; exact a1) s a2
  have e : ((pFirst X).e.rev != 0) = (dueOf Y).found := by
    cases q1 : ((pFirst X).e.rev != 0)
    · cases q2 : (dueOf Y).found
      · rfl
      · obtain ⟨x, hx, E, m, _⟩ := hd.yes q2
        exact absurd m (hF.no q1 x hx E _)
    · cases q2 : (dueOf Y).found
      · obtain ⟨x, hx, E, m, _⟩ := hF.yes q1
        exact absurd m (hd.no q2 x hx E _)
      · rfl
  refine ⟨e, fun hf => ?_⟩
  rw [h.write] at hF hd
  exact due_only hF hd (by rw [← e] at hf; exact hf) hf
theorem pFull_same (h : Rel2 n X Y) : pFull X = fullOf Y := by
  unfold pFull fullOf
  rw [h.room, h.ent]
theorem pmove_same (h : Rel2 n X Y) (K : RKey) (m : Int) (hf : (dueOf Y).found = true) : X.pmove K.text m = X.moved (moveEnt Y K m) := by
  obtain ⟨_, e⟩ := first_due h
  obtain ⟨e1, e2⟩ := e hf
  unfold PS.pmove PS.moved moveEnt
  rw [e1, e2, h.rev, h.draws.1]
theorem moves_same (t : Nat) : ∀ (n : Nat) (X : PS) (Y : RS), Rel2 n X Y → n + t ≤ 50000000000000 → ∀ (j : Nat) (K : RKey), writesOf Y.keys Y.epoch = (j : Int) + 1 → Y.keys[j]? = some K →
    (pMoves K.text ((j : Int) + 1) t X).2 = (moves K ((j : Int) + 1) t Y).2 ∧ Rel2 (n + t) (pMoves K.text ((j : Int) + 1) t X).1 (moves K ((j : Int) + 1) t Y).1 := by
  induction t with
  | zero => intro n X Y h _ j K _ _; exact ⟨rfl, h⟩
  | succ t ih =>
    intro n X Y h hn j K hj hK
    obtain ⟨e, _⟩ := first_due h
    unfold pMoves moves
    rw [e, pFull_same h]
    cases hf : (dueOf Y).found
    · exact ⟨rfl, h.mono (by omega)⟩
    · cases hu : fullOf Y
      · have hr := rel_move h (by omega) hj hK hf hu
        rw [pmove_same h K _ hf]
        obtain ⟨a1, a2⟩ := ih (n + 1) _ _ hr (by omega) j K hj hK
        refine ⟨?_, ?_⟩
        · show ((pMoves K.text ((j : Int) + 1) t (X.moved (moveEnt Y K ((j : Int) + 1)))).2.1 + 1, (pMoves K.text ((j : Int) + 1) t (X.moved (moveEnt Y K ((j : Int) + 1)))).2.2) = ((moves K ((j : Int) + 1) t (Y.move K ((j : Int) + 1))).2.1 + 1, (moves K ((j : Int) + 1) t (Y.move K ((j : Int) + 1))).2.2)
          rw [a1]
        · exact a2.mono (by omega)
      · exact ⟨rfl, h.mono (by omega)⟩
end Go.Proofs.YtphapknfkbgapabDoor
