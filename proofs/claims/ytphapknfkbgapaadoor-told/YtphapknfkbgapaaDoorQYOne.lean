import Derived.Test.YtphapknfkbgapaaDoorQTToQV
import Derived.Test.YtphapknfkbgapaaDoorPlJOne
namespace Go.Proofs.YtphapknfkbgapaaDoor
open Go.RowKit

variable {N : ByteArray → Prop} {G : Nat → Prop} {b bx S n : Nat} {R : Int} {key : ByteArray} {X : PS} {D : PD} {Q : Pods}

/-! Told. -/
theorem SeenKept.known {X' : PS} (h : SeenKept X X') (hx : ∀ t, t < S → ∃ p, X.servers[t]? = some p ∧ p.seen ≠ 0) : ∀ t, t < S → ∃ p, X'.servers[t]? = some p ∧ p.seen ≠ 0 := fun t ht => by
  obtain ⟨p, a, c⟩ := hx t ht
  obtain ⟨p', a', e⟩ := h t p a
  exact ⟨p', a', by rw [e]; exact c⟩
theorem Compd.srv {X' : PS} {D' : PD} (h : Compd N n X X' D D' S R) : X'.servers = X.servers ∧ X'.epoch = X.epoch := by
  rcases h.x with e | ⟨_, e⟩ <;> rw [e] <;> exact ⟨rfl, rfl⟩
theorem FreshAt.same {X' : PS} {t : Nat} (h : FreshAt X t) (a : X'.servers = X.servers) (c : X'.epoch = X.epoch) : FreshAt X' t := by
  obtain ⟨p, h1, h2, h3⟩ := h
  exact ⟨p, by rw [a]; exact h1, h2, by rw [c]; exact h3⟩
def toldAct (t : ByteArray) : AAct := ⟨0, 0, -1, 0, ⟨#[97]⟩, t, false⟩
theorem toldAct_ok (t : ByteArray) (ht : t.size ≤ 140737488355328) : AOk (toldAct t) := by
  have z : i64 0 := ⟨by decide, by decide⟩
  have m : i64 (-1) := ⟨by decide, by decide⟩
  exact ⟨z, z, m, z, by show (1 : Nat) ≤ _; decide, ht⟩
set_option maxRecDepth 100000 in
set_option maxHeartbeats 2000000 in
theorem told_walk (w : World) (sv rm : Int) (ky : ByteArray) (a : Option Addr) (cap : Nat) (acts : List AAct) (t : ByteArray) (hs : i64 sv) (hr : i64 rm) (hsc : ScriptA w a acts) (hn : acts.length ≤ 1954687338268) (ht : t.size ≤ 140737488355328) (hF : Fours w) (h1 : 1 ≤ w.heap.size) :
    Calls Tryd.prog 7 #[.agg #[.int .i64 sv, .int .i64 rm, .string ky], .slice a acts.length cap, .string t] w fun e w' => e = .returned (.bool true) ∧ Low w.heap.size w w' := by
  have HS := hid hs
  have HR := hid hr
  have H1 := hid h1
  have HN := hid hn
  have HT := hid (toldAct_ok t ht)
  have BA : Hid (Blk (w.alloc (.cells (cfgL sv rm ky).toArray 35)) w.heap.size 35 (cfgL sv rm ky)) := Blk.new w 35 (cfgL sv rm ky)
  have LA : Hid (Low w.heap.size w (w.alloc (.cells (cfgL sv rm ky).toArray 35))) := (Low.refl _ w).alloc (Nat.le_refl _) _
  have F2 : Hid (Fours (w.alloc (.cells (cfgL sv rm ky).toArray 35))) := fours_low hF h1 LA.out
  have HSC := hid (hsc.low LA.out)
  clear hs hr hF h1 hsc hn ht
  go_enter Tryd.func7, Tryd.ntmps7
  go_upto_region 4 with (first | ((with_reducible refine ldC (.tmp 3) w.heap.size 0 sv rm ky ?_ BA.out.whole ?_); rfl) | (go_at_call 19; refine (playedQ _ sv rm ky a cap acts HS.out HR.out HSC.out HN.out F2.out (by simp)).mono ?_; rintro e y1 ⟨b, bx, S, R, key, X, D, rfl, p1, l1⟩; have L1 : Hid (Low w.heap.size w y1) := LA.out.trans (l1.mono (by simp)); have J1 : Hid (JQ y1 (fun k => k < w.heap.size) b bx S R key X D D.pods) := p1.j.weak (fun k hk => by have hk : k < w.heap.size := hk; simp; omega) H1.out; have P1 := hid p1; clear p1 l1))
  go_upto_region 5 with (go_at_call 20; refine (refreshedQ _ J1.out P1.out.kn).mono ?_; rintro e y2 ⟨rfl, X2, D2, j2, r2, k2⟩; have J2 := hid j2; have R2 := hid r2; have K2 : Hid (Kept (fun k => ¬ k < w.heap.size) w y2) := (L1.out.kept.mono (G := fun k => ¬ k < w.heap.size) (fun _ _ f => f.elim)).trans k2 (fun _ f => f) (fun _ _ f => f); clear j2 r2 k2)
  have hd2 : Hid (D2.deeds.length ≤ 1990000000000) := by
    show _ ≤ _
    have := R2.out.kn.floor.2.2
    have := R2.out.kn.srv.2.1
    have := HN.out
    omega
  have hS4 : Hid (0 < S ∧ S ≤ 4) := ⟨R2.out.kn.srv.2.2, R2.out.kn.srv.2.1⟩
  go_upto_region 8 with (go_at_call 21; refine (knownQ _ J2.out R2.out.kn (by have := hd2.out; omega) R2.out.known).mono ?_; rintro e y3 ⟨rfl, j3, k3⟩; have J3 := hid j3; have K3 : Hid (Kept (fun k => ¬ k < w.heap.size) w y3) := K2.out.trans k3 (fun _ f => f) (fun _ _ f => f); clear j3 k3)
  go_upto_region 11 with (go_at_call 22; refine (compactedQ _ J3.out R2.out.kn).mono ?_; rintro e y4 ⟨rfl, X4, D4, j4, c4, k4⟩; have J4 := hid j4; have C4 := hid c4; have K4 : Hid (Kept (fun k => ¬ k < w.heap.size) w y4) := K3.out.trans k4 (fun _ f => f) (fun _ _ f => f); clear j4 c4 k4)
  have hl4 : Hid (D4.deeds.length = D2.deeds.length) := by show _ = _; rw [C4.out.d]
  have hf4 : Hid (D4.floor = (D4.deeds.length : Int)) := by show _ = _; rw [C4.out.d]
  have FR : Hid (FreshAt X4 0) := (R2.out.fresh 0 hS4.out.1).same C4.out.srv.1 C4.out.srv.2
  have KS4 : Hid (∀ t, t < S → ∃ p, X4.servers[t]? = some p ∧ p.seen ≠ 0) := by
    show ∀ t, t < S → _
    rw [C4.out.srv.1]; exact R2.out.known
  obtain ⟨Fq4, hq4, _⟩ := J4.out.q
  obtain ⟨a4, cap4, hc4, _⟩ := qin_deeds hq4
  rw [List.length_map] at hc4
  have lb4 := hq4.lt
  clear hq4
  go_upto_region 14 with fail
  clear hc4
  go_upto_region 15 with (go_at_call 23; refine (beginQ (s := 0) _ (toldAct t) HT.out J4.out C4.out.kn (by have := HN.out; have := hS4.out; omega) hS4.out.1 hS4.out.2 (by have := hd2.out; have := hl4.out; omega)).mono ?_; rintro e y5 ⟨rfl, X5, D5, j5, b5, k5⟩; have J5 := hid j5; have B5 := hid b5; have K5 : Hid (Kept (fun k => ¬ k < w.heap.size) w y5) := K4.out.trans k5 (fun _ f => f) (fun _ _ f => f); clear j5 b5 k5)
  have hl5 : Hid (D5.deeds.length = D4.deeds.length) := by show _ = _; rw [B5.out.2.1.1]
  have CS : Hid (CommitSure X5 D5 0) := by
    obtain ⟨bk, ⟨bd, bfl, _⟩, _, bf⟩ := B5.out
    obtain ⟨⟨p', g1, g2, g3, g4, g5⟩, v, g6, g7⟩ := bf FR.out
    have h6 := bk.six (by rw [bfl, hf4.out, bd])
    have hsm := bk.small
    exact ⟨⟨p', g1, g2, g3, g4 (show (-1 : Int) < 0 by decide), g5 (show (0 : Int) ≠ 2 by decide), by rw [hsm.2]; have := P1.out.room; omega⟩, v, g6, g7⟩
  clear lb4
  go_upto_region 18 with (go_at_call 24; refine (commitQ (s := 0) _ J5.out B5.out.1 (by have := HN.out; have := hS4.out; omega) hS4.out.1 hS4.out.2 (by have := hd2.out; have := hl4.out; have := hl5.out; omega)).mono ?_; rintro e y6 ⟨rfl, X6, D6, j6, c6, k6, s6, u6⟩; have J6 := hid j6; have C6 := hid c6; have U6 := hid (u6 CS.out); have S6 := hid s6; have K6 : Hid (Kept (fun k => ¬ k < w.heap.size) w y6) := K5.out.trans k6 (fun _ f => f) (fun _ _ f => f); clear j6 c6 k6 s6 u6)
  have hl6 : D6.deeds.length = D4.deeds.length + 1 := by have := U6.out; have := hl5.out; omega
  have KS6 : Hid (∀ t, t < S → ∃ p, X6.servers[t]? = some p ∧ p.seen ≠ 0) := S6.out.known (B5.out.2.2.1.known KS4.out)
  obtain ⟨Fq6, hq6, _⟩ := J6.out.q
  obtain ⟨a6, cap6, hc6, _⟩ := qin_deeds hq6
  rw [List.length_map, hl6] at hc6
  have lb6 := hq6.lt
  have HL6 := hid hl6
  have x0 : (D4.deeds.length : Int) + 1 < 9223372036854775808 := by have := hd2.out; have := hl4.out; omega
  have x1 : wrap64 ((D4.deeds.length : Int) + 1) = (D4.deeds.length : Int) + 1 := by unfold wrap64; omega
  clear hq6 hl6 x0
  go_upto_region 20 with fail
  clear hc6
  go_wp2_with (go_at_call 21; refine (knownQ _ J6.out C6.out.1 (by have := HL6.out; have := hd2.out; have := hl4.out; omega) KS6.out).mono ?_; rintro e y7 ⟨rfl, j7, k7⟩; have K7 : Hid (Kept (fun k => ¬ k < w.heap.size) w y7) := K6.out.trans k7 (fun _ f => f) (fun _ _ f => f); clear j7 k7)
  go_ret
  exact ⟨rfl, K7.out.os, K7.out.output, K7.out.size, fun k hk => K7.out.block k hk (fun f => f hk)⟩
end Go.Proofs.YtphapknfkbgapaaDoor
