import Derived.Test.YtphapknfkbgapaaGreatDoorTurKToPU
import Derived.Test.YtphapknfkbgapaaGreatDoorPIToPK
import Derived.Test.YtphapknfkbgapaaGreatDoorPPToTelH
namespace Go.Proofs.YtphapknfkbgapaaGreatDoor
open Go.RowKit

variable {F : Nat → Prop} {b : Nat} {X : PS}

/-! Migrate. -/
def PS.pmove (X : PS) (T : ByteArray) (m : Int) : PS := { X with draws := X.draws + 1, rev := X.rev + 1, entries := X.entries ++ [{ closedOf T m (pFirst X).e.path (pFirst X).text (X.draws + 1) with rev := X.rev + 1 }] }
/-- What n moves leave; how many were made; the answer. -/
def pMoves (T : ByteArray) (m : Int) : Nat → PS → PS × Nat × Int
  | 0, X => (X, 0, 0)
  | n + 1, X => if (pFirst X).e.rev != 0 then (if pFull X then (X, 0, 11) else ((pMoves T m n (X.pmove T m)).1, (pMoves T m n (X.pmove T m)).2.1 + 1, (pMoves T m n (X.pmove T m)).2.2)) else (X, 0, 0)
def pBadMove (n : Int) : Bool := decide (n < 0) || decide (20 < n)
theorem pMigrate_arg (w : World) (n : Int) (hn : pBadMove n = true) :
    Calls Tryz.prog 43 #[.pointer (some ⟨b, 0, none⟩), .int .i64 n] w fun e w' => e = .returned (.tuple #[.int .i64 0, .int .i64 2]) ∧ w' = w := by
  unfold pBadMove at hn
  cases q : decide (n < 0)
  · rw [q, Bool.false_or] at hn
    go_enter Tryz.func43, Tryz.ntmps43
    go_wp2
    go_ret2
    exact ⟨rfl, rfl⟩
  · clear hn
    go_enter Tryz.func43, Tryz.ntmps43
    go_wp2
    go_ret2
    exact ⟨rfl, rfl⟩
theorem pMigrate_turn (w : World) (n : Int) (h : XIn w F b X) (hn : pBadMove n = false) (hg : pProm X = false) :
    Calls Tryz.prog 43 #[.pointer (some ⟨b, 0, none⟩), .int .i64 n] w fun e w' => e = .returned (.tuple #[.int .i64 0, .int .i64 17]) ∧ w' = w := by
  unfold pBadMove at hn
  rw [Bool.or_eq_false_iff] at hn
  obtain ⟨q1, q2⟩ := hn
  have HR := hid h
  have HG := hid hg
  clear h hg
  go_enter Tryz.func43, Tryz.ntmps43
  go_wp2_with (go_at_call 84; refine (isPromoted_any _ HR.out).mono ?_; rw [HG.out]; rintro e y1 ⟨rfl, hy⟩; obtain rfl := hy.symm)
  go_ret2
  exact ⟨rfl, rfl⟩
/-- What a move asks of the coffer. -/
structure MOk (X Z : PS) : Prop where
  keys : Z.keys = X.keys
  write : Z.write = X.write
  ents : Z.entries.length ≤ 1000
  ek : ∀ x ∈ Z.entries, x.gone = false → ∃ j P, EKey Z x j P
  draws : 0 ≤ Z.draws ∧ Z.draws + 1 ≤ 1000000000000
  rev : 0 ≤ Z.rev ∧ Z.rev ≤ 1000000000000
  fst : (pFirst Z).e.rev ≠ 0 → (1 ≤ (pFirst Z).e.path.size ∧ (pFirst Z).e.path.size ≤ 16) ∧ (pFirst Z).text.size ≤ 64
theorem sealed_lit (w : World) (path plain : ByteArray) (K : PKey) (i : Nat) (h : XIn w F b X) (hk : X.keys[i]? = some K) (hi6 : i ≤ 6) (hK : K.text.size = 48) (hp : 1 ≤ path.size ∧ path.size ≤ 16) (hs : plain.size ≤ 64) (hd : 0 ≤ X.draws ∧ X.draws + 1 ≤ 1000000000000) (hF : Fours w) (h1 : 1 ≤ w.heap.size) (E : Ent) (hE : closedOf K.text ((i : Int) + 1) path plain (X.draws + 1) = E) :
    Calls Tryz.prog 87 #[.pointer (some ⟨b, 0, none⟩), .int .i64 ((i : Int) + 1), .string path, .string plain] w fun r w' =>
      r = .returned (.tuple #[.agg #[.string E.path, .int .i64 E.rev, .int .i64 E.key, .int .i64 E.draw, .string E.sealed, .bool E.gone], .int .i64 0]) ∧ XIn w' F b { X with draws := X.draws + 1 } ∧ Kept F w w' := by
  subst hE
  exact sealed_any w path plain K i h hk hi6 hK hp hs hd hF h1
/-- The secret was sealed anew, and lies in a block of its own. -/
structure Cut13 (W wc : World) (F : Nat → Prop) (b : Nat) (X : PS) (M : Nat) (E : Ent) : Prop where
  x : XIn wc F b X
  kept : Kept F W wc
  new : W.heap.size ≤ M
  blk : Blk wc M 50 E.cells
theorem cut13_A {W y2 : World} {E : Ent} (hx : XIn y2 F b X) (hk : Kept F W y2) : ∃ M, Value.pointer (some ⟨y2.heap.size, 0, none⟩) = Value.pointer (some ⟨M, 0, none⟩) ∧ Value.int .i64 0 = Value.int .i64 0 ∧
    Hid (Cut13 W (y2.alloc (Obj.cells #[Value.string E.path, Value.int .i64 E.rev, Value.int .i64 E.key, Value.int .i64 E.draw, Value.string E.sealed, Value.bool E.gone] 50)) F b X M E) :=
  ⟨_, rfl, rfl, hx.alloc _, hk.trans ((Low.refl _ y2).alloc (Nat.le_refl _) _).kept (fun _ f => f) (fun _ _ f => f.elim), hk.size, Blk.new y2 50 E.cells⟩
theorem Kept.set {G : Nat → Prop} {w w' : World} (h : Kept G w w') {a : Addr} (ha : w.heap.size ≤ a.block) (v : Value) : Kept G w (w'.setCell a v) :=
  h.trans (setCell_kept w' a v) (fun _ f => f) (fun q hq e => by omega)
theorem xin_other {w : World} (h : XIn w F b X) {a : Addr} (ha : ¬ F a.block) (v : Value) : XIn (w.setCell a v) F b X :=
  h.kept (setCell_kept w a v) (fun i hi e => ha (by rw [← show i = a.block from e]; exact hi))
theorem cut13_B {W y2 : World} {E : Ent} (hx : XIn y2 F b X) (hk : Kept F W y2) (hn : ¬ F W.heap.size) (z : Blk y2 W.heap.size 50 Ent.zero.cells) : ∃ M, Value.pointer (some ⟨W.heap.size, 0, none⟩) = Value.pointer (some ⟨M, 0, none⟩) ∧ Value.int .i64 0 = Value.int .i64 0 ∧
    Hid (Cut13 W ((((((y2.setCell ⟨W.heap.size, 0, none⟩ (Value.string E.path)).setCell ⟨W.heap.size, 1, none⟩ (Value.int .i64 E.rev)).setCell ⟨W.heap.size, 2, none⟩ (Value.int .i64 E.key)).setCell ⟨W.heap.size, 3, none⟩ (Value.int .i64 E.draw)).setCell ⟨W.heap.size, 4, none⟩ (Value.string E.sealed)).setCell ⟨W.heap.size, 5, none⟩ (Value.bool E.gone)) F b X M E) :=
  ⟨_, rfl, rfl, xin_other (xin_other (xin_other (xin_other (xin_other (xin_other hx hn _) hn _) hn _) hn _) hn _) hn _, (((((hk.set (Nat.le_refl _) _).set (Nat.le_refl _) _).set (Nat.le_refl _) _).set (Nat.le_refl _) _).set (Nat.le_refl _) _).set (Nat.le_refl _) _, Nat.le_refl _, (((((z.set 0 _).set 1 _).set 2 _).set 3 _).set 4 _).set 5 _⟩
theorem pmoves_stop {T : ByteArray} {m : Int} {n : Nat} {Z : PS} (hn : 0 < n) (hf : ((pFirst Z).e.rev != 0) = false) : pMoves T m n Z = (Z, 0, 0) := by
  obtain ⟨t, rfl⟩ : ∃ t, n = t + 1 := ⟨n - 1, by omega⟩
  unfold pMoves
  simp [hf]
theorem pmoves_full {T : ByteArray} {m : Int} {n : Nat} {Z : PS} (hn : 0 < n) (hf : ((pFirst Z).e.rev != 0) = true) (hu : pFull Z = true) : pMoves T m n Z = (Z, 0, 11) := by
  obtain ⟨t, rfl⟩ : ∃ t, n = t + 1 := ⟨n - 1, by omega⟩
  unfold pMoves
  simp [hf, hu]
theorem pmoves_step {T : ByteArray} {m : Int} {n : Nat} {Z : PS} (hf : ((pFirst Z).e.rev != 0) = true) (hu : pFull Z = false) : pMoves T m (n + 1) Z = ((pMoves T m n (Z.pmove T m)).1, (pMoves T m n (Z.pmove T m)).2.1 + 1, (pMoves T m n (Z.pmove T m)).2.2) := by
  conv => lhs; unfold pMoves
  simp [hf, hu]
/-- How far the moves have come: i of n are made, Z is what they left. -/
def PMig (X Z : PS) (T : ByteArray) (m : Int) (n i : Nat) : Prop := pMoves T m n X = ((pMoves T m (n - i) Z).1, (pMoves T m (n - i) Z).2.1 + i, (pMoves T m (n - i) Z).2.2)
theorem PMig.step {Z : PS} {T : ByteArray} {m : Int} {n i : Nat} (h : PMig X Z T m n i) (hi : i < n) (hf : ((pFirst Z).e.rev != 0) = true) (hu : pFull Z = false) : PMig X (Z.pmove T m) T m n (i + 1) := by
  unfold PMig at *
  rw [h, show n - i = (n - (i + 1)) + 1 by omega, pmoves_step hf hu]
  refine Prod.ext rfl (Prod.ext ?_ rfl)
  show (pMoves T m (n - (i + 1)) (Z.pmove T m)).2.1 + 1 + i = (pMoves T m (n - (i + 1)) (Z.pmove T m)).2.1 + (i + 1)
  omega
set_option maxRecDepth 100000 in
set_option maxHeartbeats 4000000 in
theorem pMigrate_any (w : World) (n j : Nat) (P : PKey) (G : Nat → PS → Prop) (h : XIn w F b X) (h0 : ¬ F 0 ∨ ((pFirst X).e.rev != 0) = false) (hn : n ≤ 20) (hg : pProm X = true) (hP : X.keys[j]? = some P) (hj6 : j ≤ 6) (hT : P.text.size = 48) (hw : X.write = (j : Int) + 1) (hF : Fours w) (h1 : 1 ≤ w.heap.size)
    (hG0 : G 0 X) (hok : ∀ i Z, G i Z → MOk X Z) (hst : ∀ i Z, G i Z → i < n → ((pFirst Z).e.rev != 0) = true → pFull Z = false → G (i + 1) (Z.pmove P.text ((j : Int) + 1))) :
    Calls Tryz.prog 43 #[.pointer (some ⟨b, 0, none⟩), .int .i64 (n : Int)] w fun e w' => e = .returned (.tuple #[.int .i64 ((pMoves P.text ((j : Int) + 1) n X).2.1 : Int), .int .i64 (pMoves P.text ((j : Int) + 1) n X).2.2]) ∧ ∃ F', XIn w' F' b (pMoves P.text ((j : Int) + 1) n X).1 ∧ Kept F w w' ∧ ∀ k, F' k → F k ∨ w.heap.size ≤ k := by
  have HR := hid h
  have HG := hid hg
  have HP := hid hP
  have HT := hid hT
  have HW := hid hw
  have HF := hid hF
  have H0 := hid h0
  have HOK := hid hok
  have HST := hid hst
  have HG0 := hid hG0
  have q1 : decide ((n : Int) < 0) = false := by simp
  have q2 : decide ((20 : Int) < (n : Int)) = false := by simp; omega
  clear h hg hP hT hw hF h0 hok hst hG0
  go_enter Tryz.func43, Tryz.ntmps43
  go_wp2_with (go_at_call 84; refine (isPromoted_any _ HR.out).mono ?_; rw [HG.out]; rintro e y1 ⟨rfl, hy⟩; obtain rfl := hy.symm)
  go_loopg [6] n (fun left iv wr => ∃ i : Nat, left = n - i ∧ i ≤ n ∧ iv = .int .i64 (i : Int) ∧ Hid (∃ Z F', (¬ F 0 ∨ Z = X) ∧ Fours wr ∧ G i Z ∧ PMig X Z P.text ((j : Int) + 1) n i ∧ XIn wr F' b Z ∧ Kept F w wr ∧ ∀ k, F' k → F k ∨ w.heap.size ≤ k))
  case atStart => exact ⟨0, rfl, Nat.zero_le _, rfl, X, F, Or.inr rfl, HF.out, HG0.out, rfl, HR.out, Kept.refl _ _, fun _ f => Or.inl f⟩
  case round =>
    obtain ⟨i, hgk, hi, rfl, HI⟩ := hrel
    have HGK := hid hgk
    clear hgk
    obtain ⟨Z, F', hzx, hf4, hGZ, hM, hR, hKp, hFF⟩ := HI.out
    have ZX := hid hzx
    have F4 := hid hf4
    have GZ := hid hGZ
    have MZ := hid hM
    have RZ := hid hR
    have KZ := hid hKp
    have FZ := hid hFF
    have OZ := hid (HOK.out i Z hGZ)
    have hwr : 1 ≤ wr.heap.size := Nat.le_trans h1 hKp.size
    clear hGZ hM hR hKp hFF HI hzx hf4
    by_cases h3 : i < n
    · have q3 : decide ((i : Int) < (n : Int)) = true := by simp; omega
      obtain ⟨f, hf⟩ : ∃ f, f = pFirst Z := ⟨_, rfl⟩
      have HFI := hid hf
      clear hf
      cases qf : (f.e.rev == 0)
      · have hne : Hid (((pFirst Z).e.rev != 0) = true) := by
          show _ = _
          rw [← HFI.out]; unfold bne; rw [qf]; rfl
        obtain ⟨fu, hfu⟩ : ∃ fu, fu = pFull Z := ⟨_, rfl⟩
        have HFU := hid hfu
        clear hfu
        cases qu : fu
        · have hnf : Hid (pFull Z = false) := by show _ = _; rw [← HFU.out]; exact qu
          obtain ⟨hp1, hp2⟩ := OZ.out.fst (by simpa using hne.out)
          rw [← HFI.out] at hp1 hp2
          have HP1 := hid hp1
          have HP2 := hid hp2
          obtain ⟨E, hE⟩ : ∃ E, closedOf P.text ((j : Int) + 1) f.e.path f.text (Z.draws + 1) = E := ⟨_, rfl⟩
          have HEQ := hid hE
          have HZK : Hid (Z.keys[j]? = some P) := by show _ = _; rw [OZ.out.keys]; exact HP.out
          have HZW : Hid (Z.write = (j : Int) + 1) := by show _ = _; rw [OZ.out.write]; exact HW.out
          clear hE hp1 hp2
          go_upto_region 13 with (first | (go_at_call 85; refine (firstOld_any (X := Z) _ RZ.out OZ.out.ents OZ.out.ek F4.out hwr).mono ?_; rw [← HFI.out]; rintro e y1 ⟨rfl, l1⟩; have L1 := hid l1; clear l1) | ((with_reducible refine st50 (.tmp 7) (.tmp 28) y1.heap.size Ent.zero f.e ?_ ?_ ?_ ?_); rfl; rfl; exact (Blk.new y1 50 Ent.zero.cells); intro W b2 k2 s2; have B2 := hid b2; have m1 : W.cell? ⟨y1.heap.size, 1, none⟩ = some (.int .i64 f.e.rev) := b2.cell 1; have LW : Hid (Low wr.heap.size wr W) := low_set (L1.out.alloc L1.out.size _) k2 L1.out.size (by have := L1.out.size; simp; omega); clear b2 k2 s2) | (go_at_call 86; refine (pfull_any (X := Z) _ (by exact RZ.out.low LW.out)).mono ?_; rw [← HFU.out, qu]; rintro e V ⟨rfl, l3⟩; have L3 : Hid (Low wr.heap.size wr V) := LW.out.trans (l3.mono LW.out.size); have B3 : Hid (Blk V y1.heap.size 50 f.e.cells) := B2.out.low l3 B2.out.lt; clear l3 m1))
          have RV : Hid (XIn V F' b Z) := RZ.out.low L3.out
          have F4V : Hid (Fours V) := F4.out.later (L3.out.mono hwr)
          have hV : 1 ≤ V.heap.size := Nat.le_trans hwr L3.out.size
          have KV : Hid (Kept F w V) := KZ.out.trans L3.out.kept (fun _ f => f) (fun _ _ f => f.elim)
          have c3 : V.cell? ⟨b, 3, none⟩ = some (.int .i64 ((j : Int) + 1)) := by rw [xin_write RV.out, HZW.out]
          have m0 : V.cell? ⟨y1.heap.size, 0, none⟩ = some (.string f.e.path) := B3.out.cell 0
          have lb := RV.out.lt
          have lm := B3.out.lt
          have nF : Hid (¬ F' V.heap.size) := fun hq => by have := RV.out.below _ hq; omega
          go_cut [9, 10] (fun mv ev wc => ∃ M, mv = .pointer (some ⟨M, 0, none⟩) ∧ ev = .int .i64 0 ∧ Hid (Cut13 V wc F' b { Z with draws := Z.draws + 1 } M E))
          case first =>
            go_region_with (first | (go_at_call 87; refine (sealed_lit (X := Z) _ f.e.path f.text P j (by exact RV.out.drew) HZK.out hj6 HT.out HP1.out HP2.out OZ.out.draws (by exact F4V.out.later (Low.refl 1 V).drew) (by exact hV) E HEQ.out).mono ?_; rintro e y2 ⟨rfl, r2, k2⟩; have R2 := hid r2; have K2 : Hid (Kept F' V y2) := (Kept.refl F' V).drew.trans k2 (fun _ f => f) (fun _ _ f => f); clear r2 k2) | (go_at_call 87; refine (sealed_lit (X := Z) _ f.e.path f.text P j (by exact (RV.out.alloc _).drew) HZK.out hj6 HT.out HP1.out HP2.out OZ.out.draws (by exact F4V.out.later ((Low.refl 1 V).alloc hV _).drew) (by exact Nat.le_trans hV ((Low.refl 1 V).alloc hV _).drew.size) E HEQ.out).mono ?_; rintro e y2 ⟨rfl, r2, k2⟩; have R2 := hid r2; have K2 : Hid (Kept F' V y2) := (((Low.refl _ V).alloc (Nat.le_refl _) _).kept.mono (fun _ _ f => f.elim)).drew.trans k2 (fun _ f => f) (fun _ _ f => f); have bz : Blk y2 V.heap.size 50 Ent.zero.cells := (Blk.new V 50 Ent.zero.cells).drew.kept k2 nF.out; have z0 : y2.cell? ⟨V.heap.size, 0, none⟩ = some (.string ⟨#[]⟩) := bz.cell 0; have z1 : y2.cell? ⟨V.heap.size, 1, none⟩ = some (.int .i64 0) := bz.cell 1; have z2 : y2.cell? ⟨V.heap.size, 2, none⟩ = some (.int .i64 0) := bz.cell 2; have z3 : y2.cell? ⟨V.heap.size, 3, none⟩ = some (.int .i64 0) := bz.cell 3; have z4 : y2.cell? ⟨V.heap.size, 4, none⟩ = some (.string ⟨#[]⟩) := bz.cell 4; have z5 : y2.cell? ⟨V.heap.size, 5, none⟩ = some (.bool false) := bz.cell 5; have g0 := bz.frozen 0; have g1 := bz.frozen 1; have g2 := bz.frozen 2; have g3 := bz.frozen 3; have g4 := bz.frozen 4; have g5 := bz.frozen 5; have BZ := hid bz; clear r2 k2 bz))
            all_goals
              go_wp2_with fail
              go_meet
            all_goals first | exact cut13_B R2.out K2.out nF.out BZ.out | exact cut13_A R2.out K2.out
          case rest =>
            obtain ⟨M, rfl, rfl, HC⟩ := hcut
            clear c3 m0
            go_wp2_with (first | ((with_reducible refine ld50 (.tmp 9) M 0 E ?_ HC.out.blk.whole ?_); rfl) | (go_at_call 68; refine (add_any (X := { Z with draws := Z.draws + 1 }) _ E HC.out.x OZ.out.ents OZ.out.rev).mono ?_; rintro e y5 ⟨rfl, r5, k5⟩; have R5 := hid r5; have K5 := hid k5; clear r5 k5))
            go_roundg (n - (i + 1))
            case rel =>
              have hz : (({ Z with draws := Z.draws + 1 } : PS).add E) = Z.pmove P.text ((j : Int) + 1) := by
                unfold PS.add PS.pmove
                rw [← HFI.out, HEQ.out]
              have n0 : ¬ F 0 := by
                rcases ZX.out with q | q
                · exact q
                · rcases H0.out with r | r
                  · exact r
                  · have := hne.out
                    rw [q, r] at this
                    cases this
              have a2 : Kept F w wc := KV.out.trans HC.out.kept (fun _ f => f) (fun k hk f => (FZ.out k f).elim id (fun e => by omega))
              have a3 : Kept F w y5 := a2.trans K5.out (fun _ f => f) (fun k hk f => (FZ.out k f).elim id (fun e => by omega))
              refine ⟨i + 1, rfl, by omega, by simp, Z.pmove P.text ((j : Int) + 1), grow F' wc y5, Or.inl n0, HF.out.kept h1 a3 n0, HST.out i Z GZ.out h3 hne.out hnf.out, MZ.out.step h3 hne.out hnf.out, ?_, ?_, ?_⟩
              · rw [← hz]; exact R5.out
              · exact a3
              · intro k hk
                rcases hk with hk | hk
                · exact FZ.out k hk
                · have b1 := KV.out.size
                  have b2 := HC.out.kept.size
                  exact Or.inr (by omega)
            case measure => have := HGK.out; omega
        · have hnf : Hid (pFull Z = true) := by show _ = _; rw [← HFU.out]; exact qu
          go_wp2_with (first | (go_at_call 85; refine (firstOld_any (X := Z) _ RZ.out OZ.out.ents OZ.out.ek F4.out hwr).mono ?_; rw [← HFI.out]; rintro e y1 ⟨rfl, l1⟩; have L1 := hid l1; clear l1) | ((with_reducible refine st50 (.tmp 7) (.tmp 28) y1.heap.size Ent.zero f.e ?_ ?_ ?_ ?_); rfl; rfl; exact (Blk.new y1 50 Ent.zero.cells); intro W b2 k2 s2; have m1 : W.cell? ⟨y1.heap.size, 1, none⟩ = some (.int .i64 f.e.rev) := b2.cell 1; have LW : Hid (Low wr.heap.size wr W) := low_set (L1.out.alloc L1.out.size _) k2 L1.out.size (by have := L1.out.size; simp; omega); clear b2 k2 s2) | (go_at_call 86; refine (pfull_any (X := Z) _ (by exact RZ.out.low LW.out)).mono ?_; rw [← HFU.out, qu]; rintro e V ⟨rfl, l3⟩; have L3 : Hid (Low wr.heap.size wr V) := LW.out.trans (l3.mono LW.out.size); clear l3))
          go_ret2
          have hm := MZ.out
          unfold PMig at hm
          rw [hm, pmoves_full (by omega) hne.out hnf.out]
          exact ⟨by simp, F', RZ.out.low L3.out, KZ.out.trans L3.out.kept (fun _ f => f) (fun _ _ f => f.elim), FZ.out⟩
      · have hne : Hid (((pFirst Z).e.rev != 0) = false) := by
          show _ = _
          rw [← HFI.out]; unfold bne; rw [qf]; rfl
        go_wp2_with (first | (go_at_call 85; refine (firstOld_any (X := Z) _ RZ.out OZ.out.ents OZ.out.ek F4.out hwr).mono ?_; rw [← HFI.out]; rintro e y1 ⟨rfl, l1⟩; have L1 := hid l1; clear l1) | ((with_reducible refine st50 (.tmp 7) (.tmp 28) y1.heap.size Ent.zero f.e ?_ ?_ ?_ ?_); rfl; rfl; exact (Blk.new y1 50 Ent.zero.cells); intro W b2 k2 s2; have m1 : W.cell? ⟨y1.heap.size, 1, none⟩ = some (.int .i64 f.e.rev) := b2.cell 1; have LW : Hid (Low wr.heap.size wr W) := low_set (L1.out.alloc L1.out.size _) k2 L1.out.size (by have := L1.out.size; simp; omega); clear b2 k2 s2))
        go_ret2
        have hm := MZ.out
        unfold PMig at hm
        rw [hm, pmoves_stop (by omega) hne.out]
        exact ⟨by simp, F', RZ.out.low LW.out, KZ.out.trans LW.out.kept (fun _ f => f) (fun _ _ f => f.elim), FZ.out⟩
    · have q3 : decide ((i : Int) < (n : Int)) = false := by simp; omega
      go_wp2_with fail
      go_ret2
      obtain rfl : i = n := by omega
      have hm := MZ.out
      unfold PMig at hm
      rw [hm, Nat.sub_self]
      exact ⟨by simp [pMoves], F', RZ.out, KZ.out, FZ.out⟩
end Go.Proofs.YtphapknfkbgapaaGreatDoor
namespace Go.Proofs.YtphapknfkbgapaaGreatDoor
open Go.RowKit

/-! What the program's Migrate takes next, and that it is what is due: plain data. -/

variable {X : PS} {Y : RS} {n : Nat}
theorem kept_mem {x : Ent} {l : List RKept} (h : x ∈ keptOf l) : ∃ k ∈ l, k.e = x ∧ k.out = false := by
  obtain ⟨k, hk, rfl⟩ := List.mem_map.1 h
  obtain ⟨h1, h2⟩ := List.mem_filter.1 hk
  exact ⟨k, h1, rfl, by simpa using h2⟩
theorem Rel2.ekey (h : Rel2 n X Y) {x : Ent} (hx : x ∈ X.entries) (hg : x.gone = false) : ∃ j P, EKey X x j P ∧ pOpened (pKeyAt X.keys x.key) x = openedOf (keyAt Y.keys x.key) x Y.epoch := by
  rw [h.ent] at hx
  obtain ⟨k, hk, rfl, ho⟩ := kept_mem hx
  obtain ⟨ok1, j, K, ok2, ok3, ok4⟩ := h.eok k hk hg
  have hKg := ok4 ho
  have hjl : j < Y.keys.length := (List.getElem?_eq_some_iff.1 ok3).1
  have hj6 : j ≤ 6 := by have := h.keys.few.2; omega
  obtain ⟨P, hP⟩ : ∃ P, X.keys[j]? = some P := ⟨_, List.getElem?_eq_getElem (by rw [h.keys.len]; exact hjl)⟩
  have hks := h.keys.same j P K hP ok3
  have htx := hks.text hKg
  have hsz : P.text.size = 48 := by rw [htx]; exact hks.size
  refine ⟨j, P, ⟨ok1, ok2, hP, hj6, hsz⟩, ?_⟩
  rw [pKeyAt_eq hP ok2, keyAt_eq ok3 ok2]
  have hc := h.keys.came j K ok3
  have hd : decide (Y.epoch < K.came) = false := by simp; omega
  unfold pOpened openedOf
  rw [keyGone_no hsz, hKg, htx, hd]
  simp only [Bool.false_eq_true, if_false]
theorem Rel2.newest (h : Rel2 n X Y) (p : ByteArray) : newestOf X.entries p X.rev = (lastOf Y.all p).getD Ent.zero := by
  rw [h.ent, h.rev]; exact newest_all p Y.all h.revs
theorem same_rev {l : List RKept} (h : Revs l) {a c : RKept} (ha : a ∈ l) (hc : c ∈ l) (he : a.e.rev = c.e.rev) : a = c := by
  obtain ⟨i, hi⟩ := List.getElem?_of_mem ha
  obtain ⟨j, hj⟩ := List.getElem?_of_mem hc
  have e1 := h i a hi
  have e2 := h j c hj
  have : i = j := by omega
  subst this
  exact Option.some.inj (hi.symm.trans hj)
/-- An entry that is kept is passed by just if it does not move. -/
theorem Rel2.pass (h : Rel2 n X Y) {x : Ent} (hx : x ∈ X.entries) : (pPass X x = true → ∀ s, ¬ Moves Y X.write x x s) ∧ (pPass X x = false → x = (lastOf Y.all x.path).getD Ent.zero ∧ x.gone = false ∧ x.key ≠ X.write) := by
  have hx2 := hx
  rw [h.ent] at hx2
  obtain ⟨k, hk, hkx, ho⟩ := kept_mem hx2
  unfold pPass pOld
  rw [h.newest]
  refine ⟨fun hp s q => ?_, fun hp => ?_⟩
  · rw [Bool.or_eq_true] at hp
    rcases hp with hp | hp
    · rw [← q.newest] at hp
      simp at hp
    · rw [q.there] at hp
      have := q.old
      simp at hp
      exact this hp
  · rw [Bool.or_eq_false_iff] at hp
    obtain ⟨h1, h2⟩ := hp
    have h1 : x.rev = ((lastOf Y.all x.path).getD Ent.zero).rev := by simpa using h1
    have h2 : x.gone = false ∧ x.key ≠ X.write := by
      cases hg : x.gone
      · rw [hg] at h2
        exact ⟨rfl, by simpa using h2⟩
      · rw [hg] at h2
        simp at h2
    obtain ⟨k2, hk2, hl⟩ := last_some hx2
    rw [hl] at h1 ⊢
    refine ⟨?_, h2⟩
    have : k = k2 := same_rev h.revs hk hk2 (by rw [hkx]; exact h1)
    rw [← hkx, this]
    rfl
structure FstSpec (Y : RS) (m : Int) (l : List Ent) (f : Fst) : Prop where
  no : f.e.rev = 0 → ∀ x ∈ l, ∀ s, ¬ Moves Y m x x s
  yes : f.e.rev ≠ 0 → f.e ∈ l ∧ Moves Y m f.e f.e f.text
  least : f.e.rev ≠ 0 → ∀ x ∈ l, ∀ s, Moves Y m x x s → beforeOf x.path f.e.path = false
theorem first_spec (h : Rel2 n X Y) (l : List Ent) : (∀ x ∈ l, x ∈ X.entries) → FstSpec Y X.write l (l.foldl (pStep X) fst0) := by
  refine snoc_ind (P := fun l => (∀ x ∈ l, x ∈ X.entries) → FstSpec Y X.write l (l.foldl (pStep X) fst0)) ?_ ?_ l
  · intro _
    exact ⟨fun _ x hx => (by simp at hx), fun h => absurd rfl h, fun h => absurd rfl h⟩
  · intro l x ih hl
    have ih := ih (fun y hy => hl y (List.mem_append_left _ hy))
    have hx : x ∈ X.entries := hl x (by simp)
    rw [List.foldl_append]
    show FstSpec Y X.write (l ++ [x]) (pStep X (l.foldl (pStep X) fst0) x)
    obtain ⟨f, hf⟩ : ∃ f, f = l.foldl (pStep X) fst0 := ⟨_, rfl⟩
    rw [← hf] at ih ⊢
    have hx0 : x.rev ≠ 0 := by
      rw [h.ent] at hx
      obtain ⟨k, hk, rfl, _⟩ := kept_mem hx
      obtain ⟨i, hi⟩ := List.getElem?_of_mem hk
      have := h.revs i k hi
      omega
    have same : (∀ s, ¬ Moves Y X.write x x s) → FstSpec Y X.write (l ++ [x]) f := fun hno => by
      refine ⟨fun h0 y hy s q => ?_, fun h0 => ?_, fun h0 y hy s q => ?_⟩
      · rcases List.mem_append.1 hy with hy | hy
        · exact ih.no h0 y hy s q
        · obtain rfl := List.mem_singleton.1 hy; exact hno s q
      · exact ⟨List.mem_append_left _ (ih.yes h0).1, (ih.yes h0).2⟩
      · rcases List.mem_append.1 hy with hy | hy
        · exact ih.least h0 y hy s q
        · obtain rfl := List.mem_singleton.1 hy; exact absurd q (hno s)
    unfold pStep
    by_cases hs : pSkip f x = true
    · rw [if_pos hs]
      unfold pSkip at hs
      rw [Bool.and_eq_true] at hs
      have h0 : f.e.rev ≠ 0 := by simpa using hs.1
      have hb : beforeOf x.path f.e.path = false := by rw [before_string]; simpa using hs.2
      refine ⟨fun h1 => absurd h1 h0, fun _ => ⟨List.mem_append_left _ (ih.yes h0).1, (ih.yes h0).2⟩, fun _ y hy s q => ?_⟩
      rcases List.mem_append.1 hy with hy | hy
      · exact ih.least h0 y hy s q
      · obtain rfl := List.mem_singleton.1 hy; exact hb
    · rw [if_neg hs]
      obtain ⟨p1, p2⟩ := h.pass hx
      by_cases hp : pPass X x = true
      · rw [if_pos hp]
        exact same (p1 hp)
      · rw [if_neg hp]
        obtain ⟨n1, n2, n3⟩ := p2 (by simpa using hp)
        obtain ⟨j, P, _, hO⟩ := h.ekey hx n2
        rw [hO]
        obtain ⟨O, hOe⟩ : ∃ O, O = openedOf (keyAt Y.keys x.key) x Y.epoch := ⟨_, rfl⟩
        rw [← hOe]
        unfold pTake
        by_cases h0 : (O.2 == 0) = true
        · rw [if_pos h0]
          have hm : Moves Y X.write x x O.1 := ⟨n1, n2, n3, by rw [← hOe, ← (by simpa using h0 : O.2 = 0)]⟩
          refine ⟨fun h1 => absurd h1 hx0, fun _ => ⟨by simp, hm⟩, fun _ y hy s q => ?_⟩
          show beforeOf y.path x.path = false
          rcases List.mem_append.1 hy with hy | hy
          · by_cases hz : f.e.rev = 0
            · exact absurd q (ih.no hz y hy s)
            · have hb : beforeOf x.path f.e.path = true := by
                rw [before_string]
                unfold pSkip at hs
                have hz2 : (f.e.rev != 0) = true := by rw [bne_iff_ne]; exact hz
                rw [hz2, Bool.true_and] at hs
                simpa using hs
              have hl2 := ih.least hz y hy s q
              cases hq : beforeOf y.path x.path
              · rfl
              · have := before_trans _ _ _ hq hb
                unfold beforeOf at hl2
                rw [this] at hl2
                cases hl2
          · obtain rfl := List.mem_singleton.1 hy
            exact before_irrefl _
        · rw [if_neg h0]
          refine same (fun s q => ?_)
          have := q.opens
          rw [← hOe] at this
          exact h0 (by rw [this]; rfl)
/-- The program's choice is what is due. -/
theorem first_due (h : Rel2 n X Y) : ((pFirst X).e.rev != 0) = (dueOf Y).found ∧ ((dueOf Y).found = true → (pFirst X).e.path = (dueOf Y).name ∧ (pFirst X).text = (dueOf Y).text) := by
  have hs : FstSpec Y X.write X.entries (pFirst X) := first_spec h X.entries (fun _ hx => hx)
  have hd := dueOf_spec Y
  rw [← h.write] at hd
  have self : ∀ x ∈ keptOf Y.all, ∀ E s, Moves Y X.write x E s → E ∈ keptOf Y.all ∧ Moves Y X.write E E s := fun x hx E s q => by
    obtain ⟨k, _, hk⟩ := last_some hx
    have hE : E = k.e := by rw [q.newest, hk]; rfl
    obtain ⟨k2, hk2, e1, e2, e3⟩ := lastOf_mem hk
    refine ⟨List.mem_map.2 ⟨k2, List.mem_filter.2 ⟨hk2, by simp [e2]⟩, by rw [e1, hE]⟩, ⟨?_, q.there, q.old, q.opens⟩⟩
    rw [last_path (l := Y.all) (p := E.path) (q := x.path) (by rw [hE]; exact e3)]
    exact q.newest
  have hF : DueSpec Y X.write (keptOf Y.all) ⟨(pFirst X).e.path, (pFirst X).text, (pFirst X).e.rev != 0⟩ := by
    refine ⟨fun hf x hx E s q => ?_, fun hf => ?_, fun hf x hx E s q => ?_⟩
    · obtain ⟨a1, a2⟩ := self x hx E s q
      exact hs.no (by simpa using hf) E (by rw [h.ent]; exact a1) s a2
    · obtain ⟨a1, a2⟩ := hs.yes (by simpa using hf)
      exact ⟨_, by rw [← h.ent]; exact a1, _, a2, rfl⟩
    · obtain ⟨a1, a2⟩ := self x hx E s q
      exact hs.least (by simpa using hf) E (by rw [h.ent]; exact a1) s a2
  have e : ((pFirst X).e.rev != 0) = (dueOf Y).found := by
    cases q1 : ((pFirst X).e.rev != 0)
    · cases q2 : (dueOf Y).found
      · rfl
      · obtain ⟨x, hx, E, m, _⟩ := hd.yes q2
        exact absurd m (hF.no q1 x hx E _)
    · cases q2 : (dueOf Y).found
      · obtain ⟨x, hx, E, m, _⟩ := hF.yes q1
        exact absurd m (hd.no q2 x hx E _)
      · rfl
  refine ⟨e, fun hf => ?_⟩
  rw [h.write] at hF hd
  exact due_only hF hd (by rw [← e] at hf; exact hf) hf
theorem pFull_same (h : Rel2 n X Y) : pFull X = fullOf Y := by
  unfold pFull fullOf
  rw [h.room, h.ent]
theorem pmove_same (h : Rel2 n X Y) (K : RKey) (m : Int) (hf : (dueOf Y).found = true) : X.pmove K.text m = X.moved (moveEnt Y K m) := by
  obtain ⟨_, e⟩ := first_due h
  obtain ⟨e1, e2⟩ := e hf
  unfold PS.pmove PS.moved moveEnt
  rw [e1, e2, h.rev, h.draws.1]
theorem moves_same (t : Nat) : ∀ (n : Nat) (X : PS) (Y : RS), Rel2 n X Y → n + t ≤ 50000000 → ∀ (j : Nat) (K : RKey), writesOf Y.keys Y.epoch = (j : Int) + 1 → Y.keys[j]? = some K →
    (pMoves K.text ((j : Int) + 1) t X).2 = (moves K ((j : Int) + 1) t Y).2 ∧ Rel2 (n + t) (pMoves K.text ((j : Int) + 1) t X).1 (moves K ((j : Int) + 1) t Y).1 := by
  induction t with
  | zero => intro n X Y h _ j K _ _; exact ⟨rfl, h⟩
  | succ t ih =>
    intro n X Y h hn j K hj hK
    obtain ⟨e, _⟩ := first_due h
    unfold pMoves moves
    rw [e, pFull_same h]
    cases hf : (dueOf Y).found
    · exact ⟨rfl, h.mono (by omega)⟩
    · cases hu : fullOf Y
      · have hr := rel_move h (by omega) hj hK hf hu
        rw [pmove_same h K _ hf]
        obtain ⟨a1, a2⟩ := ih (n + 1) _ _ hr (by omega) j K hj hK
        refine ⟨?_, ?_⟩
        · show ((pMoves K.text ((j : Int) + 1) t (X.moved (moveEnt Y K ((j : Int) + 1)))).2.1 + 1, (pMoves K.text ((j : Int) + 1) t (X.moved (moveEnt Y K ((j : Int) + 1)))).2.2) = ((moves K ((j : Int) + 1) t (Y.move K ((j : Int) + 1))).2.1 + 1, (moves K ((j : Int) + 1) t (Y.move K ((j : Int) + 1))).2.2)
          rw [a1]
        · exact a2.mono (by omega)
      · exact ⟨rfl, h.mono (by omega)⟩
end Go.Proofs.YtphapknfkbgapaaGreatDoor
namespace Go.Proofs.YtphapknfkbgapaaGreatDoor
open Go.RowKit

variable {F : Nat → Prop} {b : Nat} {X : PS}

/-! Stage. -/
def PS.stageP (X : PS) (t : ByteArray) : PS := { X with epoch := X.epoch + 1, keys := X.keys ++ [⟨t, X.epoch + 1, 0⟩], turn := 1 }
theorem pStage_arg (w : World) (t : ByteArray) (ht : (t.size == 48) = false) :
    Calls Tryz.prog 39 #[.pointer (some ⟨b, 0, none⟩), .string t] w fun e w' => e = .returned (.tuple #[.int .i64 0, .int .i64 2]) ∧ w' = w := by
  have HT := hid ht
  clear ht
  go_enter Tryz.func39, Tryz.ntmps39
  go_wp2_with (go_at_call 21; refine (isKey_any _ _).mono ?_; rw [HT.out]; rintro e y1 ⟨rfl, hy⟩; obtain rfl := hy.symm)
  go_ret2
  exact ⟨rfl, rfl⟩
theorem pStage_many (w : World) (t : ByteArray) (h : XIn w F b X) (ht : (t.size == 48) = true) (hk : X.keys.length = 6) :
    Calls Tryz.prog 39 #[.pointer (some ⟨b, 0, none⟩), .string t] w fun e w' => e = .returned (.tuple #[.int .i64 0, .int .i64 16]) ∧ w' = w := by
  obtain ⟨a, cap, c7, _⟩ := xin_rowK h
  have HT := hid ht
  have q1 : decide ((6 : Int) ≤ (X.keys.length : Int)) = true := by simp; omega
  clear ht h hk
  go_enter Tryz.func39, Tryz.ntmps39
  go_wp2_with (go_at_call 21; refine (isKey_any _ _).mono ?_; rw [HT.out]; rintro e y1 ⟨rfl, hy⟩; obtain rfl := hy.symm)
  go_ret2
  exact ⟨rfl, rfl⟩
theorem pStage_turn (w : World) (t : ByteArray) (h : XIn w F b X) (ht : (t.size == 48) = true) (hk : X.keys.length < 6) (hu : (X.turn != 0) = true) :
    Calls Tryz.prog 39 #[.pointer (some ⟨b, 0, none⟩), .string t] w fun e w' => e = .returned (.tuple #[.int .i64 0, .int .i64 17]) ∧ w' = w := by
  obtain ⟨a, cap, c7, _⟩ := xin_rowK h
  have c4 := xin_turn h
  have HT := hid ht
  have q1 : decide ((6 : Int) ≤ (X.keys.length : Int)) = false := by simp; omega
  clear ht h hk
  go_enter Tryz.func39, Tryz.ntmps39
  go_wp2_with (go_at_call 21; refine (isKey_any _ _).mono ?_; rw [HT.out]; rintro e y1 ⟨rfl, hy⟩; obtain rfl := hy.symm)
  go_ret2
  exact ⟨rfl, rfl⟩
set_option maxRecDepth 100000 in
set_option maxHeartbeats 1000000 in
theorem pStage_yes (w : World) (t : ByteArray) (h : XIn w F b X) (ht : (t.size == 48) = true) (hk : X.keys.length < 6) (hu : (X.turn != 0) = false) (he : 0 ≤ X.epoch ∧ X.epoch ≤ 1000000) :
    Calls Tryz.prog 39 #[.pointer (some ⟨b, 0, none⟩), .string t] w fun e w' => e = .returned (.tuple #[.int .i64 ((X.keys.length : Int) + 1), .int .i64 0]) ∧ XIn w' (grow F w w') b (X.stageP t) ∧ Kept F w w' := by
  obtain ⟨a, cap, c7, _⟩ := xin_rowK h
  have c4 := xin_turn h
  have c2 := xin_epoch h
  have f2 := h.frozen 2
  have r1 := xin_set_epoch h (X.epoch + 1)
  have d4 := xin_turn r1
  have f4 := r1.frozen 4
  have lb := h.lt
  have r2 := xin_set_turn r1 1
  have k1 := xset_kept h 2 (.int .i64 (X.epoch + 1))
  have k2 := xset_kept r1 4 (.int .i64 1)
  have R2 := hid r2
  have K2 : Hid (Kept F w ((w.setCell ⟨b, 2, none⟩ (.int .i64 (X.epoch + 1))).setCell ⟨b, 4, none⟩ (.int .i64 1))) := k1.trans k2 (fun _ f => f) (fun _ _ f => f)
  have HT := hid ht
  have HK := hid hk
  have q1 : decide ((6 : Int) ≤ (X.keys.length : Int)) = false := by simp; omega
  obtain ⟨he0, he1⟩ := he
  clear ht h hk r1 r2 k1 k2
  go_enter Tryz.func39, Tryz.ntmps39
  go_upto_region 9 with (go_at_call 21; refine (isKey_any _ _).mono ?_; rw [HT.out]; rintro e y1 ⟨rfl, hy⟩; obtain rfl := hy.symm)
  go_name_world W hW
  have RW : Hid (XIn W F b { X with epoch := X.epoch + 1, turn := 1 }) := by
    show XIn W F b _
    rw [← hW]; exact R2.out
  have KW : Hid (Kept F w W) := by
    show Kept F w W
    rw [← hW]; exact K2.out
  clear hW R2 K2 c7 c4 c2 f2 d4 f4
  go_wp2_with (go_at_call 81; refine (come_any (X := { X with epoch := X.epoch + 1, turn := 1 }) _ t RW.out HK.out).mono ?_; rintro e y2 ⟨rfl, r3, k3⟩; have R3 := hid r3; have K3 := hid k3; clear r3 k3)
  go_ret2
  have s1 := KW.out.size
  refine ⟨rfl, ?_, KW.out.trans K3.out (fun _ f => f) (fun _ _ f => f)⟩
  exact XIn.more R3.out (fun k hk => hk.elim Or.inl (fun hk => Or.inr ⟨by omega, hk.2⟩)) (fun k hk => hk.elim (fun hk => XIn.below R3.out k (Or.inl hk)) (fun hk => hk.2))
/-! Promote. -/
def PS.promoteP (X : PS) (m : Nat) (P : PKey) : PS := { X with epoch := X.epoch + 1, keys := X.keys.set m { P with wrote := X.epoch + 1 }, write := (m : Int) + 1, turn := 2 }
theorem pPromote_turn (w : World) (h : XIn w F b X) (hu : (X.turn != 1) = true) :
    Calls Tryz.prog 41 #[.pointer (some ⟨b, 0, none⟩)] w fun e w' => e = .returned (.int .i64 17) ∧ w' = w := by
  have c4 := xin_turn h
  clear h
  go_enter Tryz.func41, Tryz.ntmps41
  go_wp2
  go_ret
  exact ⟨rfl, rfl⟩
theorem pPromote_wait (w : World) (h : XIn w F b X) (hu : (X.turn != 1) = false) (hs : X.servers.length ≤ 4) (hp : pSeen X = false) :
    Calls Tryz.prog 41 #[.pointer (some ⟨b, 0, none⟩)] w fun e w' => e = .returned (.int .i64 18) ∧ Low w.heap.size w w' := by
  have c4 := xin_turn h
  have HR := hid h
  have HP := hid hp
  clear h hp
  go_enter Tryz.func41, Tryz.ntmps41
  go_wp2_with (go_at_call 82; refine (allHaveSeen_any _ HR.out hs).mono ?_; rw [HP.out]; rintro e y1 ⟨rfl, l1⟩; have L1 := hid l1; clear l1)
  go_ret
  exact ⟨rfl, L1.out⟩
set_option maxRecDepth 100000 in
set_option maxHeartbeats 1000000 in
theorem pPromote_yes (w : World) (m : Nat) (P : PKey) (h : XIn w F b X) (hu : (X.turn != 1) = false) (hs : X.servers.length ≤ 4) (hp : pSeen X = true) (hm : X.keys.length = m + 1) (hm6 : m ≤ 6) (hP : X.keys[m]? = some P) (he : 0 ≤ X.epoch ∧ X.epoch ≤ 1000000) :
    Calls Tryz.prog 41 #[.pointer (some ⟨b, 0, none⟩)] w fun e w' => e = .returned (.int .i64 0) ∧ XIn w' F b (X.promoteP m P) ∧ Kept F w w' := by
  have c4 := xin_turn h
  have HR := hid h
  have HP := hid hp
  have HM := hid hm
  have HPP := hid hP
  obtain ⟨he0, he1⟩ := he
  clear h hp hm hP
  go_enter Tryz.func41, Tryz.ntmps41
  go_upto_region 5 with (go_at_call 82; refine (allHaveSeen_any _ HR.out hs).mono ?_; rw [HP.out]; rintro e y1 ⟨rfl, l1⟩; have L1 := hid l1; clear l1)
  have h1 := HR.out.low L1.out
  have c2 := xin_epoch h1
  have f2 := h1.frozen 2
  have r1 := xin_set_epoch h1 (X.epoch + 1)
  have d4 := xin_turn r1
  have f4 := r1.frozen 4
  have lb := h1.lt
  have r2 := xin_set_turn r1 2
  have k1 := xset_kept h1 2 (.int .i64 (X.epoch + 1))
  have k2 := xset_kept r1 4 (.int .i64 2)
  have R2 := hid r2
  have K2 : Hid (Kept F w ((y1.setCell ⟨b, 2, none⟩ (.int .i64 (X.epoch + 1))).setCell ⟨b, 4, none⟩ (.int .i64 2))) := (L1.out.kept.trans k1 (H := F) (fun _ f => f.elim) (fun _ _ f => f)).trans k2 (fun _ f => f) (fun _ _ f => f)
  clear c4 h1 r1 r2 k1 k2
  go_upto_region 7 with fail
  go_name_world W hW
  have RW : Hid (XIn W F b { X with epoch := X.epoch + 1, turn := 2 }) := by
    show XIn W F b _
    rw [← hW]; exact R2.out
  have KW : Hid (Kept F w W) := by
    show Kept F w W
    rw [← hW]; exact K2.out
  clear hW R2 K2 c2 f2 d4 f4
  go_wp2_with (go_at_call 83; refine (takeOver_any (X := { X with epoch := X.epoch + 1, turn := 2 }) _ m P RW.out HM.out hm6 HPP.out).mono ?_; rintro e y2 ⟨rfl, r3, k3⟩; have R3 := hid r3; have K3 := hid k3; clear r3 k3)
  go_ret
  exact ⟨rfl, R3.out, KW.out.trans K3.out (fun _ f => f) (fun _ _ f => f)⟩
/-! Gate. -/
def PS.setTurnP (X : PS) (t : Int) : PS := { X with turn := t }
theorem pGate_turn (w : World) (h : XIn w F b X) (hg : pProm X = false) :
    Calls Tryz.prog 45 #[.pointer (some ⟨b, 0, none⟩)] w fun e w' => e = .returned (.int .i64 17) ∧ w' = w := by
  have HR := hid h
  have HG := hid hg
  clear h hg
  go_enter Tryz.func45, Tryz.ntmps45
  go_wp2_with (go_at_call 84; refine (isPromoted_any _ HR.out).mono ?_; rw [HG.out]; rintro e y1 ⟨rfl, hy⟩; obtain rfl := hy.symm)
  go_ret
  exact ⟨rfl, rfl⟩
theorem pany_snoc {α : Type} (l : List α) (i : Nat) (x : α) (p : α → Bool) (h : l[i]? = some x) : (l.take (i + 1)).any p = ((l.take i).any p || p x) := by
  rw [take_snoc h, List.any_append]; simp
set_option maxRecDepth 100000 in
set_option maxHeartbeats 1000000 in
theorem pGate_any (w : World) (h : XIn w F b X) (hg : pProm X = true) (hn : X.entries.length ≤ 1000) :
    Calls Tryz.prog 45 #[.pointer (some ⟨b, 0, none⟩)] w fun e w' => (X.entries.any (pOld X) = true ∧ e = .returned (.int .i64 19) ∧ Low w.heap.size w w') ∨ (X.entries.any (pOld X) = false ∧ e = .returned (.int .i64 0) ∧ XIn w' F b (X.setTurnP 3) ∧ Kept F w w') := by
  have HR := hid h
  have HG := hid hg
  clear h hg
  go_enter Tryz.func45, Tryz.ntmps45
  go_wp2_with (go_at_call 84; refine (isPromoted_any _ HR.out).mono ?_; rw [HG.out]; rintro e y1 ⟨rfl, hy⟩; obtain rfl := hy.symm)
  go_loopg [3] X.entries.length (fun left iv wr => ∃ i : Nat, left = X.entries.length - i ∧ i ≤ X.entries.length ∧ iv = .int .i64 (i : Int) ∧ Hid ((X.entries.take i).any (pOld X) = false) ∧ Hid (Low w.heap.size w wr))
  case atStart => exact ⟨0, rfl, Nat.zero_le _, rfl, by show _ = _; simp, Low.refl _ _⟩
  case round =>
    obtain ⟨i, hgk, hi, rfl, HI, HL⟩ := hrel
    have HGK := hid hgk
    have R1 : Hid (XIn wr F b X) := HR.out.low HL.out
    clear hgk
    have lb := R1.out.lt
    by_cases h3 : i < X.entries.length
    · have q1 : decide ((i : Int) < (X.entries.length : Int)) = true := by simp; omega
      have il : (i : Int) < (X.entries.length : Int) := by omega
      obtain ⟨x, hx⟩ : ∃ x, X.entries[i]? = some x := ⟨_, List.getElem?_eq_getElem h3⟩
      obtain ⟨a, cap, hc, hel⟩ := xin_entries R1.out
      rw [List.length_map] at hc
      obtain ⟨g, rfl, hg, hcs, _⟩ := hel i x.cells (by rw [List.getElem?_map, hx]; rfl)
      have HC : Hid (wr.rangeAt g (i * 6) x.cells) := range_of hcs (fun _ _ e => ⟨(List.getElem?_eq_some_iff.1 e).1, e⟩)
      have HX := hid hx
      obtain ⟨o, ho⟩ : ∃ o, o = pOld X x := ⟨_, rfl⟩
      have HO := hid ho
      clear hx hcs hel ho
      cases qx : o
      · go_wp2_with (first | ((with_reducible refine ld50 (.tmp 22) g (i * 6) x ?_ HC.out ?_); rfl) | (go_at_call 90; refine (isOld_any _ x R1.out).mono ?_; rw [← HO.out, qx]; rintro e y2 ⟨rfl, l2⟩; have L2 : Hid (Low w.heap.size w y2) := HL.out.trans (l2.mono HL.out.size); clear l2))
        go_roundg (X.entries.length - (i + 1))
        case rel => exact ⟨i + 1, rfl, by omega, by simp, by show _ = _; rw [pany_snoc _ i _ _ HX.out, HI.out, ← HO.out, qx]; rfl, L2.out⟩
        case measure => have := HGK.out; omega
      · go_wp2_with (first | ((with_reducible refine ld50 (.tmp 22) g (i * 6) x ?_ HC.out ?_); rfl) | (go_at_call 90; refine (isOld_any _ x R1.out).mono ?_; rw [← HO.out, qx]; rintro e y2 ⟨rfl, l2⟩; have L2 : Hid (Low w.heap.size w y2) := HL.out.trans (l2.mono HL.out.size); clear l2))
        go_ret
        exact Or.inl ⟨List.any_eq_true.2 ⟨x, List.mem_of_getElem? HX.out, by rw [← HO.out, qx]⟩, rfl, L2.out⟩
    · have q1 : decide ((i : Int) < (X.entries.length : Int)) = false := by simp; omega
      obtain ⟨a, cap, hc, _⟩ := xin_entries R1.out
      rw [List.length_map] at hc
      have hu : Hid (X.entries.any (pOld X) = false) := by
        show _ = false
        have := HI.out
        rwa [List.take_of_length_le (by omega)] at this
      have c4 := xin_turn R1.out
      have f4 := R1.out.frozen 4
      go_wp2_with fail
      go_ret
      refine Or.inr ⟨hu.out, rfl, xin_set_turn R1.out 3, ?_⟩
      exact HL.out.kept.trans (xset_kept R1.out 4 _) (fun _ f => f.elim) (fun _ _ f => f)
end Go.Proofs.YtphapknfkbgapaaGreatDoor
namespace Go.Proofs.YtphapknfkbgapaaGreatDoor
open Go.RowKit

variable {F : Nat → Prop} {b : Nat} {X : PS}

/-! Destroy. -/
def pOther (m : Int) (k : PKey × Nat) : Bool := ((k.2 : Int) + 1 != m) && !keyGone k.1
def pOldLeft (ks : List PKey) (m : Int) : Bool := ks.zipIdx.any (pOther m)
theorem pOldLeft_yes {ks : List PKey} {m : Int} {i : Nat} {k : PKey} (h : ks[i]? = some k) (hp : pOther m (k, i) = true) : pOldLeft ks m = true := List.any_eq_true.2 ⟨(k, i), List.mem_zipIdx_iff_getElem?.2 h, hp⟩
theorem pOldLeft_no {ks : List PKey} {m : Int} (h : ∀ (i : Nat) (k : PKey), ks[i]? = some k → pOther m (k, i) = false) : pOldLeft ks m = false := by
  unfold pOldLeft
  rw [List.any_eq_false]
  rintro ⟨k, i⟩ hk
  rw [h i k (List.mem_zipIdx_iff_getElem?.1 hk)]
  simp
theorem pOldLeft_false {ks : List PKey} {m : Int} (h : pOldLeft ks m = false) {i : Nat} {k : PKey} (hk : ks[i]? = some k) : pOther m (k, i) = false := by
  unfold pOldLeft at h
  have := List.any_eq_false.1 h (k, i) (List.mem_zipIdx_iff_getElem?.2 hk)
  simpa using this
set_option maxRecDepth 100000 in
set_option maxHeartbeats 1000000 in
theorem oldKeyLeft_any (w : World) (h : XIn w F b X) (hk : X.keys.length ≤ 6) :
    Calls Tryz.prog 92 #[.pointer (some ⟨b, 0, none⟩)] w fun e w' => e = .returned (.bool (pOldLeft X.keys X.write)) ∧ Low w.heap.size w w' := by
  have HR := hid h
  clear h
  go_enter Tryz.func92, Tryz.ntmps92
  go_wp2_with fail
  go_loopg [3] X.keys.length (fun left iv wr => ∃ i : Nat, left = X.keys.length - i ∧ i ≤ X.keys.length ∧ iv = .int .i64 (i : Int) ∧ Hid (∀ (j : Nat) (k : PKey), j < i → X.keys[j]? = some k → pOther X.write (k, j) = false) ∧ Hid (Low w.heap.size w wr))
  case atStart => exact ⟨0, rfl, Nat.zero_le _, rfl, (fun j k hj => by omega), Low.refl _ _⟩
  case round =>
    obtain ⟨i, hgk, hi, rfl, HI, HL⟩ := hrel
    have HGK := hid hgk
    have R1 : Hid (XIn wr F b X) := HR.out.low HL.out
    clear hgk
    have lb := R1.out.lt
    by_cases h3 : i < X.keys.length
    · have q1 : decide ((i : Int) < (X.keys.length : Int)) = true := by simp; omega
      have il : (i : Int) < (X.keys.length : Int) := by omega
      obtain ⟨x, hx⟩ : ∃ x, X.keys[i]? = some x := ⟨_, List.getElem?_eq_getElem h3⟩
      obtain ⟨g, cap, hc, hg, hcs, _⟩ := xin_keyFull R1.out hx
      have k0 : wr.cell? ⟨g, i * 3, none⟩ = some (.string x.text) := hcs 0 (by omega)
      have k1 : wr.cell? ⟨g, i * 3 + 1, none⟩ = some (.int .i64 x.came) := hcs 1 (by omega)
      have k2 : wr.cell? ⟨g, i * 3 + 2, none⟩ = some (.int .i64 x.wrote) := hcs 2 (by omega)
      have c3 := xin_write R1.out
      have HX := hid hx
      obtain ⟨m, hm⟩ : ∃ m, m = X.write := ⟨_, rfl⟩
      rw [← hm] at c3
      have HM := hid hm
      obtain ⟨o, ho⟩ : ∃ o, o = keyGone x := ⟨_, rfl⟩
      have HO := hid ho
      clear hx hcs ho hm
      cases qm : ((i : Int) + 1 != m)
      · go_wp2_with fail
        go_roundg (X.keys.length - (i + 1))
        case rel =>
          refine ⟨i + 1, rfl, by omega, by simp, (fun j k hj hjk => ?_), HL.out⟩
          by_cases e : j = i
          · subst e
            unfold pOther
            rw [← HM.out, qm]; rfl
          · exact HI.out j k (by omega) hjk
        case measure => have := HGK.out; omega
      · cases qx : o
        · go_wp2_with (go_at_call 91; refine (destroyed_any _ x).mono ?_; rw [← HO.out, qx]; rintro e y2 ⟨rfl, l2⟩; have L2 : Hid (Low w.heap.size w y2) := HL.out.trans (l2.mono HL.out.size); clear l2)
          go_ret
          exact ⟨by rw [pOldLeft_yes HX.out (by unfold pOther; rw [← HM.out, ← HO.out, qm, qx]; rfl)]; rfl, L2.out⟩
        · go_wp2_with (go_at_call 91; refine (destroyed_any _ x).mono ?_; rw [← HO.out, qx]; rintro e y2 ⟨rfl, l2⟩; have L2 : Hid (Low w.heap.size w y2) := HL.out.trans (l2.mono HL.out.size); clear l2)
          go_roundg (X.keys.length - (i + 1))
          case rel =>
            refine ⟨i + 1, rfl, by omega, by simp, (fun j k hj hjk => ?_), L2.out⟩
            by_cases e : j = i
            · subst e
              obtain rfl := Option.some.inj (HX.out.symm.trans hjk)
              unfold pOther
              rw [← HM.out, ← HO.out, qm, qx]; rfl
            · exact HI.out j k (by omega) hjk
          case measure => have := HGK.out; omega
    · have q1 : decide ((i : Int) < (X.keys.length : Int)) = false := by simp; omega
      obtain ⟨a, cap, c7, _⟩ := xin_rowK R1.out
      go_wp2_with fail
      go_ret
      refine ⟨?_, HL.out⟩
      rw [pOldLeft_no (fun j k hjk => HI.out j k (by have := (List.getElem?_eq_some_iff.1 hjk).1; omega) hjk)]
      rfl
theorem pDestroy_none (w : World) (k : Int) (h : XIn w F b X) (hk : k < 1 ∨ (X.keys.length : Int) < k) :
    Calls Tryz.prog 47 #[.pointer (some ⟨b, 0, none⟩), .int .i64 k] w fun e w' => e = .returned (.int .i64 12) ∧ w' = w := by
  obtain ⟨a, cap, c7, _⟩ := xin_rowK h
  clear h
  cases q : decide (k < 1)
  · have q2 : decide ((X.keys.length : Int) < k) = true := by simp at q; simp; omega
    clear hk
    go_enter Tryz.func47, Tryz.ntmps47
    go_wp2
    go_ret
    exact ⟨rfl, rfl⟩
  · clear hk
    go_enter Tryz.func47, Tryz.ntmps47
    go_wp2
    go_ret
    exact ⟨rfl, rfl⟩
set_option maxRecDepth 100000 in
theorem pDestroy_gone (w : World) (j : Nat) (P : PKey) (h : XIn w F b X) (hP : X.keys[j]? = some P) (hj : j ≤ 6) (hg : keyGone P = true) :
    Calls Tryz.prog 47 #[.pointer (some ⟨b, 0, none⟩), .int .i64 ((j : Int) + 1)] w fun e w' => e = .returned (.int .i64 14) ∧ Low w.heap.size w w' := by
  obtain ⟨g, cap, hc, hg1, hcs, hf⟩ := xin_keyFull h hP
  have hl : j < X.keys.length := (List.getElem?_eq_some_iff.1 hP).1
  have HC : Hid (w.rangeAt g (j * 3) P.cells) := range_of hcs (fun _ _ e => ⟨(List.getElem?_eq_some_iff.1 e).1, e⟩)
  have q1 : decide ((j : Int) + 1 < 1) = false := by simp; omega
  have q2 : decide ((X.keys.length : Int) < (j : Int) + 1) = false := by simp; omega
  have jl : (j : Int) < (X.keys.length : Int) := by omega
  have hz : (j : Int) + 1 - 1 = (j : Int) := by omega
  have HG := hid hg
  clear h hP hl hg hcs hf
  go_enter Tryz.func47, Tryz.ntmps47
  go_wp2_with (first | ((with_reducible refine ld56 (.tmp 22) g (j * 3) P ?_ HC.out ?_); rfl) | (go_at_call 91; refine (destroyed_any _ P).mono ?_; rw [HG.out]; rintro e y2 ⟨rfl, l2⟩; have L2 := hid l2; clear l2))
  go_ret
  exact ⟨rfl, L2.out⟩
set_option maxRecDepth 100000 in
theorem pDestroy_gate (w : World) (j : Nat) (P : PKey) (h : XIn w F b X) (hP : X.keys[j]? = some P) (hj : j ≤ 6) (hg : keyGone P = false) (hb : (((j : Int) + 1 == X.write) || (X.turn != 3)) = true) :
    Calls Tryz.prog 47 #[.pointer (some ⟨b, 0, none⟩), .int .i64 ((j : Int) + 1)] w fun e w' => e = .returned (.int .i64 20) ∧ Low w.heap.size w w' := by
  obtain ⟨g, cap, hc, hg1, hcs, hf⟩ := xin_keyFull h hP
  have hl : j < X.keys.length := (List.getElem?_eq_some_iff.1 hP).1
  have HC : Hid (w.rangeAt g (j * 3) P.cells) := range_of hcs (fun _ _ e => ⟨(List.getElem?_eq_some_iff.1 e).1, e⟩)
  have q1 : decide ((j : Int) + 1 < 1) = false := by simp; omega
  have q2 : decide ((X.keys.length : Int) < (j : Int) + 1) = false := by simp; omega
  have jl : (j : Int) < (X.keys.length : Int) := by omega
  have hz : (j : Int) + 1 - 1 = (j : Int) := by omega
  have HG := hid hg
  have HR := hid h
  clear h hP hl hg hcs hf
  cases q3 : ((j : Int) + 1 == X.write)
  · have q4 : (X.turn != 3) = true := by rw [q3, Bool.false_or] at hb; exact hb
    clear hb
    go_enter Tryz.func47, Tryz.ntmps47
    go_wp2_with (first | ((with_reducible refine ld56 (.tmp 22) g (j * 3) P ?_ HC.out ?_); rfl) | (go_at_call 91; refine (destroyed_any _ P).mono ?_; rw [HG.out]; rintro e y2 ⟨rfl, l2⟩; have L2 := hid l2; have c3 := xin_write (HR.out.low l2); have c4 := xin_turn (HR.out.low l2); clear l2))
    go_ret
    exact ⟨rfl, L2.out⟩
  · clear hb
    go_enter Tryz.func47, Tryz.ntmps47
    go_wp2_with (first | ((with_reducible refine ld56 (.tmp 22) g (j * 3) P ?_ HC.out ?_); rfl) | (go_at_call 91; refine (destroyed_any _ P).mono ?_; rw [HG.out]; rintro e y2 ⟨rfl, l2⟩; have L2 := hid l2; have c3 := xin_write (HR.out.low l2); have c4 := xin_turn (HR.out.low l2); clear l2))
    go_ret
    exact ⟨rfl, L2.out⟩
def PS.destroyP (X : PS) (j : Nat) (P : PKey) (t : Int) : PS := { X with keys := X.keys.set j { P with text := ⟨#[]⟩ }, turn := t }
set_option maxRecDepth 100000 in
set_option maxHeartbeats 1000000 in
theorem pDestroy_yes (w : World) (j : Nat) (P : PKey) (h : XIn w F b X) (hP : X.keys[j]? = some P) (hj : j ≤ 6) (hk6 : X.keys.length ≤ 6) (hg : keyGone P = false) (hb : (((j : Int) + 1 == X.write) || (X.turn != 3)) = false) :
    Calls Tryz.prog 47 #[.pointer (some ⟨b, 0, none⟩), .int .i64 ((j : Int) + 1)] w fun e w' => e = .returned (.int .i64 0) ∧ XIn w' F b (X.destroyP j P (if pOldLeft (X.keys.set j { P with text := ⟨#[]⟩ }) X.write then X.turn else 0)) ∧ Kept F w w' := by
  obtain ⟨g, cap, hc, hg1, hcs, hf⟩ := xin_keyFull h hP
  have hl : j < X.keys.length := (List.getElem?_eq_some_iff.1 hP).1
  have HC : Hid (w.rangeAt g (j * 3) P.cells) := range_of hcs (fun _ _ e => ⟨(List.getElem?_eq_some_iff.1 e).1, e⟩)
  have q1 : decide ((j : Int) + 1 < 1) = false := by simp; omega
  have q2 : decide ((X.keys.length : Int) < (j : Int) + 1) = false := by simp; omega
  have jl : (j : Int) < (X.keys.length : Int) := by omega
  have hz : (j : Int) + 1 - 1 = (j : Int) := by omega
  have HG := hid hg
  have HR := hid h
  have HP := hid hP
  have HCC := hid hc
  rw [Bool.or_eq_false_iff] at hb
  obtain ⟨q3, q4⟩ := hb
  obtain ⟨ks, hks⟩ : ∃ ks, ks = X.keys.set j { P with text := ⟨#[]⟩ } := ⟨_, rfl⟩
  have HKS := hid hks
  have HL6 : Hid (ks.length ≤ 6) := by show _ ≤ _; rw [hks]; simpa using hk6
  obtain ⟨lf, hlf⟩ : ∃ lf, lf = pOldLeft ks X.write := ⟨_, rfl⟩
  have HLF := hid hlf
  rw [← hks, ← hlf]
  clear h hP hl hg hcs hf hks hlf
  go_enter Tryz.func47, Tryz.ntmps47
  go_upto_region 7 with (first | ((with_reducible refine ld56 (.tmp 22) g (j * 3) P ?_ HC.out ?_); rfl) | (go_at_call 91; refine (destroyed_any _ P).mono ?_; rw [HG.out]; rintro e y2 ⟨rfl, l2⟩; have L2 := hid l2; have R2 := hid (HR.out.low l2); have c3 := xin_write R2.out; have c4 := xin_turn R2.out; clear l2))
  clear hc c3 c4 hg1
  obtain ⟨g2, cap2, hc, hg1, hcs, hf⟩ := xin_keyFull R2.out HP.out
  obtain ⟨r1, k1⟩ := xin_setText R2.out hc j P HP.out ⟨#[]⟩
  have e0 : y2.cell? ⟨g2, j * 3, none⟩ = some (.string P.text) := hcs 0 (by omega)
  have f0 := hf (j * 3)
  have lb := R2.out.lt
  have R1 := hid r1
  have K1 := hid k1
  clear hcs hf r1 k1
  go_upto_region 8 with fail
  go_name_world W hW
  have RW : Hid (XIn W F b { X with keys := ks }) := by
    show XIn W F b _
    rw [← hW, HKS.out]; exact R1.out
  have KW : Hid (Kept F w W) := by
    show Kept F w W
    rw [← hW]; exact L2.out.kept.trans K1.out (fun _ f => f.elim) (fun _ _ f => f)
  clear hW R1 K1 hc e0 f0 hg1
  cases ql : lf
  · go_upto_region 9 with (go_at_call 92; refine (oldKeyLeft_any (X := { X with keys := ks }) _ RW.out HL6.out).mono ?_; rw [show pOldLeft ({ X with keys := ks } : PS).keys ({ X with keys := ks } : PS).write = false from (HLF.out.symm.trans ql)]; rintro e y3 ⟨rfl, l3⟩; have L3 := hid l3; have R3 := hid (RW.out.low l3); clear l3)
    have c4 := xin_turn R3.out
    have f4 := R3.out.frozen 4
    have lb3 := R3.out.lt
    go_wp2_with fail
    go_ret
    refine ⟨rfl, ?_, ?_⟩
    · have := xin_set_turn R3.out 0
      unfold PS.destroyP
      rw [← HKS.out]
      exact this
    · exact (KW.out.trans L3.out.kept (H := F) (fun _ f => f) (fun _ _ f => f.elim)).trans (xset_kept R3.out 4 _) (fun _ f => f) (fun _ _ f => f)
  · go_wp2_with (go_at_call 92; refine (oldKeyLeft_any (X := { X with keys := ks }) _ RW.out HL6.out).mono ?_; rw [show pOldLeft ({ X with keys := ks } : PS).keys ({ X with keys := ks } : PS).write = true from (HLF.out.symm.trans ql)]; rintro e y3 ⟨rfl, l3⟩; have L3 := hid l3; have R3 := hid (RW.out.low l3); clear l3)
    go_ret
    refine ⟨rfl, ?_, KW.out.trans L3.out.kept (fun _ f => f) (fun _ _ f => f.elim)⟩
    unfold PS.destroyP
    rw [← HKS.out]
    exact R3.out
end Go.Proofs.YtphapknfkbgapaaGreatDoor
