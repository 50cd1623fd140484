import Derived.Test.YtphapknfkbgapaaDoorPkBToQB
namespace Go.Proofs.YtphapknfkbgapaaDoor
open Go.RowKit

variable {N : ByteArray → Prop} {X : PS} {Y : RS} {D : PD} {n S : Nat} {R : Int}
theorem Kn.six (h : Kn IsName n X D S R) (hf : D.floor = (D.deeds.length : Int)) : X.entries.length ≤ 6 := by
  obtain ⟨Y, mm, h, k, _, _⟩ := h
  have hl := k.all.len
  have a := kept_once k.out (by rw [← k.floor, hf, hl])
  have c := names_six a (kept_names k.all k.names)
  rw [List.length_map] at c
  rw [h.ent]
  exact c
/-- What a Migrate leaves: as many less are old as were moved; none is left, or all were moved that might be, or it is full. -/
theorem mu_moves (t : Nat) : ∀ (n : Nat) (X : PS) (Y : RS) (D : PD), Rel2 n X Y → Know IsName Y D → n + t ≤ 50000000000000 → ∀ (j : Nat) (K : RKey), writesOf Y.keys Y.epoch = (j : Int) + 1 → Y.keys[j]? = some K →
    ∃ (Y' : RS) (D' : PD) (c : Nat), Rel2 (n + t) (pMoves K.text ((j : Int) + 1) t X).1 Y' ∧ Know IsName Y' D' ∧ Y'.room = Y.room ∧ (pMoves K.text ((j : Int) + 1) t X).1.entries.length = X.entries.length + c ∧ mu Y' + c = mu Y ∧ (mu Y' = 0 ∨ c = t ∨ Y.room ≤ ((X.entries.length + c : Nat) : Int)) := by
  induction t with
  | zero =>
    intro n X Y D h k _ j K _ _
    exact ⟨Y, D, 0, h, k, rfl, rfl, rfl, Or.inr (Or.inl rfl)⟩
  | succ t ih =>
    intro n X Y D h k hn j K hj hK
    obtain ⟨e, _⟩ := first_due h
    cases hf : (dueOf Y).found
    · rw [pmoves_stop (by omega) (e.trans hf)]
      refine ⟨Y, D, 0, h.mono (by omega), k, rfl, rfl, rfl, Or.inl ?_⟩
      unfold mu
      rw [List.countP_eq_zero]
      intro i _ hi
      rw [old_due h k hi] at hf
      cases hf
    · cases hu : fullOf Y
      · have hr := rel_move h (by omega) hj hK hf hu
        have hpm := pmove_same h K ((j : Int) + 1) hf
        obtain ⟨r, d, d1, d2, d3, d4, d5, d6, d7⟩ := due_deed h k hf
        have hk2 := know_move h k hj hK d5 d4 d3 d6 d7
        have hm := mu_move (K := K) h k hf hj
        obtain ⟨Y', D', c, a1, a2, a3, a4, a5, a6⟩ := ih (n + 1) _ _ _ hr hk2 (by omega) j K hj hK
        rw [pmoves_step (e.trans hf) ((pFull_same h).trans hu), hpm]
        have hl : (X.moved (moveEnt Y K ((j : Int) + 1))).entries.length = X.entries.length + 1 := by
          show (X.entries ++ [_]).length = _
          simp
        rw [hl] at a4 a6
        refine ⟨Y', D', c + 1, a1.mono (by omega), a2, a3, by rw [a4]; omega, by omega, ?_⟩
        rcases a6 with q | q | q
        · exact Or.inl q
        · exact Or.inr (Or.inl (by omega))
        · refine Or.inr (Or.inr ?_)
          have q : Y.room ≤ ((X.entries.length + 1 + c : Nat) : Int) := q
          omega
      · rw [pmoves_full (by omega) (e.trans hf) ((pFull_same h).trans hu)]
        refine ⟨Y, D, 0, h.mono (by omega), k, rfl, rfl, rfl, Or.inr (Or.inr ?_)⟩
        have q : fullOf Y = true := hu
        unfold fullOf at q
        rw [h.ent]
        simp at q
        simpa using q
/-- Whatever the player knows: at most m paths are old. -/
def Sh (n : Nat) (X : PS) (R : Int) (m : Nat) : Prop := ∃ (Y : RS) (D : PD), Rel2 n X Y ∧ Know IsName Y D ∧ Y.room = R ∧ mu Y ≤ m
theorem Kn.sh (h : Kn IsName n X D S R) : Sh n X R 6 := by
  obtain ⟨Y, mm, h, k, _, r, sl, _⟩ := h
  exact ⟨Y, D, h.mono sl.le, k, r, mu_six Y⟩
theorem Sh.mono {m k : Nat} (h : Sh n X R m) (hk : n ≤ k) : Sh k X R m := by
  obtain ⟨Y, D, h, kn, r, hm⟩ := h
  exact ⟨Y, D, h.mono hk, kn, r, hm⟩
theorem Sh.moves {X' : PS} {m : Nat} (h : Sh n X R m) (hn : n ≤ 40000000000000) (hg : Migd X X' 20) : Sh (n + 20) X' R m ∧ (8 ≤ R → X.entries.length ≤ 6 → Sh (n + 20) X' R (m - 2)) := by
  obtain ⟨Y, D, h, kn, r, hm⟩ := h
  obtain ⟨j, P, g1, g2, rfl⟩ := hg
  obtain ⟨j2, p, K, b1, b2, b3, b4, b5, _, b7, _⟩ := h.writer
  have hjj : j2 = j := by rw [g1] at b1; omega
  subst hjj
  obtain rfl := Option.some.inj (b3.symm.trans g2)
  rw [b5.text b7]
  obtain ⟨Y', D', c, a1, a2, a3, a4, a5, a6⟩ := mu_moves 20 n X Y D h kn (by omega) j2 K b2 b4
  have h6 := mu_six Y
  refine ⟨⟨Y', D', a1, a2, a3.trans r, by omega⟩, fun hR he => ⟨Y', D', a1, a2, a3.trans r, ?_⟩⟩
  rw [r] at a6
  rcases a6 with q | q | q <;> omega
theorem Sh.compact {m : Nat} {n2 : Nat} (h : Sh n X R m) (k : Kn IsName n2 X D S R) (hlt : D.floor < (D.deeds.length : Int)) : Sh (n + 1) (X.compact (D.deeds.length : Int)) R m := by
  obtain ⟨Y, D2, h, kn, r, hm⟩ := h
  obtain ⟨Y1, mm, h1, k1, _, _⟩ := k
  have e1 : Y1.all.length = Y.all.length := by have := h.rev; have := h1.rev; omega
  have e2 : Y1.floor = Y.floor := by rw [← h.floor, ← h1.floor]
  have hd := k1.deeds
  have hf := k1.floor
  exact ⟨Y.compact D.deeds.length, _, rel_compact h D.deeds.length, know_compact kn h D.deeds.length (by omega) (by omega), r, by rw [mu_compact]; exact hm⟩
theorem Sh.unused {n2 : Nat} (h : Sh n X R 0) (k : Kn IsName n2 X D S R) (hf : D.floor = (D.deeds.length : Int)) : pUsed X = false := by
  obtain ⟨Y, D2, h, kn, r, hm⟩ := h
  obtain ⟨Y1, mm, h1, k1, _, _⟩ := k
  have e1 : Y1.all.length = Y.all.length := by have := h.rev; have := h1.rev; omega
  have e2 : Y1.floor = Y.floor := by rw [← h.floor, ← h1.floor]
  exact Go.Proofs.YtphapknfkbgapaaDoor.unused h kn (by omega) (by rw [kn.floor, kn.deeds, ← e1, ← e2, ← k1.deeds, ← k1.floor]; exact hf)
end Go.Proofs.YtphapknfkbgapaaDoor
