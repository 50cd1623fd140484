import Derived.Test.YtphapknfkbgapaaGreatDoorRelBToRelD
import Derived.Test.YtphapknfkbgapaaGreatDoorRefIToLawC
import Derived.Test.YtphapknfkbgapaaGreatDoorRefNToLawD
import Derived.Test.YtphapknfkbgapaaGreatDoorLawEToRefK
namespace Go.Proofs.YtphapknfkbgapaaGreatDoor
open Go.RowKit

/-! Many keys, on either side: plain data. -/

/-- A key on either side. -/
structure KSame (p : PKey) (k : RKey) : Prop where
  came : p.came = k.came
  wrote : p.wrote = k.writes
  size : k.text.size = 48
  text : k.gone = false → p.text = k.text
  gone : k.gone = true → p.text = ⟨#[]⟩
structure Keys2 (ks : List PKey) (rs : List RKey) (ep turn : Int) : Prop where
  len : ks.length = rs.length
  few : 1 ≤ rs.length ∧ rs.length ≤ 6
  same : ∀ (i : Nat) (p : PKey) (k : RKey), ks[i]? = some p → rs[i]? = some k → KSame p k
  first : ∀ k, rs[0]? = some k → k.came = 1 ∧ k.writes = 1
  came : ∀ (i : Nat) (k : RKey), rs[i]? = some k → 1 ≤ k.came ∧ k.came ≤ ep
  wr : ∀ (i : Nat) (k : RKey), rs[i]? = some k → 0 ≤ k.writes ∧ k.writes ≤ ep
  zero : ∀ (i : Nat) (k : RKey), rs[i]? = some k → k.writes = 0 → i + 1 = rs.length ∧ turn = 1
  rise : ∀ (i j : Nat) (a c : RKey), i < j → rs[i]? = some a → rs[j]? = some c → c.writes ≠ 0 → a.writes < c.writes
  staged : turn = 1 → ∀ k, rs[rs.length - 1]? = some k → k.writes = 0
  fresh : ∀ (i : Nat) (k : RKey), rs[i]? = some k → k.writes = 0 → k.gone = false
def writesAt (k : RKey) (e : Int) : Bool := decide (0 < k.writes) && decide (k.writes ≤ e)
/-- The key that wrote in an epoch is the last one that writes since then. -/
theorem writes_spec (e : Int) (rs : List RKey) : (writesOf rs e = 0 ∧ ∀ (i : Nat) (k : RKey), rs[i]? = some k → writesAt k e = false) ∨ ∃ (j : Nat) (K : RKey), writesOf rs e = (j : Int) + 1 ∧ rs[j]? = some K ∧ writesAt K e = true ∧ ∀ (i : Nat) (k : RKey), j < i → rs[i]? = some k → writesAt k e = false := by
  refine snoc_ind (P := fun rs => (writesOf rs e = 0 ∧ ∀ (i : Nat) (k : RKey), rs[i]? = some k → writesAt k e = false) ∨ ∃ (j : Nat) (K : RKey), writesOf rs e = (j : Int) + 1 ∧ rs[j]? = some K ∧ writesAt K e = true ∧ ∀ (i : Nat) (k : RKey), j < i → rs[i]? = some k → writesAt k e = false) ?_ ?_ rs
  · exact Or.inl ⟨rfl, fun i k h => by simp at h⟩
  · intro l x ih
    have last : ∀ (i : Nat) (k : RKey), (l ++ [x])[i]? = some k → l[i]? = some k ∨ (i = l.length ∧ k = x) := by
      intro i k hk
      by_cases hi : i < l.length
      · rw [List.getElem?_append_left hi] at hk; exact Or.inl hk
      · rw [List.getElem?_append_right (by omega)] at hk
        have : i - l.length < 1 := (List.getElem?_eq_some_iff.1 hk).1
        have hi2 : i = l.length := by omega
        subst hi2
        rw [Nat.sub_self] at hk
        exact Or.inr ⟨rfl, (Option.some.inj hk).symm⟩
    rw [writesOf_snoc]
    cases hx : writesAt x e
    · have hx' : (decide (0 < x.writes) && decide (x.writes ≤ e)) = false := hx
      rw [hx', if_neg (by simp)]
      rcases ih with ⟨h0, h1⟩ | ⟨j, K, h0, h1, h2, h3⟩
      · refine Or.inl ⟨h0, fun i k hk => ?_⟩
        rcases last i k hk with q | ⟨_, rfl⟩
        · exact h1 i k q
        · exact hx
      · have hj : j < l.length := (List.getElem?_eq_some_iff.1 h1).1
        refine Or.inr ⟨j, K, h0, by rw [List.getElem?_append_left hj]; exact h1, h2, fun i k hij hk => ?_⟩
        rcases last i k hk with q | ⟨_, rfl⟩
        · exact h3 i k hij q
        · exact hx
    · have hx' : (decide (0 < x.writes) && decide (x.writes ≤ e)) = true := hx
      rw [hx', if_pos rfl]
      refine Or.inr ⟨l.length, x, by simp, by rw [List.getElem?_append_right (Nat.le_refl _)]; simp, hx, fun i k hij hk => ?_⟩
      rcases last i k hk with q | ⟨rfl, _⟩
      · have := (List.getElem?_eq_some_iff.1 q).1; omega
      · omega
/-- Two that are the last ones are one. -/
theorem writes_unique {e : Int} {rs : List RKey} {j : Nat} {K : RKey} (h1 : rs[j]? = some K) (h2 : writesAt K e = true) (h3 : ∀ (i : Nat) (k : RKey), j < i → rs[i]? = some k → writesAt k e = false) : writesOf rs e = (j : Int) + 1 := by
  rcases writes_spec e rs with ⟨_, q⟩ | ⟨j', K', q0, q1, q2, q3⟩
  · rw [q j K h1] at h2; cases h2
  · rcases Nat.lt_trichotomy j j' with hlt | rfl | hlt
    · rw [h3 j' K' hlt q1] at q2; cases q2
    · exact q0
    · rw [q3 j K hlt h1] at h2; cases h2
theorem writer_tail (e : Int) (k0 : RKey) (h0 : writesAt k0 e = true) : ∀ (l : List PKey) (l' : List RKey), l.length = l'.length → (∀ (i : Nat) (p : PKey) (k : RKey), l[i]? = some p → l'[i]? = some k → p.wrote = k.writes ∧ 0 ≤ k.writes) → writerR l e = writesR (l' ++ [k0]) e
  | [], [], _, _ => by
    have h0' : (decide (0 < k0.writes) && decide (k0.writes ≤ e)) = true := h0
    simp only [List.nil_append, writerR, writesR, h0']
    rfl
  | p :: r, k :: r', hl, hs => by
    have hl' : r.length = r'.length := by simpa using hl
    obtain ⟨a1, a2⟩ := hs 0 p k rfl rfl
    have ih := writer_tail e k0 h0 r r' hl' (fun i p k hp hk => hs (i + 1) p k (by simpa using hp) (by simpa using hk))
    have hb : ((p.wrote != 0) && decide (p.wrote ≤ e)) = (decide (0 < k.writes) && decide (k.writes ≤ e)) := by
      rw [a1]
      congr 1
      rw [Bool.eq_iff_iff, bne_iff_ne, decide_eq_true_eq]
      omega
    show (if (p.wrote != 0) && decide (p.wrote ≤ e) then (r.length + 2 : Int) else writerR r e) = (if decide (0 < k.writes) && decide (k.writes ≤ e) then ((r' ++ [k0]).length + 1 : Int) else writesR (r' ++ [k0]) e)
    rw [hb, ih, hl']
    simp
    rfl
theorem Keys2.writer {ks : List PKey} {rs : List RKey} {ep turn : Int} (h : Keys2 ks rs ep turn) {e : Int} (he : 1 ≤ e) : writerOf ks e = writesOf rs e := by
  have hf := h.few.1
  have hl := h.len
  cases rs with
  | nil => simp at hf
  | cons k r' =>
    cases ks with
    | nil => simp at hl
    | cons p r =>
      have hl' : r.length = r'.length := by simpa using hl
      have h0 : writesAt k e = true := by
        obtain ⟨_, q⟩ := h.first k rfl
        simp [writesAt, q]
        omega
      unfold writerOf writesOf
      rw [List.reverse_cons]
      show writerR r.reverse e = _
      refine writer_tail e k h0 r.reverse r'.reverse (by simp [hl']) (fun i p2 k2 hp hk => ?_)
      have hi : i < r.length := by simpa using (List.getElem?_eq_some_iff.1 hp).1
      rw [List.getElem?_reverse hi] at hp
      rw [List.getElem?_reverse (by omega)] at hk
      have e1 : r.length - 1 - i = r'.length - 1 - i := by omega
      rw [e1] at hp
      have hs := h.same (r'.length - 1 - i + 1) p2 k2 (by simpa using hp) (by simpa using hk)
      exact ⟨hs.wrote, (h.wr (r'.length - 1 - i + 1) k2 (by simpa using hk)).1⟩
/-- There is one that writes. -/
theorem Keys2.writing {ks : List PKey} {rs : List RKey} {ep turn : Int} (h : Keys2 ks rs ep turn) {e : Int} (he : 1 ≤ e) : ∃ (j : Nat) (p : PKey) (K : RKey), writesOf rs e = (j : Int) + 1 ∧ ks[j]? = some p ∧ rs[j]? = some K ∧ KSame p K ∧ 0 < K.writes ∧ K.writes ≤ e ∧ ∀ (i : Nat) (k : RKey), j < i → rs[i]? = some k → writesAt k e = false := by
  rcases writes_spec e rs with ⟨_, q⟩ | ⟨j, K, q0, q1, q2, q3⟩
  · exfalso
    obtain ⟨k, hk⟩ : ∃ k, rs[0]? = some k := ⟨_, List.getElem?_eq_getElem (by have := h.few.1; omega)⟩
    have h1 := q 0 k hk
    have h2 := (h.first k hk).2
    simp [writesAt, h2] at h1
    omega
  · have hj : j < rs.length := (List.getElem?_eq_some_iff.1 q1).1
    obtain ⟨p, hp⟩ : ∃ p, ks[j]? = some p := ⟨_, List.getElem?_eq_getElem (by rw [h.len]; exact hj)⟩
    simp [writesAt] at q2
    exact ⟨j, p, K, q0, hp, q1, h.same j p K hp q1, q2.1, q2.2, q3⟩
theorem prom_snoc (l : List RKey) (x k0 : RKey) : promOf (k0 :: (l ++ [x])) = if decide (promOf (k0 :: l) < x.writes) then x.writes else promOf (k0 :: l) := by
  unfold promOf
  simp [promR]
theorem prom_spec (k0 : RKey) (t : List RKey) : 0 ≤ promOf (k0 :: t) ∧ (∀ k ∈ t, k.writes ≤ promOf (k0 :: t)) ∧ (promOf (k0 :: t) = 0 ∨ ∃ k ∈ t, promOf (k0 :: t) = k.writes) := by
  refine snoc_ind (P := fun t => 0 ≤ promOf (k0 :: t) ∧ (∀ k ∈ t, k.writes ≤ promOf (k0 :: t)) ∧ (promOf (k0 :: t) = 0 ∨ ∃ k ∈ t, promOf (k0 :: t) = k.writes)) ?_ ?_ t
  · exact ⟨Int.le_refl 0, fun k hk => by simp at hk, Or.inl rfl⟩
  · intro l x ⟨h1, h2, h3⟩
    rw [prom_snoc]
    by_cases hx : promOf (k0 :: l) < x.writes
    · rw [decide_eq_true hx, if_pos rfl]
      refine ⟨by omega, fun k hk => ?_, Or.inr ⟨x, by simp, rfl⟩⟩
      rcases List.mem_append.1 hk with q | q
      · have := h2 k q; omega
      · obtain rfl := List.mem_singleton.1 q; omega
    · rw [decide_eq_false hx, if_neg (by simp)]
      refine ⟨h1, fun k hk => ?_, ?_⟩
      · rcases List.mem_append.1 hk with q | q
        · exact h2 k q
        · obtain rfl := List.mem_singleton.1 q; omega
      · rcases h3 with q | ⟨k, hk, q⟩
        · exact Or.inl q
        · exact Or.inr ⟨k, by simp [hk], q⟩
/-- The last Promote: that of the key that writes now, if it is not the first. -/
theorem Keys2.prom {ks : List PKey} {rs : List RKey} {ep turn : Int} (h : Keys2 ks rs ep turn) {j : Nat} {K : RKey} (hj : writesOf rs ep = (j : Int) + 1) (hK : rs[j]? = some K) : promOf rs = if j = 0 then 0 else K.writes := by
  have hf := h.few.1
  have hW : ∀ (i : Nat) (k : RKey), j < i → rs[i]? = some k → k.writes = 0 := by
    intro i k hi hk
    rcases writes_spec ep rs with ⟨q, _⟩ | ⟨j', K', q0, q1, q2, q3⟩
    · omega
    · have : j' = j := by omega
      subst this
      have q := q3 i k hi hk
      have := h.wr i k hk
      simp [writesAt] at q
      omega
  cases rs with
  | nil => simp at hf
  | cons k0 t =>
    obtain ⟨s1, s2, s3⟩ := prom_spec k0 t
    by_cases hz : j = 0
    · subst hz
      rw [if_pos rfl]
      rcases s3 with q | ⟨k, hk, q⟩
      · exact q
      · obtain ⟨i, hi⟩ := List.getElem?_of_mem hk
        rw [q]
        exact hW (i + 1) k (by omega) (by simpa using hi)
    · rw [if_neg hz]
      obtain ⟨i, rfl⟩ : ∃ i, j = i + 1 := ⟨j - 1, by omega⟩
      have hKt : t[i]? = some K := by simpa using hK
      have hKm := s2 K (List.mem_of_getElem? hKt)
      have hK0 : 0 < K.writes := by
        rcases writes_spec ep (k0 :: t) with ⟨q, _⟩ | ⟨j', K', q0, q1, q2, q3⟩
        · omega
        · have : j' = i + 1 := by omega
          subst this
          obtain rfl := Option.some.inj (q1.symm.trans hK)
          simp [writesAt] at q2
          exact q2.1
      rcases s3 with q | ⟨k, hk, q⟩
      · omega
      · obtain ⟨x, hx⟩ := List.getElem?_of_mem hk
        have hx' : (k0 :: t)[x + 1]? = some k := by simpa using hx
        rcases Nat.lt_trichotomy x i with hlt | rfl | hlt
        · have := h.rise (x + 1) (i + 1) k K (by omega) hx' hK (by omega)
          omega
        · obtain rfl := Option.some.inj (hx.symm.trans hKt)
          exact q
        · have := hW (x + 1) k (by omega) hx'
          omega
/-- Since the last Promote the same key has written. -/
theorem Keys2.still {ks : List PKey} {rs : List RKey} {ep turn : Int} (h : Keys2 ks rs ep turn) {e : Int} (he : 1 ≤ e) (he2 : e ≤ ep) (hp : promOf rs ≤ e) : writesOf rs e = writesOf rs ep := by
  obtain ⟨j, p, K, q0, _, q1, _, q2, q3, q4⟩ := h.writing (e := ep) (by omega)
  rw [q0]
  have hpr := h.prom q0 q1
  refine writes_unique q1 ?_ (fun i k hi hk => ?_)
  · by_cases hz : j = 0
    · subst hz
      have := (h.first K q1).2
      simp [writesAt, this]
      omega
    · rw [if_neg hz] at hpr
      simp [writesAt]
      omega
  · have := q4 i k hi hk
    simp [writesAt] at this ⊢
    omega
theorem writes_congr {e : Int} {rs rs' : List RKey} (hl : rs.length = rs'.length) (h : ∀ (i : Nat) (k k' : RKey), rs[i]? = some k → rs'[i]? = some k' → writesAt k e = writesAt k' e) : writesOf rs e = writesOf rs' e := by
  have other : ∀ (i : Nat) (k' : RKey), rs'[i]? = some k' → ∃ k, rs[i]? = some k := fun i k' hk => ⟨_, List.getElem?_eq_getElem (by have := (List.getElem?_eq_some_iff.1 hk).1; omega)⟩
  rcases writes_spec e rs with ⟨q, q1⟩ | ⟨j, K, q0, q1, q2, q3⟩
  · rcases writes_spec e rs' with ⟨p, _⟩ | ⟨j', K', p0, p1, p2, _⟩
    · rw [q, p]
    · obtain ⟨k, hk⟩ := other j' K' p1
      have := h j' k K' hk p1
      rw [q1 j' k hk, p2] at this
      cases this
  · obtain ⟨K', hK'⟩ : ∃ K', rs'[j]? = some K' := ⟨_, List.getElem?_eq_getElem (by have := (List.getElem?_eq_some_iff.1 q1).1; omega)⟩
    rw [q0]
    refine (writes_unique hK' (by rw [← h j K K' q1 hK']; exact q2) (fun i k' hi hk' => ?_)).symm
    obtain ⟨k, hk⟩ := other i k' hk'
    rw [← h i k k' hk hk']
    exact q3 i k hi hk
theorem Keys2.later {ks : List PKey} {rs : List RKey} {ep turn : Int} (h : Keys2 ks rs ep turn) {e : Int} (h1 : 1 ≤ ep) (he : ep ≤ e) : writesOf rs e = writesOf rs ep := by
  obtain ⟨j, p, K, q0, _, q1, _, q2, q3, q4⟩ := h.writing h1
  rw [q0]
  refine writes_unique q1 ?_ (fun i k hi hk => ?_)
  · simp [writesAt]
    omega
  · have a1 := q4 i k hi hk
    have a2 := h.wr i k hk
    simp [writesAt] at a1 ⊢
    omega
end Go.Proofs.YtphapknfkbgapaaGreatDoor
namespace Go.Proofs.YtphapknfkbgapaaGreatDoor
open Go.RowKit

/-! The document's turning of the key: going, Gate, Stage, Promote, Destroy. -/

variable {F : Nat → Prop} {b : Nat} {Y : RS}

theorem rin_setTurn {w : World} (h : RIn w F b Y) (n : Int) : RIn (w.setCell ⟨b, 10, none⟩ (.int .i64 n)) F b { Y with turn := n } := by
  obtain ⟨h8, vA, vK, vS, vO, vN, h⟩ := h
  exact ⟨h8, vA, vK, vS, vO, vN, (h.set 10 (.int .i64 n) (by simp [RS.rows])).cast rfl rfl⟩
theorem rin_setEpoch {w : World} (h : RIn w F b Y) (n : Int) : RIn (w.setCell ⟨b, 7, none⟩ (.int .i64 n)) F b { Y with epoch := n } := by
  obtain ⟨h8, vA, vK, vS, vO, vN, h⟩ := h
  exact ⟨h8, vA, vK, vS, vO, vN, (h.set 7 (.int .i64 n) (by simp [RS.rows])).cast rfl rfl⟩
theorem rin_setWrites {w : World} (h : RIn w F b Y) {g cap : Nat} (hc : w.cell? ⟨b, 4, none⟩ = some (.slice (some ⟨g, 0, none⟩) Y.keys.length cap)) (i : Nat) (k : RKey) (hk : Y.keys[i]? = some k) (v : Int) :
    RIn (w.setCell ⟨g, i * 4 + 2, none⟩ (.int .i64 v)) F b { Y with keys := Y.keys.set i { k with writes := v } } ∧ Kept F w (w.setCell ⟨g, i * 4 + 2, none⟩ (.int .i64 v)) := by
  obtain ⟨vA, vK, vS, vO, vN, hO, c3, c4, c5, c6⟩ := h.vals
  obtain rfl : vK = _ := Option.some.inj (c4.symm.trans hc)
  obtain ⟨q1, q2⟩ := own_cellSet hO 1 RKey.len rfl rfl i k { k with writes := v } hk 2 (by omega) (.int .i64 v) rfl
  exact ⟨⟨h.1, vA, _, vS, vO, vN, q1.cast rfl (by simp [RS.rows])⟩, q2⟩
theorem rin_setGone {w : World} (h : RIn w F b Y) {g cap : Nat} (hc : w.cell? ⟨b, 4, none⟩ = some (.slice (some ⟨g, 0, none⟩) Y.keys.length cap)) (i : Nat) (k : RKey) (hk : Y.keys[i]? = some k) (v : Bool) :
    RIn (w.setCell ⟨g, i * 4 + 3, none⟩ (.bool v)) F b { Y with keys := Y.keys.set i { k with gone := v } } ∧ Kept F w (w.setCell ⟨g, i * 4 + 3, none⟩ (.bool v)) := by
  obtain ⟨vA, vK, vS, vO, vN, hO, c3, c4, c5, c6⟩ := h.vals
  obtain rfl : vK = _ := Option.some.inj (c4.symm.trans hc)
  obtain ⟨q1, q2⟩ := own_cellSet hO 1 RKey.len rfl rfl i k { k with gone := v } hk 3 (by omega) (.bool v) rfl
  exact ⟨⟨h.1, vA, _, vS, vO, vN, q1.cast rfl (by simp [RS.rows])⟩, q2⟩
theorem set_kept {w : World} (h : RIn w F b Y) (i : Nat) (v : Value) : Kept F w (w.setCell ⟨b, i, none⟩ v) := (setCell_kept w ⟨b, i, none⟩ v).mono (fun q _ e => by rw [show q = b from e]; exact h.inF)

def goingOf (Y : RS) : Bool := (Y.turn == 2) || (Y.turn == 3)
theorem going_any (w : World) (h : RIn w F b Y) :
    Calls Tryz.prog 88 #[.pointer (some ⟨b, 0, none⟩)] w fun e w' => e = .returned (.bool (goingOf Y)) ∧ w' = w := by
  have c := h.turn
  clear h
  cases q : (Y.turn == 2)
  all_goals
    go_enter Tryz.func88, Tryz.ntmps88
    go_wp2
    go_ret
    exact ⟨by simp [goingOf, q], rfl⟩

/-- Is an old key in use? -/
def usedOf (Y : RS) : Bool := (keptOf Y.all).any (fun e => !e.gone && (e.key != writesOf Y.keys Y.epoch))
def gateErr (Y : RS) : Int := if usedOf Y then 19 else 0
def RS.gate (Y : RS) : RS := if usedOf Y then Y else { Y with turn := 3 }
theorem row_ent {w : World} {g n cap : Nat} {l : List Ent} (h : w.ownsRow 0 50 6 (.slice (some ⟨g, 0, none⟩) n cap) n (l.flatMap Ent.cells)) (hn : n = l.length) (i : Nat) (k : Ent) (hk : l[i]? = some k) (q : Nat) (hq : q < 6) : w.cell? ⟨g, i * 6 + q, none⟩ = k.cells[q]? := by
  have hi : i < l.length := (List.getElem?_eq_some_iff.1 hk).1
  rw [h.cellAt (i * 6 + q) (by omega), flat_at 6 Ent.cells Ent.len l i q k hk hq]
theorem any_snoc {α : Type} (l : List α) (i : Nat) (x : α) (p : α → Bool) (h : l[i]? = some x) : (l.take (i + 1)).any p = ((l.take i).any p || p x) := by
  rw [take_snoc h, List.any_append]; simp
theorem any_at {α : Type} (l : List α) (i : Nat) (x : α) (p : α → Bool) (h : l[i]? = some x) (hp : p x = true) : l.any p = true := List.any_eq_true.2 ⟨x, List.mem_of_getElem? h, hp⟩
theorem Gate_turn (w : World) (h : RIn w F b Y) (hg : goingOf Y = false) :
    Calls Tryz.prog 46 #[.pointer (some ⟨b, 0, none⟩)] w fun e w' => e = .returned (.int .i64 17) ∧ w' = w := by
  have HR := hid h
  have HG := hid hg
  clear h hg
  go_enter Tryz.func46, Tryz.ntmps46
  go_wp2_with (go_at_call 88; refine (going_any _ HR.out).mono ?_; rw [HG.out]; rintro e y1 ⟨rfl, hy⟩; obtain rfl := hy.symm)
  go_ret
  exact ⟨rfl, rfl⟩
set_option maxRecDepth 100000 in
set_option maxHeartbeats 1000000 in
theorem Gate_any (w : World) (h : RIn w F b Y) (hg : goingOf Y = true) (hk : Y.keys.length ≤ 6) (hn : Y.all.length ≤ 100000000) :
    Calls Tryz.prog 46 #[.pointer (some ⟨b, 0, none⟩)] w fun e w' => e = .returned (.int .i64 (gateErr Y)) ∧ RIn w' F b Y.gate ∧ Kept F w w' := by
  have HR := hid h
  have HG := hid hg
  have c7 := h.epoch
  obtain ⟨m, hm⟩ : ∃ m, m = writesOf Y.keys Y.epoch := ⟨_, rfl⟩
  have HM := hid hm
  have hlen : (keptOf Y.all).length ≤ Y.all.length := by simpa [keptOf] using List.length_filter_le _ Y.all
  obtain ⟨l, hl⟩ : ∃ l, l = keptOf Y.all := ⟨_, rfl⟩
  have HL := hid hl
  rw [← hl] at hlen
  clear h hg hm hl
  go_enter Tryz.func46, Tryz.ntmps46
  go_upto_region 6 with (first | (go_at_call 88; refine (going_any _ HR.out).mono ?_; rw [HG.out]; rintro e y1 ⟨rfl, hy⟩; obtain rfl := hy.symm) | (go_at_call 65; refine (writes_any _ _ HR.out hk).mono ?_; rw [← HM.out]; rintro e y1 ⟨rfl, hy⟩; obtain rfl := hy.symm) | (go_at_call 58; refine (Entries_any _ HR.out hn).mono ?_; rw [← HL.out]; rintro e y1 ⟨v1, rfl, l1, o1, b1⟩; obtain ⟨a1, cap1, rfl, _, _⟩ := ownsRow_view o1; have L1 := hid l1; have O1 := hid o1; clear l1 o1 b1))
  have R1 : Hid (RIn y1 F b Y) := HR.out.low L1.out
  clear c7
  go_wp2_with fail
  go_loopg [6] l.length (fun left iv wr => ∃ i : Nat, left = l.length - i ∧ i ≤ l.length ∧ iv = .int .i64 (i : Int) ∧ Hid ((l.take i).any (fun e => !e.gone && (e.key != m)) = false) ∧ y1 = wr)
  case atStart => exact ⟨0, rfl, Nat.zero_le _, rfl, by show _ = _; simp, rfl⟩
  case round =>
    obtain ⟨i, hgk, hi, rfl, HI, rfl⟩ := hrel
    have HGK := hid hgk
    clear hgk
    by_cases h3 : i < l.length
    · have q1 : decide ((i : Int) < (l.length : Int)) = true := by simp; omega
      have il : (i : Int) < (l.length : Int) := by omega
      obtain ⟨k, hk2⟩ : ∃ k, l[i]? = some k := ⟨_, List.getElem?_eq_getElem h3⟩
      obtain ⟨s1, t1, e1, _, f1⟩ := ownsRow_view O1.out
      obtain ⟨g1, rfl, _, _, _⟩ := f1 (by omega)
      cases e1
      have p2 : y1.cell? ⟨g1, i * 6 + 2, none⟩ = some (.int .i64 k.key) := row_ent O1.out rfl i k hk2 2 (by omega)
      have p5 : y1.cell? ⟨g1, i * 6 + 5, none⟩ = some (.bool k.gone) := row_ent O1.out rfl i k hk2 5 (by omega)
      have HK := hid hk2
      clear f1 hk2
      cases qg : k.gone
      · rw [qg] at p5
        cases qk : (k.key != m)
        · go_wp2_with fail
          go_roundg (l.length - (i + 1))
          case rel => exact ⟨i + 1, rfl, by omega, by simp, by show _ = _; rw [any_snoc l i k _ HK.out, HI.out, qg, qk]; rfl, rfl⟩
          case measure => have := HGK.out; omega
        · go_wp2_with fail
          go_ret
          have hu : usedOf Y = true := by unfold usedOf; rw [← HL.out, ← HM.out]; exact any_at l i k _ HK.out (by rw [qg, qk]; rfl)
          refine ⟨by simp [gateErr, hu], ?_, L1.out.kept.mono (fun _ _ f => f.elim)⟩
          unfold RS.gate
          rw [hu]
          exact R1.out
      · rw [qg] at p5
        go_wp2_with fail
        go_roundg (l.length - (i + 1))
        case rel => exact ⟨i + 1, rfl, by omega, by simp, by show _ = _; rw [any_snoc l i k _ HK.out, HI.out, qg]; rfl, rfl⟩
        case measure => have := HGK.out; omega
    · have q1 : decide ((i : Int) < (l.length : Int)) = false := by simp; omega
      have hu : Hid (usedOf Y = false) := by
        show usedOf Y = false
        unfold usedOf
        rw [← HL.out, ← HM.out]
        have := HI.out
        rwa [List.take_of_length_le (by omega)] at this
      have c10 := R1.out.turn
      have f10 := R1.out.frozen 10
      have lb := R1.out.lt
      go_wp2_with fail
      go_ret
      refine ⟨by simp [gateErr, hu.out], ?_, ?_⟩
      · unfold RS.gate
        rw [hu.out]
        exact rin_setTurn R1.out 3
      · exact L1.out.kept.trans (set_kept R1.out 10 _) (fun _ f => f.elim) (fun _ _ f => f)
/-! Stage. -/
def RS.stage (Y : RS) (text : ByteArray) : RS := { Y with epoch := Y.epoch + 1, keys := Y.keys ++ [⟨text, Y.epoch + 1, 0, false⟩], turn := 1 }
theorem Stage_arg (w : World) (text : ByteArray) (ht : ((text.size : Int) != 48) = true) :
    Calls Tryz.prog 40 #[.pointer (some ⟨b, 0, none⟩), .string text] w fun e w' => e = .returned (.tuple #[.int .i64 0, .int .i64 2]) ∧ w' = w := by
  go_enter Tryz.func40, Tryz.ntmps40
  go_wp2
  go_ret2
  exact ⟨rfl, rfl⟩
theorem Stage_many (w : World) (text : ByteArray) (h : RIn w F b Y) (ht : ((text.size : Int) != 48) = false) (hk : Y.keys.length = 6) :
    Calls Tryz.prog 40 #[.pointer (some ⟨b, 0, none⟩), .string text] w fun e w' => e = .returned (.tuple #[.int .i64 0, .int .i64 16]) ∧ w' = w := by
  obtain ⟨a, cap, hc, _⟩ := h.keys
  rw [List.length_map, hk] at hc
  clear h hk
  go_enter Tryz.func40, Tryz.ntmps40
  go_wp2
  go_ret2
  exact ⟨rfl, rfl⟩
theorem Stage_turn (w : World) (text : ByteArray) (h : RIn w F b Y) (ht : ((text.size : Int) != 48) = false) (hk : Y.keys.length < 6) (hu : (Y.turn != 0) = true) :
    Calls Tryz.prog 40 #[.pointer (some ⟨b, 0, none⟩), .string text] w fun e w' => e = .returned (.tuple #[.int .i64 0, .int .i64 17]) ∧ w' = w := by
  obtain ⟨a, cap, hc, _⟩ := h.keys
  rw [List.length_map] at hc
  have c := h.turn
  have q1 : ((Y.keys.length : Int) == 6) = false := beq_eq_false_iff_ne.2 (by omega)
  clear h hk
  go_enter Tryz.func40, Tryz.ntmps40
  go_wp2
  go_ret2
  exact ⟨rfl, rfl⟩
end Go.Proofs.YtphapknfkbgapaaGreatDoor
namespace Go.Proofs.YtphapknfkbgapaaGreatDoor
open Go.RowKit

variable {F : Nat → Prop} {b : Nat} {Y : RS}

set_option maxRecDepth 100000 in
set_option maxHeartbeats 1000000 in
theorem Stage_yes (w : World) (text : ByteArray) (h : RIn w F b Y) (ht : ((text.size : Int) != 48) = false) (hk : Y.keys.length < 6) (hu : (Y.turn != 0) = false) (he : 0 ≤ Y.epoch ∧ Y.epoch ≤ 1000000) :
    Calls Tryz.prog 40 #[.pointer (some ⟨b, 0, none⟩), .string text] w fun e w' => e = .returned (.tuple #[.int .i64 ((Y.keys.length : Int) + 1), .int .i64 0]) ∧ RIn w' (grow F w w') b (Y.stage text) ∧ Kept F w w' := by
  obtain ⟨a, cap, hc, _⟩ := h.keys
  rw [List.length_map] at hc
  have c := h.turn
  have c7 := h.epoch
  have f7 := h.frozen 7
  have lb0 := h.lt
  have q1 : ((Y.keys.length : Int) == 6) = false := beq_eq_false_iff_ne.2 (by omega)
  have HR := hid h
  obtain ⟨he0, he1⟩ := he
  clear h
  go_enter Tryz.func40, Tryz.ntmps40
  go_upto_region 8 with fail
  go_name_world W hW
  have hR : RIn W F b { Y with epoch := Y.epoch + 1 } := by rw [← hW]; exact rin_setEpoch HR.out _
  have hKW : Kept F w W := by rw [← hW]; exact set_kept HR.out 7 _
  obtain ⟨a4, cap4, d4, o4, n4⟩ := rin_rowKey hR
  have d4 : W.cell? ⟨b, 4, none⟩ = some (.slice a4 Y.keys.length cap4) := d4
  have f4 := hR.frozen 4
  have d7 : W.cell? ⟨b, 7, none⟩ = some (.int .i64 (Y.epoch + 1)) := hR.epoch
  have d10 : W.cell? ⟨b, 10, none⟩ = some (.int .i64 Y.turn) := hR.turn
  have f10 := hR.frozen 10
  have lb := hR.lt
  have HO4 : Hid (W.ownsRow 0 75 4 (.slice a4 Y.keys.length cap4) Y.keys.length (Y.keys.flatMap RKey.cells)) := o4
  have HN4 : Hid ((Value.slice a4 Y.keys.length cap4).ownBlock ≠ some b) := n4
  have C4 := hid d4
  have F4 := hid f4
  have C10 := hid d10
  have F10 := hid f10
  have HRW := hid hR
  have HKW := hid hKW
  have LB := hid lb
  clear hW hR hKW o4 n4 hc c c7 f7 lb0
  go_region_law ((refine step_append_mine _ rfl (.tmp 32) (.tmp 39) 67 rfl 75 _ 4 40 Tryz.underlying67 info70 rfl (by omega) (.slice a4 Y.keys.length cap4) Y.keys.length (Y.keys.flatMap RKey.cells) ?_ ?_ ⟨W.heap.size, 0, none⟩ 1 1 (RKey.mk text (Y.epoch + 1) 0 false).cells ?_ rfl ?_ (RKey.one _) ⟨by omega, by omega⟩ ?_; rfl; exact (World.ownsRow.alloc (w := W) HO4.out _); rfl; exact (news_new W (RKey.mk text (Y.epoch + 1) 0 false).cells 75); intro v' w1 o1 k1 p1; obtain ⟨a', cap', rfl, _, _⟩ := ownsRow_view o1; have O1 := hid o1; have K1 := hid k1.of_drew; have P1 := hid p1; have c4w := kept_cell K1.out LB.out HN4.out C4.out; have f4w := kept_frozen K1.out LB.out HN4.out F4.out; have c10w := kept_cell K1.out LB.out HN4.out C10.out; have f10w := kept_frozen K1.out LB.out HN4.out F10.out; clear o1 k1 p1))
  all_goals
    go_wp2_with fail
    go_ret2
    obtain ⟨r1, r2⟩ := rin_appKey HRW.out C4.out K1.out (RKey.mk text (Y.epoch + 1) 0 false) O1.out P1.out
    have r3 := rin_setTurn r1 1
    have k3 := set_kept r1 10 (.int .i64 1)
    refine ⟨rfl, ?_, ?_⟩
    · refine RIn.more r3 (fun k hk => ?_) (fun k hk => ?_)
      · rcases hk with hk | hk
        · exact Or.inl hk
        · exact Or.inr ⟨by have := HKW.out.size; omega, by simpa using hk.2⟩
      · rcases hk with hk | hk
        · exact r3.below k (Or.inl hk)
        · exact hk.2
    · exact (HKW.out.trans r2 (H := F) (fun _ f => f) (fun _ _ f => f)).trans k3 (fun _ f => f) (fun q hq f => f.elim id (fun e => by have := HKW.out.size; omega))
end Go.Proofs.YtphapknfkbgapaaGreatDoor
namespace Go.Proofs.YtphapknfkbgapaaGreatDoor
open Go.RowKit

variable {F : Nat → Prop} {b : Nat} {Y : RS}

/-! Promote. -/
def allSeen (Y : RS) : Bool := Y.seen.all (fun s => s == Y.epoch)
def RS.promote (Y : RS) (n : Nat) (K : RKey) : RS := { Y with epoch := Y.epoch + 1, keys := Y.keys.set n { K with writes := Y.epoch + 1 }, turn := 2 }
theorem Promote_turn (w : World) (h : RIn w F b Y) (hu : (Y.turn != 1) = true) :
    Calls Tryz.prog 42 #[.pointer (some ⟨b, 0, none⟩)] w fun e w' => e = .returned (.int .i64 17) ∧ w' = w := by
  have c := h.turn
  clear h
  go_enter Tryz.func42, Tryz.ntmps42
  go_wp2
  go_ret
  exact ⟨rfl, rfl⟩
theorem all_snoc {α : Type} (l : List α) (i : Nat) (x : α) (p : α → Bool) (h : l[i]? = some x) : (l.take (i + 1)).all p = ((l.take i).all p && p x) := by
  rw [take_snoc h, List.all_append]; simp
theorem all_not {α : Type} (l : List α) (i : Nat) (x : α) (p : α → Bool) (h : l[i]? = some x) (hp : p x = false) : l.all p = false := List.all_eq_false.2 ⟨x, List.mem_of_getElem? h, by rw [hp]; simp⟩
theorem RIn.seenCell {w : World} (h : RIn w F b Y) (i : Nat) (x : Int) (hx : Y.seen[i]? = some x) : ∃ g cap, w.cell? ⟨b, 5, none⟩ = some (.slice (some ⟨g, 0, none⟩) Y.seen.length cap) ∧ g < w.heap.size ∧ w.cell? ⟨g, i, none⟩ = some (.int .i64 x) := by
  obtain ⟨a, cap, hc, hel⟩ := h.seen
  rw [List.length_map] at hc
  obtain ⟨g, rfl, hg, hcs, _⟩ := hel i (YtphapknfkbgapaaGreatDoor.one x) (by rw [List.getElem?_map, hx]; rfl)
  have c0 := hcs 0 (by omega)
  rw [Nat.mul_one, Nat.add_zero] at c0
  exact ⟨g, cap, hc, hg, c0⟩
set_option maxRecDepth 100000 in
set_option maxHeartbeats 1000000 in
theorem Promote_any (w : World) (n : Nat) (K : RKey) (h : RIn w F b Y) (hu : (Y.turn != 1) = false) (hs : Y.seen.length ≤ 4) (hn : Y.keys.length = n + 1) (hn6 : n ≤ 6) (hK : Y.keys[n]? = some K) (he : 0 ≤ Y.epoch ∧ Y.epoch ≤ 1000000) :
    Calls Tryz.prog 42 #[.pointer (some ⟨b, 0, none⟩)] w fun e w' => (allSeen Y = false ∧ e = .returned (.int .i64 18) ∧ Low w.heap.size w w') ∨ (allSeen Y = true ∧ e = .returned (.int .i64 0) ∧ RIn w' F b (Y.promote n K) ∧ Kept F w w') := by
  have c := h.turn
  obtain ⟨a5, cap5, hc5, _⟩ := h.seen
  rw [List.length_map] at hc5
  have HR := hid h
  have HN := hid hn
  have HK := hid hK
  obtain ⟨he0, he1⟩ := he
  clear h hn hK
  go_enter Tryz.func42, Tryz.ntmps42
  go_wp2_with fail
  go_loopg [3] Y.seen.length (fun left iv wr => ∃ i : Nat, left = Y.seen.length - i ∧ i ≤ Y.seen.length ∧ iv = .int .i64 (i : Int) ∧ Hid ((Y.seen.take i).all (fun s => s == Y.epoch) = true) ∧ Hid (Low w.heap.size w wr))
  case atStart => exact ⟨0, rfl, Nat.zero_le _, rfl, by show _ = _; simp, Low.refl _ _⟩
  case round =>
    obtain ⟨i, hgk, hi, rfl, HI, HL⟩ := hrel
    have HGK := hid hgk
    have R1 : Hid (RIn wr F b Y) := HR.out.low HL.out
    clear hgk c hc5
    have lb := R1.out.lt
    have c7 := R1.out.epoch
    by_cases h3 : i < Y.seen.length
    · have q1 : decide ((i : Int) < (Y.seen.length : Int)) = true := by simp; omega
      have il : (i : Int) < (Y.seen.length : Int) := by omega
      obtain ⟨x, hx⟩ : ∃ x, Y.seen[i]? = some x := ⟨_, List.getElem?_eq_getElem h3⟩
      obtain ⟨g, cap, hc, hg, hcx⟩ := R1.out.seenCell i x hx
      have HX := hid hx
      clear hx
      cases qx : (x != Y.epoch)
      · have hxe : x = Y.epoch := by simpa using qx
        subst hxe
        go_upto_region 6 with fail
        go_region
        all_goals go_wp2_with fail
        all_goals
          go_roundg (Y.seen.length - (i + 1))
          case rel => exact ⟨i + 1, rfl, by omega, by simp, by show _ = _; rw [all_snoc _ i _ _ HX.out, HI.out]; simp, HL.out.drew⟩
          case measure => have := HGK.out; omega
      · go_upto_region 6 with fail
        go_region
        all_goals go_wp2_with fail
        all_goals
          go_ret
          exact Or.inl ⟨all_not _ i x _ HX.out (by simpa using qx), rfl, HL.out.drew⟩
    · have q1 : decide ((i : Int) < (Y.seen.length : Int)) = false := by simp; omega
      obtain ⟨a5, cap5, hc5, _⟩ := R1.out.seen
      rw [List.length_map] at hc5
      have f7 := R1.out.frozen 7
      have hall : Hid (allSeen Y = true) := by
        show allSeen Y = true
        unfold allSeen
        have := HI.out
        rwa [List.take_of_length_le (by omega)] at this
      go_upto_region 9 with fail
      go_name_world W hW
      have RW : Hid (RIn W F b { Y with epoch := Y.epoch + 1 }) := by
        show RIn W F b _
        rw [← hW]; exact rin_setEpoch R1.out _
      have KW : Hid (Kept F w W) := by
        show Kept F w W
        rw [← hW]; exact HL.out.kept.trans (set_kept R1.out 7 _) (fun _ f => f.elim) (fun _ _ f => f)
      clear hW hc5 f7 c7 lb
      obtain ⟨a4, cap4, c4, hel⟩ := RW.out.keys
      rw [List.length_map] at c4
      have c4 : W.cell? ⟨b, 4, none⟩ = some (.slice a4 Y.keys.length cap4) := c4
      obtain ⟨g4, rfl, hg4, hcs4, hfz4⟩ := hel n K.cells (by rw [List.getElem?_map, show ({ Y with epoch := Y.epoch + 1 } : RS).keys[n]? = some K from HK.out]; rfl)
      obtain ⟨r1, k1⟩ := rin_setWrites RW.out c4 n K HK.out (Y.epoch + 1)
      have e4 : W.cell? ⟨g4, n * 4 + 2, none⟩ = some (.int .i64 K.writes) := hcs4 2 (by omega)
      have f4 := hfz4 (n * 4 + 2)
      have d7 : W.cell? ⟨b, 7, none⟩ = some (.int .i64 (Y.epoch + 1)) := RW.out.epoch
      have lbw := RW.out.lt
      have RS1 := hid r1
      have KS1 := hid k1
      have c10 := r1.turn
      have f10 := r1.frozen 10
      have ix : wrap64 ((Y.keys.length : Int) - 1) = (n : Int) := by have := HN.out; unfold wrap64; omega
      have ix2 : IntKind.i64.wrap ((Y.keys.length : Int) - 1) = (n : Int) := by rw [IntKind.wrap_i64]; have := HN.out; omega
      have nl : (n : Int) < (Y.keys.length : Int) := by have := HN.out; omega
      clear hel hcs4 hfz4 r1 k1
      go_region
      all_goals go_wp2_with fail
      all_goals
        go_ret
        refine Or.inr ⟨hall.out, rfl, ?_, ?_⟩
        · exact (rin_setTurn RS1.out 2).drew
        · exact ((KW.out.trans KS1.out (H := F) (fun _ f => f) (fun _ _ f => f)).trans (set_kept RS1.out 10 _) (fun _ f => f) (fun _ _ f => f)).drew
end Go.Proofs.YtphapknfkbgapaaGreatDoor
namespace Go.Proofs.YtphapknfkbgapaaGreatDoor
open Go.RowKit

variable {F : Nat → Prop} {b : Nat} {Y : RS}

/-! Destroy. -/
def leftOf (ks : List RKey) : Nat := ks.countP (fun k => !k.gone)
def RS.destroy (Y : RS) (j : Nat) (K : RKey) : RS := { Y with keys := Y.keys.set j { K with gone := true }, turn := if leftOf (Y.keys.set j { K with gone := true }) == 1 then 0 else Y.turn }
def noKey (Y : RS) (k : Int) : Bool := decide (k < 1) || decide ((Y.keys.length : Int) < k)
theorem Destroy_none (w : World) (k : Int) (h : RIn w F b Y) (hk : noKey Y k = true) :
    Calls Tryz.prog 48 #[.pointer (some ⟨b, 0, none⟩), .int .i64 k] w fun e w' => e = .returned (.int .i64 12) ∧ w' = w := by
  obtain ⟨a, cap, hc, _⟩ := h.keys
  rw [List.length_map] at hc
  unfold noKey at hk
  clear h
  cases q : decide (k < 1)
  · rw [q, Bool.false_or] at hk
    go_enter Tryz.func48, Tryz.ntmps48
    go_wp2
    go_ret
    exact ⟨rfl, rfl⟩
  · clear hk
    go_enter Tryz.func48, Tryz.ntmps48
    go_wp2
    go_ret
    exact ⟨rfl, rfl⟩
theorem RIn.keyCell {w : World} (h : RIn w F b Y) (j : Nat) (K : RKey) (hK : Y.keys[j]? = some K) : ∃ g cap, w.cell? ⟨b, 4, none⟩ = some (.slice (some ⟨g, 0, none⟩) Y.keys.length cap) ∧ g < w.heap.size ∧ w.cell? ⟨g, j * 4 + 3, none⟩ = some (.bool K.gone) ∧ w.frozen? ⟨g, j * 4 + 3, none⟩ = false := by
  obtain ⟨a, cap, hc, hel⟩ := h.keys
  rw [List.length_map] at hc
  obtain ⟨g, rfl, hg, hcs, hfz⟩ := hel j K.cells (by rw [List.getElem?_map, hK]; rfl)
  exact ⟨g, cap, hc, hg, hcs 3 (by omega), hfz _⟩
theorem Destroy_gone (w : World) (j : Nat) (K : RKey) (h : RIn w F b Y) (hK : Y.keys[j]? = some K) (hj : j ≤ 6) (hg : K.gone = true) :
    Calls Tryz.prog 48 #[.pointer (some ⟨b, 0, none⟩), .int .i64 ((j : Int) + 1)] w fun e w' => e = .returned (.int .i64 14) ∧ w' = w := by
  obtain ⟨g, cap, hc, hg1, c3, _⟩ := h.keyCell j K hK
  have hl : j < Y.keys.length := (List.getElem?_eq_some_iff.1 hK).1
  rw [hg] at c3
  have q1 : decide ((j : Int) + 1 < 1) = false := by simp; omega
  have q2 : decide ((Y.keys.length : Int) < (j : Int) + 1) = false := by simp; omega
  have jl : (j : Int) < (Y.keys.length : Int) := by omega
  clear h hK hl hg
  go_enter Tryz.func48, Tryz.ntmps48
  go_wp2
  go_ret
  exact ⟨rfl, rfl⟩
def badGate (Y : RS) (k : Int) : Bool := (k == writesOf Y.keys Y.epoch) || (Y.turn != 3)
theorem Destroy_gate (w : World) (j : Nat) (K : RKey) (h : RIn w F b Y) (hK : Y.keys[j]? = some K) (hj : j ≤ 6) (hk6 : Y.keys.length ≤ 6) (hg : K.gone = false) (hb : badGate Y ((j : Int) + 1) = true) :
    Calls Tryz.prog 48 #[.pointer (some ⟨b, 0, none⟩), .int .i64 ((j : Int) + 1)] w fun e w' => e = .returned (.int .i64 20) ∧ w' = w := by
  obtain ⟨g, cap, hc, hg1, c3, _⟩ := h.keyCell j K hK
  have hl : j < Y.keys.length := (List.getElem?_eq_some_iff.1 hK).1
  rw [hg] at c3
  have q1 : decide ((j : Int) + 1 < 1) = false := by simp; omega
  have q2 : decide ((Y.keys.length : Int) < (j : Int) + 1) = false := by simp; omega
  have jl : (j : Int) < (Y.keys.length : Int) := by omega
  have c7 := h.epoch
  have c10 := h.turn
  have HR := hid h
  unfold badGate at hb
  obtain ⟨m, hm⟩ : ∃ m, m = writesOf Y.keys Y.epoch := ⟨_, rfl⟩
  rw [← hm] at hb
  have HM := hid hm
  clear h hK hl hg hm
  cases q3 : ((j : Int) + 1 == m)
  · rw [q3, Bool.false_or] at hb
    go_enter Tryz.func48, Tryz.ntmps48
    go_wp2_with (go_at_call 65; refine (writes_any _ _ HR.out hk6).mono ?_; rw [← HM.out]; rintro e y1 ⟨rfl, hy⟩; obtain rfl := hy.symm)
    go_ret
    exact ⟨rfl, rfl⟩
  · clear hb
    go_enter Tryz.func48, Tryz.ntmps48
    go_wp2_with (go_at_call 65; refine (writes_any _ _ HR.out hk6).mono ?_; rw [← HM.out]; rintro e y1 ⟨rfl, hy⟩; obtain rfl := hy.symm)
    go_ret
    exact ⟨rfl, rfl⟩
theorem left_snoc (l : List RKey) (i : Nat) (x : RKey) (h : l[i]? = some x) : leftOf (l.take (i + 1)) = leftOf (l.take i) + (if !x.gone then 1 else 0) := by
  unfold leftOf
  rw [take_snoc h, List.countP_append]
  simp [List.countP_cons]
theorem left_le (l : List RKey) : leftOf l ≤ l.length := List.countP_le_length
set_option maxRecDepth 100000 in
set_option maxHeartbeats 1000000 in
theorem Destroy_yes (w : World) (j : Nat) (K : RKey) (h : RIn w F b Y) (hK : Y.keys[j]? = some K) (hj : j ≤ 6) (hk6 : Y.keys.length ≤ 6) (hg : K.gone = false) (hb : badGate Y ((j : Int) + 1) = false) :
    Calls Tryz.prog 48 #[.pointer (some ⟨b, 0, none⟩), .int .i64 ((j : Int) + 1)] w fun e w' => e = .returned (.int .i64 0) ∧ RIn w' F b (Y.destroy j K) ∧ Kept F w w' := by
  obtain ⟨g, cap, hc, hg1, c3, f3⟩ := h.keyCell j K hK
  have hl : j < Y.keys.length := (List.getElem?_eq_some_iff.1 hK).1
  rw [hg] at c3
  have q1 : decide ((j : Int) + 1 < 1) = false := by simp; omega
  have q2 : decide ((Y.keys.length : Int) < (j : Int) + 1) = false := by simp; omega
  have jl : (j : Int) < (Y.keys.length : Int) := by omega
  have c7 := h.epoch
  have c10 := h.turn
  obtain ⟨r1, k1⟩ := rin_setGone h hc j K hK true
  have R1 := hid r1
  have K1 := hid k1
  have HR := hid h
  unfold badGate at hb
  obtain ⟨m, hm⟩ : ∃ m, m = writesOf Y.keys Y.epoch := ⟨_, rfl⟩
  rw [← hm, Bool.or_eq_false_iff] at hb
  obtain ⟨q3, q4⟩ := hb
  have HM := hid hm
  obtain ⟨ks, hks⟩ : ∃ ks, ks = Y.keys.set j { K with gone := true } := ⟨_, rfl⟩
  have HKS := hid hks
  have hkl : ks.length = Y.keys.length := by rw [hks]; simp
  have HKL := hid hkl
  clear h hK hl hg hm r1 k1 hks hkl
  go_enter Tryz.func48, Tryz.ntmps48
  go_upto_region 9 with (go_at_call 65; refine (writes_any _ _ HR.out hk6).mono ?_; rw [← HM.out]; rintro e y1 ⟨rfl, hy⟩; obtain rfl := hy.symm)
  go_name_world W hW
  have RW : Hid (RIn W F b { Y with keys := ks }) := by
    show RIn W F b _
    rw [← hW, HKS.out]; exact R1.out
  have KW : Hid (Kept F w W) := by
    show Kept F w W
    rw [← hW]; exact K1.out
  clear hW hc c3 f3 c7 c10 hg1 R1 K1
  obtain ⟨a4, cap4, c4, hel⟩ := RW.out.keys
  rw [List.length_map] at c4
  have c4 : W.cell? ⟨b, 4, none⟩ = some (.slice a4 ks.length cap4) := c4
  have HEL := hid hel
  have c10 := RW.out.turn
  have f10 := RW.out.frozen 10
  have lb := RW.out.lt
  clear hel
  go_wp2_with fail
  go_loopg [6, 7] ks.length (fun left nv iv wr => ∃ i : Nat, left = ks.length - i ∧ i ≤ ks.length ∧ nv = .int .i64 (leftOf (ks.take i) : Int) ∧ iv = .int .i64 (i : Int) ∧ W = wr)
  case atStart => exact ⟨0, rfl, Nat.zero_le _, rfl, rfl, rfl⟩
  case round =>
    obtain ⟨i, hgk, hi, rfl, rfl, rfl⟩ := hrel
    have HGK := hid hgk
    clear hgk
    by_cases h3 : i < ks.length
    · have q5 : decide ((i : Int) < (ks.length : Int)) = true := by simp; omega
      have il : (i : Int) < (ks.length : Int) := by omega
      obtain ⟨k, hk2⟩ : ∃ k, ks[i]? = some k := ⟨_, List.getElem?_eq_getElem h3⟩
      obtain ⟨g, rfl, hg, hcs, _⟩ := HEL.out i k.cells (by rw [List.getElem?_map, show ({ Y with keys := ks } : RS).keys[i]? = some k from hk2]; rfl)
      have d3 : W.cell? ⟨g, i * 4 + 3, none⟩ = some (.bool k.gone) := hcs 3 (by omega)
      have HS := hid (left_snoc ks i k hk2)
      have hle : leftOf (ks.take i) ≤ 6 := by have := left_le (ks.take i); have := HKL.out; simp at *; omega
      clear hcs hk2
      cases qg : k.gone
      · rw [qg] at d3
        go_wp2_with fail
        go_roundg (ks.length - (i + 1))
        case rel => exact ⟨i + 1, rfl, by omega, by rw [HS.out, qg]; simp, by have := HKL.out; simp; unfold wrap64; omega, rfl⟩
        case measure => have := HGK.out; omega
      · rw [qg] at d3
        go_wp2_with fail
        go_roundg (ks.length - (i + 1))
        case rel => exact ⟨i + 1, rfl, by omega, by rw [HS.out, qg]; simp, by have := HKL.out; simp; unfold wrap64; omega, rfl⟩
        case measure => have := HGK.out; omega
    · have q5 : decide ((i : Int) < (ks.length : Int)) = false := by simp; omega
      have ht : ks.take i = ks := List.take_of_length_le (by omega)
      rw [ht]
      cases q6 : ((leftOf ks : Int) == 1)
      · go_wp2_with fail
        go_ret
        refine ⟨rfl, ?_, KW.out⟩
        unfold RS.destroy
        rw [← HKS.out, if_neg (by simp at q6 ⊢; omega)]
        exact RW.out
      · go_wp2_with fail
        go_ret
        refine ⟨rfl, ?_, KW.out.trans (set_kept RW.out 10 _) (fun _ f => f) (fun _ _ f => f)⟩
        unfold RS.destroy
        rw [← HKS.out, if_pos (by simp at q6 ⊢; omega)]
        exact rin_setTurn RW.out 0
end Go.Proofs.YtphapknfkbgapaaGreatDoor
namespace Go.Proofs.YtphapknfkbgapaaGreatDoor
open Go.RowKit

variable {F : Nat → Prop} {b : Nat} {Y : RS}

/-! before: the order of paths. -/
def beforeL : List UInt8 → List UInt8 → Bool
  | _, [] => false
  | [], _ :: _ => true
  | x :: xs, y :: ys => if x != y then decide (x < y) else beforeL xs ys
def beforeOf (a c : ByteArray) : Bool := beforeL a.data.toList c.data.toList
theorem drop_at (a : ByteArray) (i : Nat) (h : i < a.size) : a.data.toList.drop i = a[i]'h :: a.data.toList.drop (i + 1) := List.drop_eq_getElem_cons (by simpa using h)
theorem drop_end (a : ByteArray) (i : Nat) (h : a.size ≤ i) : a.data.toList.drop i = [] := List.drop_eq_nil_of_le (by simpa using h)
theorem before_cons (x y : UInt8) (xs ys : List UInt8) : beforeL (x :: xs) (y :: ys) = if ((x.toNat : Int) != (y.toNat : Int)) then decide (x.toNat < y.toNat) else beforeL xs ys := by
  have e : (x != y) = ((x.toNat : Int) != (y.toNat : Int)) := by
    rw [Bool.eq_iff_iff, bne_iff_ne, bne_iff_ne]
    exact not_congr ⟨fun h => by rw [h], fun h => UInt8.toNat_inj.1 (Int.ofNat.inj h)⟩
  have e2 : decide (x < y) = decide (x.toNat < y.toNat) := by
    rw [decide_eq_decide, UInt8.lt_iff_toNat_lt]
  show (if x != y then decide (x < y) else beforeL xs ys) = _
  rw [e, e2]
set_option maxRecDepth 100000 in
set_option maxHeartbeats 1000000 in
theorem before_any (w : World) (a c : ByteArray) (ha : a.size ≤ 1000) :
    Calls Tryz.prog 110 #[.string a, .string c] w fun e w' => e = .returned (.bool (beforeOf a c)) ∧ Low w.heap.size w w' := by
  go_enter Tryz.func110, Tryz.ntmps110
  go_wp2_with fail
  go_loopg [5] (a.size + 1) (fun left iv wr => ∃ i : Nat, left = a.size + 1 - i ∧ i ≤ a.size ∧ i ≤ c.size ∧ iv = .int .i64 (i : Int) ∧ Hid (beforeOf a c = beforeL (a.data.toList.drop i) (c.data.toList.drop i)) ∧ Hid (Low w.heap.size w wr))
  case atStart => exact ⟨0, rfl, Nat.zero_le _, Nat.zero_le _, rfl, rfl, Low.refl _ _⟩
  case round =>
    obtain ⟨i, hgk, hi, hi2, rfl, HI, HL⟩ := hrel
    have HGK := hid hgk
    clear hgk
    by_cases h3 : i < a.size
    · have q1 : decide ((i : Int) < (a.size : Int)) = true := by simp; omega
      by_cases h4 : i < c.size
      · have q2 : decide ((i : Int) < (c.size : Int)) = true := by simp; omega
        have HD : Hid (beforeOf a c = if (((a[i]'h3).toNat : Int) != ((c[i]'h4).toNat : Int)) then decide ((a[i]'h3).toNat < (c[i]'h4).toNat) else beforeL (a.data.toList.drop (i + 1)) (c.data.toList.drop (i + 1))) := by
          show _ = _
          rw [HI.out, drop_at a i h3, drop_at c i h4, before_cons]
        cases qx : (((a[i]'h3).toNat : Int) != ((c[i]'h4).toNat : Int))
        · go_upto_region 4 with fail
          go_region
          all_goals go_wp2_with fail
          all_goals
            go_roundg (a.size + 1 - (i + 1))
            case rel => exact ⟨i + 1, rfl, by omega, by omega, by simp, by show _ = _; rw [HD.out, qx]; rfl, HL.out.drew⟩
            case measure => have := HGK.out; omega
        · go_upto_region 4 with fail
          go_region
          all_goals go_upto_region 5 with fail
          all_goals go_region
          all_goals go_wp2_with fail
          all_goals
            go_ret
            exact ⟨by rw [HD.out, qx]; rfl, HL.out.drew.drew⟩
      · have q2 : decide ((i : Int) < (c.size : Int)) = false := by simp; omega
        go_wp2_with fail
        go_ret
        refine ⟨?_, HL.out⟩
        rw [HI.out, drop_end c i (by omega)]
        have : decide (a.size < c.size) = false := by simp; omega
        rw [this]
        cases a.data.toList.drop i <;> rfl
    · have q1 : decide ((i : Int) < (a.size : Int)) = false := by simp; omega
      go_wp2_with fail
      go_ret
      refine ⟨?_, HL.out⟩
      rw [HI.out, drop_end a i (by omega)]
      by_cases h4 : i < c.size
      · rw [drop_at c i h4]
        have : decide (a.size < c.size) = true := by simp; omega
        rw [this]; rfl
      · rw [drop_end c i (by omega)]
        have : decide (a.size < c.size) = false := by simp; omega
        rw [this]; rfl
end Go.Proofs.YtphapknfkbgapaaGreatDoor
namespace Go.Proofs.YtphapknfkbgapaaGreatDoor
open Go.RowKit

variable {F : Nat → Prop} {b : Nat} {Y : RS}

/-! due: the first path in order whose newest entry is to be moved. -/
structure Due where
  name : ByteArray
  text : ByteArray
  found : Bool
def keyAt (ks : List RKey) (k : Int) : RKey := (ks[(k - 1).toNat]?).getD ⟨⟨#[]⟩, 0, 0, false⟩
def dueNew (d : Due) (X : Ent) (O : ByteArray × Int) : Due := if (O.2 == 0) && (!d.found || beforeOf X.path d.name) then ⟨X.path, O.1, true⟩ else d
def dueStep (Y : RS) (m : Int) (d : Due) (x : Ent) : Due :=
  if ((lastOf Y.all x.path).getD Ent.zero).gone || (((lastOf Y.all x.path).getD Ent.zero).key == m) then d
  else dueNew d ((lastOf Y.all x.path).getD Ent.zero) (openedOf (keyAt Y.keys ((lastOf Y.all x.path).getD Ent.zero).key) ((lastOf Y.all x.path).getD Ent.zero) Y.epoch)
def due0 : Due := ⟨⟨#[]⟩, ⟨#[]⟩, false⟩
def dueOf (Y : RS) : Due := (keptOf Y.all).foldl (dueStep Y (writesOf Y.keys Y.epoch)) due0
/-- What is kept can be opened or refused: keys that have come, texts that may be. -/
def KeysOk (Y : RS) : Prop := ∀ k ∈ Y.all, k.e.gone = false → EntOk k.e ∧ ∃ j K, k.e.key = ((j : Nat) : Int) + 1 ∧ Y.keys[j]? = some K ∧ K.text.size = 48
theorem last_some {l : List RKept} {x : Ent} (h : x ∈ keptOf l) : ∃ k ∈ l, lastOf l x.path = some k.e := by
  obtain ⟨k, hk, rfl⟩ := List.mem_map.1 h
  obtain ⟨hk1, hk2⟩ := List.mem_filter.1 hk
  unfold lastOf
  cases hf : l.reverse.find? (fun q => !q.out && (q.e.path.toList == k.e.path.toList)) with
  | none =>
    have := List.find?_eq_none.1 hf k (List.mem_reverse.2 hk1)
    simp [hk2] at this
  | some q => exact ⟨q, List.mem_reverse.1 (List.mem_of_find?_eq_some hf), rfl⟩
theorem fold_snoc {α β : Type} (l : List α) (i : Nat) (x : α) (f : β → α → β) (d : β) (h : l[i]? = some x) : (l.take (i + 1)).foldl f d = f ((l.take i).foldl f d) x := by
  rw [take_snoc h, List.foldl_append]; rfl
theorem keyAt_eq {ks : List RKey} {j : Nat} {K : RKey} {k : Int} (h : ks[j]? = some K) (hk : k = (j : Int) + 1) : keyAt ks k = K := by
  unfold keyAt
  rw [show (k - 1).toNat = j by omega, h]; rfl
theorem opened_lit (w : World) (e : Ent) (seen : Int) (K : RKey) (i : Nat) (h : RIn w F b Y) (hk : Y.keys[i]? = some K) (hi : e.key = (i : Int) + 1) (hi6 : i ≤ 6) (hK : K.text.size = 48) (hE : EntOk e) (hg : e.gone = false) {t : ByteArray} {r : Int} (ht : t = (openedOf K e seen).1) (hr : r = (openedOf K e seen).2) :
    Calls Tryz.prog 105 #[.pointer (some ⟨b, 0, none⟩), .agg #[.string e.path, .int .i64 e.rev, .int .i64 e.key, .int .i64 e.draw, .string e.sealed, .bool false], .int .i64 seen] w fun r' w' => r' = .returned (.tuple #[.string t, .int .i64 r]) ∧ Low w.heap.size w w' := by
  have q := opened_any w e seen K i h hk hi hi6 hK hE
  rw [hg, ← ht, ← hr] at q
  exact q
set_option maxRecDepth 100000 in
set_option maxHeartbeats 4000000 in
theorem due_any (w : World) (h : RIn w F b Y) (hk : Y.keys.length ≤ 6) (hn : Y.all.length ≤ 100000000) (hE : KeysOk Y) :
    Calls Tryz.prog 89 #[.pointer (some ⟨b, 0, none⟩)] w fun e w' => e = .returned (.tuple #[.string (dueOf Y).name, .string (dueOf Y).text, .bool (dueOf Y).found]) ∧ Low w.heap.size w w' := by
  have HR := hid h
  have HE := hid hE
  have c7 := h.epoch
  obtain ⟨m, hm⟩ : ∃ m, m = writesOf Y.keys Y.epoch := ⟨_, rfl⟩
  have HM := hid hm
  have hlen : (keptOf Y.all).length ≤ Y.all.length := by simpa [keptOf] using List.length_filter_le _ Y.all
  obtain ⟨l, hl⟩ : ∃ l, l = keptOf Y.all := ⟨_, rfl⟩
  have HL := hid hl
  rw [← hl] at hlen
  have HD : Hid (dueOf Y = l.foldl (dueStep Y m) due0) := by
    show _ = _
    unfold dueOf
    rw [hl, hm]
  clear h hm hl hE
  go_enter Tryz.func89, Tryz.ntmps89
  go_upto_region 6 with (first | (go_at_call 65; refine (writes_any _ _ HR.out hk).mono ?_; rw [← HM.out]; rintro e y1 ⟨rfl, hy⟩; obtain rfl := hy.symm) | (go_at_call 58; refine (Entries_any _ HR.out hn).mono ?_; rw [← HL.out]; rintro e y1 ⟨v1, rfl, l1, o1, b1⟩; obtain ⟨a1, cap1, rfl, _, _⟩ := ownsRow_view o1; have L1 := hid l1; have O1 := hid o1; clear l1 o1 b1))
  clear c7
  go_wp2_with fail
  go_loopg [5, 6, 7, 10] l.length (fun left nv tv fv iv wr => ∃ i : Nat, ∃ d : Due, left = l.length - i ∧ i ≤ l.length ∧ nv = .string d.name ∧ tv = .string d.text ∧ fv = .bool d.found ∧ iv = .int .i64 (i : Int) ∧ Hid (d = (l.take i).foldl (dueStep Y m) due0) ∧ Hid (Low y1.heap.size y1 wr))
  case atStart => exact ⟨0, due0, rfl, Nat.zero_le _, rfl, rfl, rfl, rfl, rfl, Low.refl _ _⟩
  case round =>
    obtain ⟨i, d, hgk, hi, rfl, rfl, rfl, rfl, HDI, HLW⟩ := hrel
    have HGK := hid hgk
    clear hgk
    have LW : Hid (Low w.heap.size w wr) := L1.out.trans (HLW.out.mono L1.out.size)
    have RW : Hid (RIn wr F b Y) := HR.out.low LW.out
    by_cases h3 : i < l.length
    · have q1 : decide ((i : Int) < (l.length : Int)) = true := by simp; omega
      have il : (i : Int) < (l.length : Int) := by omega
      obtain ⟨k, hk2⟩ : ∃ k, l[i]? = some k := ⟨_, List.getElem?_eq_getElem h3⟩
      have OW : Hid (wr.ownsRow 0 50 6 (.slice a1 l.length cap1) l.length (l.flatMap Ent.cells)) := ownsRow_at O1.out (fun q hq => HLW.out.block q (O1.out.lt q hq).2)
      obtain ⟨s1, t1, e1, _, f1⟩ := ownsRow_view OW.out
      obtain ⟨g1, rfl, z1, z2, z3⟩ := f1 (by omega)
      cases e1
      have p0 : wr.cell? ⟨g1, i * 6, none⟩ = some (.string k.path) := row_ent OW.out rfl i k hk2 0 (by omega)
      have hg1 : g1 < wr.heap.size := World.block_lt_of_cell? wr _ p0
      obtain ⟨kk, hkk, hlast⟩ := last_some (show k ∈ keptOf Y.all by rw [← HL.out]; exact List.mem_of_getElem? hk2)
      obtain ⟨X, hX⟩ : ∃ X, X = kk.e := ⟨_, rfl⟩
      rw [← hX] at hlast
      have HX2 : Hid ((lastOf (List.take (Int.toNat (Y.all.length : Int)) Y.all) k.path).getD Ent.zero = X) := by show _ = _; rw [Int.toNat_natCast, List.take_length, hlast]; rfl
      have HT2 : Hid ((lastOf (List.take (Int.toNat (Y.all.length : Int)) Y.all) k.path).isSome = true) := by show _ = _; rw [Int.toNat_natCast, List.take_length, hlast]; rfl
      have HOK : Hid (X.gone = false → EntOk X ∧ ∃ j K, X.key = ((j : Nat) : Int) + 1 ∧ Y.keys[j]? = some K ∧ K.text.size = 48) := by
        show _ → _
        rw [hX]; exact HE.out kk hkk
      have HS : Hid ((l.take (i + 1)).foldl (dueStep Y m) due0 = if X.gone || (X.key == m) then d else dueNew d X (openedOf (keyAt Y.keys X.key) X Y.epoch)) := by
        show _ = _
        rw [fold_snoc l i k _ _ hk2, ← HDI.out]
        unfold dueStep
        rw [hlast]; rfl
      obtain ⟨a3, cap3, hc3, _⟩ := RW.out.all
      rw [List.length_map] at hc3
      have lb := RW.out.lt
      clear f1 z1 z2 z3 hk2 hkk hlast hX
      go_upto_region 9 with fail
      go_cut [11, 12] (fun mv tv wc => ∃ M, mv = .pointer (some ⟨M, 0, none⟩) ∧ tv = .bool true ∧ Hid (Low wr.heap.size wr wc ∧ wr.heap.size ≤ M ∧ Blk wc M 50 X.cells))
      case first =>
        go_region_with (first | (go_at_call 70; refine (last_lit (Y := Y) _ k.path (Y.all.length : Int) (by exact RW.out.drew) hn X true HX2.out HT2.out).mono ?_; rintro e y2 ⟨rfl, l2⟩; have LL2 : Hid (Low wr.heap.size wr y2) := (Low.refl _ wr).drew.trans l2; clear l2) | (go_at_call 70; refine (last_lit (Y := Y) _ k.path (Y.all.length : Int) (by exact (RW.out.alloc _).drew) hn X true HX2.out HT2.out).mono ?_; rintro e y2 ⟨rfl, l2⟩; have LL2 : Hid (Low wr.heap.size wr y2) := ((Low.refl _ wr).alloc (Nat.le_refl _) _).drew.trans (l2.mono (by simp)); have bz : Blk y2 wr.heap.size 50 Ent.zero.cells := (Blk.new wr 50 Ent.zero.cells).drew.low l2 (by simp); have z0 : y2.cell? ⟨wr.heap.size, 0, none⟩ = some (.string ⟨#[]⟩) := bz.cell 0; have z1 : y2.cell? ⟨wr.heap.size, 1, none⟩ = some (.int .i64 0) := bz.cell 1; have z2 : y2.cell? ⟨wr.heap.size, 2, none⟩ = some (.int .i64 0) := bz.cell 2; have z3 : y2.cell? ⟨wr.heap.size, 3, none⟩ = some (.int .i64 0) := bz.cell 3; have z4 : y2.cell? ⟨wr.heap.size, 4, none⟩ = some (.string ⟨#[]⟩) := bz.cell 4; have z5 : y2.cell? ⟨wr.heap.size, 5, none⟩ = some (.bool false) := bz.cell 5; have g0 := bz.frozen 0; have g1 := bz.frozen 1; have g2 := bz.frozen 2; have g3 := bz.frozen 3; have g4 := bz.frozen 4; have g5 := bz.frozen 5; have BZ := hid bz; clear l2 bz))
        all_goals
          go_wp2_with fail
          go_meet
        all_goals first | exact metB LL2.out BZ.out | exact metA LL2.out
      case rest =>
        obtain ⟨M, rfl, rfl, HMM⟩ := hcut
        have RC : Hid (RIn wc F b Y) := RW.out.low HMM.out.1
        have LC : Hid (Low y1.heap.size y1 wc) := HLW.out.trans (HMM.out.1.mono HLW.out.size)
        have m2 : wc.cell? ⟨M, 2, none⟩ = some (.int .i64 X.key) := HMM.out.2.2.cell 2
        have m5 : wc.cell? ⟨M, 5, none⟩ = some (.bool X.gone) := HMM.out.2.2.cell 5
        have lM := HMM.out.2.2.lt
        clear hc3 p0 hg1 lb
        cases qg : X.gone
        · rw [qg] at m5
          cases qk : (X.key == m)
          · obtain ⟨hOK, j, K, hj, hK, hT⟩ := HOK.out qg
            have hj6 : j ≤ 6 := by have := (List.getElem?_eq_some_iff.1 hK).1; omega
            have HKA : Hid (keyAt Y.keys X.key = K) := keyAt_eq hK hj
            obtain ⟨tx, htx⟩ : ∃ tx, tx = (openedOf K X Y.epoch).1 := ⟨_, rfl⟩
            obtain ⟨er, her⟩ : ∃ er, er = (openedOf K X Y.epoch).2 := ⟨_, rfl⟩
            have HSN : Hid ((l.take (i + 1)).foldl (dueStep Y m) due0 = if (er == 0) && (!d.found || beforeOf X.path d.name) then ⟨X.path, tx, true⟩ else d) := by
              show _ = _
              rw [HS.out, HKA.out, qg, qk]
              unfold dueNew
              rw [← htx, ← her]; rfl
            have HTX := hid htx
            have HER := hid her
            have HJ := hid hj
            have HK := hid hK
            have HT := hid hT
            have HOK2 := hid hOK
            have hps := hOK.path.2
            have c7 := RC.out.epoch
            have lbc := RC.out.lt
            have m0 : wc.cell? ⟨M, 0, none⟩ = some (.string X.path) := HMM.out.2.2.cell 0
            have m1 : wc.cell? ⟨M, 1, none⟩ = some (.int .i64 X.rev) := HMM.out.2.2.cell 1
            have m3 : wc.cell? ⟨M, 3, none⟩ = some (.int .i64 X.draw) := HMM.out.2.2.cell 3
            have m4 : wc.cell? ⟨M, 4, none⟩ = some (.string X.sealed) := HMM.out.2.2.cell 4
            have HQG := hid qg
            clear htx her hj hK hT hOK
            go_upto_region 11 with fail
            go_region_held3 (fun W' => W'.cell? ⟨M, 0, none⟩ = some (.string X.path) ∧ W'.cell? ⟨M, 1, none⟩ = some (.int .i64 X.rev) ∧ W'.cell? ⟨M, 2, none⟩ = some (.int .i64 X.key) ∧ W'.cell? ⟨M, 3, none⟩ = some (.int .i64 X.draw) ∧ W'.cell? ⟨M, 4, none⟩ = some (.string X.sealed) ∧ W'.cell? ⟨M, 5, none⟩ = some (.bool false) ∧ W'.cell? ⟨b, 7, none⟩ = some (.int .i64 Y.epoch)) (first | assumption | go_keep)
              (first | (go_at_call 105; refine (opened_lit _ X Y.epoch K j RC.out.drew HK.out HJ.out hj6 HT.out HOK2.out HQG.out HTX.out HER.out).mono ?_; rintro e y2 ⟨rfl, l2⟩; have S2 : y2.cell? ⟨M, 0, none⟩ = some (.string X.path) ∧ y2.cell? ⟨M, 1, none⟩ = some (.int .i64 X.rev) ∧ y2.cell? ⟨M, 2, none⟩ = some (.int .i64 X.key) ∧ y2.cell? ⟨M, 3, none⟩ = some (.int .i64 X.draw) ∧ y2.cell? ⟨M, 4, none⟩ = some (.string X.sealed) ∧ y2.cell? ⟨M, 5, none⟩ = some (.bool false) ∧ y2.cell? ⟨b, 7, none⟩ = some (.int .i64 Y.epoch) := ⟨(l2.cell (by exact lM)).trans m0, (l2.cell (by exact lM)).trans m1, (l2.cell (by exact lM)).trans m2, (l2.cell (by exact lM)).trans m3, (l2.cell (by exact lM)).trans m4, (l2.cell (by exact lM)).trans m5, (l2.cell (by exact lbc)).trans c7⟩; have L2 : Hid (Low y1.heap.size y1 y2) := LC.out.drew.trans (l2.mono (by exact LC.out.size)); clear l2))
            have x0 : y2.cell? ⟨M, 0, none⟩ = some (.string X.path) := S2.1
            clear S2 m0 m1 m2 m3 m4 m5 c7
            cases qf : d.found
            · cases qe : (er == 0)
              · go_wp2_with fail
                go_roundg (l.length - (i + 1))
                case rel => exact ⟨i + 1, d, rfl, by omega, rfl, rfl, by rw [qf], by simp, by show _ = _; rw [HSN.out, qe]; rfl, L2.out⟩
                case measure => have := HGK.out; omega
              · go_wp2_with fail
                go_roundg (l.length - (i + 1))
                case rel => exact ⟨i + 1, ⟨X.path, tx, true⟩, rfl, by omega, rfl, rfl, rfl, by simp, by show _ = _; rw [HSN.out, qe, qf]; rfl, L2.out⟩
                case measure => have := HGK.out; omega
            · have lM2 : M < y2.heap.size := World.block_lt_of_cell? y2 _ x0
              obtain ⟨bf, hbf⟩ : ∃ bf, bf = beforeOf X.path d.name := ⟨_, rfl⟩
              have HBF := hid hbf
              clear hbf
              cases qe : (er == 0)
              · go_wp2_with (go_at_call 110; refine (before_any _ X.path d.name (by omega)).mono ?_; rw [← HBF.out]; rintro e y3 ⟨rfl, l3⟩; have x3 : y3.cell? ⟨M, 0, none⟩ = some (.string X.path) := (l3.cell lM2).trans x0; have L3 : Hid (Low y1.heap.size y1 y3) := L2.out.trans (l3.mono L2.out.size); clear l3)
                go_roundg (l.length - (i + 1))
                case rel => exact ⟨i + 1, d, rfl, by omega, rfl, rfl, by rw [qf], by simp, by show _ = _; rw [HSN.out, qe]; rfl, L3.out⟩
                case measure => have := HGK.out; omega
              · cases qb : bf
                · go_wp2_with (go_at_call 110; refine (before_any _ X.path d.name (by omega)).mono ?_; rw [← HBF.out, qb]; rintro e y3 ⟨rfl, l3⟩; have x3 : y3.cell? ⟨M, 0, none⟩ = some (.string X.path) := (l3.cell lM2).trans x0; have L3 : Hid (Low y1.heap.size y1 y3) := L2.out.trans (l3.mono L2.out.size); clear l3)
                  go_roundg (l.length - (i + 1))
                  case rel => exact ⟨i + 1, d, rfl, by omega, rfl, rfl, by rw [qf], by simp, by show _ = _; rw [HSN.out, qe, qf, ← HBF.out, qb]; rfl, L3.out⟩
                  case measure => have := HGK.out; omega
                · go_wp2_with (go_at_call 110; refine (before_any _ X.path d.name (by omega)).mono ?_; rw [← HBF.out, qb]; rintro e y3 ⟨rfl, l3⟩; have x3 : y3.cell? ⟨M, 0, none⟩ = some (.string X.path) := (l3.cell lM2).trans x0; have L3 : Hid (Low y1.heap.size y1 y3) := L2.out.trans (l3.mono L2.out.size); clear l3)
                  go_roundg (l.length - (i + 1))
                  case rel => exact ⟨i + 1, ⟨X.path, tx, true⟩, rfl, by omega, rfl, rfl, rfl, by simp, by show _ = _; rw [HSN.out, qe, qf, ← HBF.out, qb]; rfl, L3.out⟩
                  case measure => have := HGK.out; omega
          · go_wp2_with fail
            go_roundg (l.length - (i + 1))
            case rel => exact ⟨i + 1, d, rfl, by omega, rfl, rfl, rfl, by simp, by show _ = _; rw [HS.out, qg, qk]; rfl, LC.out⟩
            case measure => have := HGK.out; omega
        · rw [qg] at m5
          go_wp2_with fail
          go_roundg (l.length - (i + 1))
          case rel => exact ⟨i + 1, d, rfl, by omega, rfl, rfl, rfl, by simp, by show _ = _; rw [HS.out, qg]; rfl, LC.out⟩
          case measure => have := HGK.out; omega
    · have q1 : decide ((i : Int) < (l.length : Int)) = false := by simp; omega
      go_wp2_with fail
      go_ret3
      refine ⟨?_, LW.out⟩
      rw [HD.out, HDI.out, List.take_of_length_le (by omega)]
      rfl
end Go.Proofs.YtphapknfkbgapaaGreatDoor
