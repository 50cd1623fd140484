import Derived.Test.YtphapknfkbgapabDoorPlBOne
namespace Go.Proofs.YtphapknfkbgapabDoor
open Go.RowKit

variable {N : ByteArray → Prop} {X : PS} {Y : RS} {D : PD} {n : Nat}

/-! Compact. -/
theorem allTo_get3 {l : List RKept} {f : Nat → Bool} {m j : Nat} {k : RKept} (h : (allTo l f m)[j]? = some k) : ∃ k0, l[j]? = some k0 ∧ k.e = k0.e ∧ k.out = if j < m then k0.out || f j else k0.out := by
  unfold allTo at h
  rw [List.getElem?_mapIdx] at h
  cases hl : l[j]? with
  | none => rw [hl] at h; cases h
  | some k0 =>
    rw [hl] at h
    obtain rfl := (Option.some.inj h).symm
    refine ⟨k0, rfl, ?_, ?_⟩
    · split <;> rfl
    · split <;> rfl
theorem allTo_of {l : List RKept} {f : Nat → Bool} {m j : Nat} {k0 : RKept} (h : l[j]? = some k0) : ∃ k, (allTo l f m)[j]? = some k ∧ k.e = k0.e ∧ k.out = if j < m then k0.out || f j else k0.out := by
  have hj : j < (allTo l f m).length := by rw [allTo_len]; exact (List.getElem?_eq_some_iff.1 h).1
  obtain ⟨k, hk⟩ : ∃ k, (allTo l f m)[j]? = some k := ⟨_, List.getElem?_eq_getElem hj⟩
  obtain ⟨k1, h1, h2, h3⟩ := allTo_get3 hk
  obtain rfl := Option.some.inj (h1.symm.trans h)
  exact ⟨k, hk, h2, h3⟩
/-- An entry up to the floor is out just if it is gone, or another of its path follows up to there. -/
theorem outAt_iff {all : List RKept} {floor : Int} (ho : OutOk2 all floor) (hr : Revs all) {r i : Nat} {k : RKept} (hk : all[i]? = some k) (hi : i < r) (hf : floor ≤ (r : Int)) :
    ((k.out || outAt all r i) = true ↔ k.e.gone = true ∨ ∃ (j : Nat) (q : RKept), i < j ∧ (j : Int) + 1 ≤ (r : Int) ∧ all[j]? = some q ∧ q.e.path = k.e.path) := by
  have hout : outAt all r i = ((((lastOf (all.take r) k.e.path).getD Ent.zero).rev != (i : Int) + 1) || ((lastOf (all.take r) k.e.path).getD Ent.zero).gone) := by
    unfold outAt; rw [hk]
  -- one that is out already
  have old : k.out = true → k.e.gone = true ∨ ∃ (j : Nat) (q : RKept), i < j ∧ (j : Int) + 1 ≤ (r : Int) ∧ all[j]? = some q ∧ q.e.path = k.e.path := fun q => by
    by_cases hfl : (i : Int) + 1 ≤ floor
    · rcases (ho.low i k hk hfl).1 q with q | ⟨j, q, a1, a2, a3, a4⟩
      · exact Or.inl q
      · exact Or.inr ⟨j, q, a1, by omega, a3, a4⟩
    · have := ho.high i k hk (by omega)
      rw [this] at q; cases q
  constructor
  · intro h
    cases hko : k.out
    · rw [hko, Bool.false_or, hout] at h
      cases hL : lastOf (all.take r) k.e.path with
      | none =>
        exfalso
        have : lastOf (all.take r) k.e.path ≠ none := by
          intro hn
          obtain ⟨e, he⟩ : ∃ e, lastOf (all.take r) k.e.path = some e := by
            have hm : k.e ∈ keptOf (all.take r) := List.mem_map.2 ⟨k, List.mem_filter.2 ⟨List.mem_of_getElem? (take_of hk hi), by simp [hko]⟩, rfl⟩
            obtain ⟨k2, _, h2⟩ := last_some hm
            exact ⟨_, h2⟩
          rw [hn] at he; cases he
        exact this hL
      | some e =>
        rw [hL] at h
        obtain ⟨j, q, a1, a2, a3, a4, a5⟩ := lastOf_idx hL
        obtain ⟨hjr, a1⟩ := take_at a1
        have hrq := hr j q a1
        rcases Nat.lt_trichotomy i j with c | c | c
        · exact Or.inr ⟨j, q, c, by omega, a1, a4⟩
        · subst c
          obtain rfl := Option.some.inj (hk.symm.trans a1)
          simp only [Option.getD_some] at h
          rw [← a2, hrq] at h
          left
          simpa using h
        · rcases a5 i k c (take_of hk hi) with z | z
          · rw [hko] at z; cases z
          · exact absurd rfl z
    · exact old hko
  · intro h
    cases hko : k.out
    · rw [Bool.false_or, hout]
      have hm : k.e ∈ keptOf (all.take r) := List.mem_map.2 ⟨k, List.mem_filter.2 ⟨List.mem_of_getElem? (take_of hk hi), by simp [hko]⟩, rfl⟩
      obtain ⟨k2, _, hL⟩ := last_some hm
      rw [hL]
      obtain ⟨j, q, a1, a2, a3, a4, a5⟩ := lastOf_idx hL
      obtain ⟨hjr, a1⟩ := take_at a1
      have hrq := hr j q a1
      simp only [Option.getD_some]
      rw [← a2, hrq]
      by_cases hji : j = i
      · subst hji
        obtain rfl := Option.some.inj (hk.symm.trans a1)
        rcases h with h | ⟨m, z, b1, b2, b3, b4⟩
        · rw [h]; simp
        · exfalso
          rcases a5 m z b1 (take_of b3 (by omega)) with c | c
          · have hfl : (m : Int) + 1 ≤ floor := by
              by_cases hfl : (m : Int) + 1 ≤ floor
              · exact hfl
              · have := ho.high m z b3 (by omega)
                rw [this] at c; cases c
            have := (ho.low j k hk (by omega)).2 (Or.inr ⟨m, z, b1, hfl, b3, b4⟩)
            rw [hko] at this; cases this
          · exact c b4
      · have : ((j : Int) + 1 != (i : Int) + 1) = true := by rw [bne_iff_ne]; omega
        rw [this]; rfl
    · rfl
theorem know_compact (h : Know N Y D) (hr : Rel2 n X Y) (r : Nat) (h1 : Y.floor < (r : Int)) (h2 : r ≤ Y.all.length) : Know N (Y.compact r) { D with floor := (r : Int) } := by
  refine ⟨⟨?_, fun i k d hk hd => ?_⟩, ⟨fun i k hk hfl => ?_, fun i k hk hfl => ?_⟩, rfl, ?_, h.names, h.keys, h.dest, h.opl, h.ops, ⟨fun i k hk hg => ?_, fun i j k q hij hk hq hg hgq => ?_, fun s u hu ho hg => ?_, h.draws.d⟩, h.came, fun e he => ?_, h.pods, h.left⟩
  · show (allTo Y.all _ r).length = _
    rw [allTo_len]; exact h.all.len
  · obtain ⟨k0, a1, a2, _⟩ := allTo_get3 hk
    rw [a2]
    exact h.all.same i k0 d a1 hd
  · replace hfl : (i : Int) + 1 ≤ (r : Int) := hfl
    obtain ⟨k0, a1, a2, a3⟩ := allTo_get3 hk
    rw [if_pos (by omega)] at a3
    rw [a3, a2, outAt_iff h.out hr.revs a1 (by omega) (by omega)]
    constructor
    · rintro (q | ⟨j, q, b1, b2, b3, b4⟩)
      · exact Or.inl q
      · obtain ⟨q', c1, c2, _⟩ := allTo_of (f := outAt Y.all r) (m := r) b3
        exact Or.inr ⟨j, q', b1, b2, c1, by rw [c2]; exact b4⟩
    · rintro (q | ⟨j, q, b1, b2, b3, b4⟩)
      · exact Or.inl q
      · obtain ⟨q', c1, c2, _⟩ := allTo_get3 b3
        exact Or.inr ⟨j, q', b1, b2, c1, by rw [← c2]; exact b4⟩
  · replace hfl : (r : Int) < (i : Int) + 1 := hfl
    obtain ⟨k0, a1, _, a3⟩ := allTo_get3 hk
    rw [if_neg (by omega)] at a3
    rw [a3]
    exact h.out.high i k0 a1 (by omega)
  · show (r : Int) ≤ (((allTo Y.all _ r).length : Nat) : Int)
    rw [allTo_len]; omega
  · obtain ⟨k0, a1, a2, _⟩ := allTo_get3 hk
    rw [a2] at hg ⊢
    exact h.draws.a i k0 a1 hg
  · obtain ⟨k0, a1, a2, _⟩ := allTo_get3 hk
    obtain ⟨q0, b1, b2, _⟩ := allTo_get3 hq
    rw [a2] at hg ⊢
    rw [b2] at hgq ⊢
    exact h.draws.b i j k0 q0 hij a1 b1 hg hgq
  · obtain ⟨a, b⟩ := h.draws.c s u hu ho hg
    refine ⟨a, fun i k hk hgk => ?_⟩
    obtain ⟨k0, a1, a2, _⟩ := allTo_get3 hk
    rw [a2] at hgk ⊢
    exact b i k0 a1 hgk
  · obtain ⟨a, k, b, c⟩ := h.told e he
    obtain ⟨i, hi⟩ := List.getElem?_of_mem b
    obtain ⟨k', c1, c2, _⟩ := allTo_of (f := outAt Y.all r) (m := r) hi
    exact ⟨a, k', List.mem_of_getElem? c1, by rw [c2]; exact c⟩
/-! The keys. -/
def KeyMono (ks ks' : List RKey) : Prop := ∀ (j : Nat) (K : RKey), ks[j]? = some K → K.writes ≠ 0 → ∃ K', ks'[j]? = some K' ∧ K'.text = K.text ∧ K'.writes ≠ 0
theorem Agrees.mono {ks ks' : List RKey} {e : Ent} {d : Dd} (h : Agrees ks e d) (hm : KeyMono ks ks') : Agrees ks' e d := by
  refine ⟨h.path, h.gone, h.size, fun hg => ?_⟩
  obtain ⟨a, j, K, b1, b2, b3, b4⟩ := h.shut hg
  obtain ⟨K', c1, c2, c3⟩ := hm j K b2 b3
  exact ⟨a, j, K', b1, c1, c3, by rw [c2]; exact b4⟩
theorem know_keys (h : Know N Y D) (ks : List RKey) (ep t : Int) (hl : t ≠ 0 → 2 ≤ leftOf ks ∧ T3 t) (hm : KeyMono Y.keys ks) (hc : ∀ (s : Nat) (sn : Int), Y.seen[s]? = some sn → sn ≠ 0 → ∀ (i : Nat) (K : RKey), ks[i]? = some K → K.writes ≠ 0 → K.came ≤ sn) :
    Know N { Y with keys := ks, epoch := ep, turn := t } { D with keys := ks.map RKey.text, dest := destOf ks } := by
  refine ⟨⟨h.all.len, fun i k d hk hd => (h.all.same i k d hk hd).mono hm⟩, h.out, h.floor, h.floor1, h.names, rfl, rfl, h.opl, fun s u hu => ?_, h.draws, hc, h.told, h.pods, hl⟩
  obtain ⟨v, a, b, c⟩ := h.ops s u hu
  exact ⟨v, a, b, fun ho => ⟨(c ho).1.mono hm, (c ho).2⟩⟩
theorem know_turn (h : Know N Y D) (t : Int) (ht : t ≠ 0 → 2 ≤ leftOf Y.keys ∧ T3 t) : Know N { Y with turn := t } D := ⟨h.all, h.out, h.floor, h.floor1, h.names, h.keys, h.dest, h.opl, h.ops, h.draws, h.came, h.told, h.pods, ht⟩
theorem goneAt_snoc (ks : List RKey) (t : ByteArray) (a c : Int) (i : Nat) : goneAt (ks ++ [⟨t, a, c, false⟩]) i = goneAt ks i := by
  unfold goneAt
  by_cases h : i < ks.length
  · rw [List.getElem?_append_left h]
  · rw [List.getElem?_eq_none (by omega : ks.length ≤ i), List.getElem?_append_right (by omega)]
    cases hq : ([⟨t, a, c, false⟩] : List RKey)[i - ks.length]? with
    | none => rfl
    | some k =>
      have h0 : i - ks.length < 1 := (List.getElem?_eq_some_iff.1 hq).1
      rw [show i - ks.length = 0 by omega] at hq
      obtain rfl := (Option.some.inj hq).symm
      rfl
theorem left_more {ks : List RKey} {t : ByteArray} {a c : Int} (h : 1 ≤ leftOf ks) : 2 ≤ leftOf (ks ++ [⟨t, a, c, false⟩]) := by
  unfold leftOf at h ⊢
  rw [List.countP_append]
  have : List.countP (fun k : RKey => !k.gone) [⟨t, a, c, false⟩] = 1 := rfl
  omega
theorem left_turn {l : Nat} {t : Int} (h : 1 ≤ l) (q : (if l == 1 then (0 : Int) else t) ≠ 0) : 2 ≤ l := by
  by_cases e : l = 1
  · rw [e] at q
    exact absurd rfl q
  · omega
theorem left_turn3 {l : Nat} {t : Int} (ht : t ≠ 0 → T3 t) (q : (if l == 1 then (0 : Int) else t) ≠ 0) : T3 (if l == 1 then (0 : Int) else t) := by
  by_cases e : (l == 1) = true
  · rw [if_pos e] at q
    exact absurd rfl q
  · rw [if_neg e] at q ⊢
    exact ht q
theorem left_set {ks : List RKey} {m : Nat} {K K' : RKey} (hK : ks[m]? = some K) (hg : K'.gone = K.gone) : leftOf (ks.set m K') = leftOf ks := by
  obtain ⟨hl, he⟩ := List.getElem?_eq_some_iff.1 hK
  unfold leftOf
  rw [List.countP_set hl, he]
  have hp : (if !K.gone then 1 else 0) ≤ List.countP (fun k => !k.gone) ks := by
    cases hq : K.gone
    · exact List.countP_pos_iff.2 ⟨K, List.mem_of_getElem? hK, by rw [hq]; rfl⟩
    · exact Nat.zero_le _
  rw [hg]
  omega
theorem know_stage (h : Know N Y D) (t : ByteArray) (h1 : 1 ≤ leftOf Y.keys) : Know N (Y.stage t) { D with keys := D.keys ++ [t] } := by
  have q := know_keys h (Y.keys ++ [⟨t, Y.epoch + 1, 0, false⟩]) (Y.epoch + 1) 1 (fun _ => ⟨left_more h1, Or.inl rfl⟩) (fun j K hj hw => ⟨K, by rw [List.getElem?_append_left (List.getElem?_eq_some_iff.1 hj).1]; exact hj, rfl, hw⟩) (fun s sn hs hne i K hK hw => by
    rcases snoc_at hK with hK | ⟨_, rfl⟩
    · exact h.came s sn hs hne i K hK hw
    · exact absurd rfl hw)
  have e1 : (Y.keys ++ ([⟨t, Y.epoch + 1, 0, false⟩] : List RKey)).map RKey.text = D.keys ++ [t] := by rw [List.map_append, h.keys]; rfl
  have e2 : destOf (Y.keys ++ [⟨t, Y.epoch + 1, 0, false⟩]) = D.dest := by
    rw [h.dest]
    unfold destOf
    congr 1
    exact List.map_congr_left (fun i _ => goneAt_snoc _ _ _ _ i)
  rw [e1, e2] at q
  exact q
theorem know_promote (h : Know N Y D) (hr : Rel2 n X Y) (m : Nat) (K : RKey) (hK : Y.keys[m]? = some K) (ha : allSeen Y = true) (ht : Y.turn ≠ 0) : Know N (Y.promote m K) D := by
  have hml : m < Y.keys.length := (List.getElem?_eq_some_iff.1 hK).1
  have he := hr.ep.2.1
  have q := know_keys h (Y.keys.set m { K with writes := Y.epoch + 1 }) (Y.epoch + 1) 2 (fun _ => ⟨by rw [left_set (K' := { K with writes := Y.epoch + 1 }) hK rfl]; exact (h.left ht).1, Or.inr (Or.inl rfl)⟩) (fun j K' hj hw => by
    by_cases e : j = m
    · subst e
      obtain rfl := Option.some.inj (hj.symm.trans hK)
      exact ⟨_, List.getElem?_set_self hml, rfl, by show Y.epoch + 1 ≠ 0; omega⟩
    · exact ⟨K', by rw [List.getElem?_set_ne (fun q => e q.symm)]; exact hj, rfl, hw⟩) (fun s sn hs hne i K' hK' hw => by
    rcases set_at hK' with ⟨_, hK'⟩ | ⟨_, rfl⟩
    · exact h.came s sn hs hne i K' hK' hw
    · have := List.all_eq_true.1 ha sn (List.mem_of_getElem? hs)
      have e : sn = Y.epoch := by simpa using this
      rw [e]
      exact (hr.keys.came m K hK).2)
  have e1 : (Y.keys.set m { K with writes := Y.epoch + 1 }).map RKey.text = D.keys := by
    rw [h.keys, List.map_set]
    exact set_same (by rw [List.getElem?_map, hK]; rfl)
  have e2 : destOf (Y.keys.set m { K with writes := Y.epoch + 1 }) = D.dest := by
    rw [h.dest]
    unfold destOf
    congr 1
    refine List.map_congr_left (fun i _ => ?_)
    unfold goneAt
    by_cases e : m = i
    · subst e
      rw [List.getElem?_set_self hml, hK]; rfl
    · rw [List.getElem?_set_ne e]
  rw [e1, e2] at q
  exact q
theorem know_destroy (h : Know N Y D) (j : Nat) (K : RKey) (hK : Y.keys[j]? = some K) (hj6 : j < 6) (h1 : 1 ≤ leftOf (Y.keys.set j { K with gone := true })) : Know N (Y.destroy j K) { D with dest := D.dest.set (j + 1) true } := by
  have hjl : j < Y.keys.length := (List.getElem?_eq_some_iff.1 hK).1
  have q := know_keys h (Y.keys.set j { K with gone := true }) Y.epoch (if leftOf (Y.keys.set j { K with gone := true }) == 1 then 0 else Y.turn) (fun q => ⟨left_turn h1 q, left_turn3 (fun z => (h.left z).2) q⟩) (fun i K' hi hw => by
    by_cases e : i = j
    · subst e
      obtain rfl := Option.some.inj (hi.symm.trans hK)
      exact ⟨_, List.getElem?_set_self hjl, rfl, hw⟩
    · exact ⟨K', by rw [List.getElem?_set_ne (fun q => e q.symm)]; exact hi, rfl, hw⟩) (fun s sn hs hne i K' hK' hw => by
    rcases set_at hK' with ⟨_, hK'⟩ | ⟨_, rfl⟩
    · exact h.came s sn hs hne i K' hK' hw
    · exact h.came s sn hs hne j K hK hw)
  have e1 : (Y.keys.set j { K with gone := true }).map RKey.text = D.keys := by
    rw [h.keys, List.map_set]
    exact set_same (by rw [List.getElem?_map, hK]; rfl)
  have e2 : destOf (Y.keys.set j { K with gone := true }) = D.dest.set (j + 1) true := by
    rw [h.dest]
    unfold destOf
    rw [List.set_cons_succ]
    congr 1
    apply List.ext_getElem?
    intro i
    by_cases e : j = i
    · subst e
      rw [List.getElem?_set_self (by simp; omega), List.getElem?_map, List.getElem?_range hj6]
      show some (goneAt _ j) = _
      unfold goneAt
      rw [List.getElem?_set_self hjl]; rfl
    · rw [List.getElem?_set_ne e, List.getElem?_map, List.getElem?_map]
      by_cases h6 : i < 6
      · rw [List.getElem?_range h6]
        show some (goneAt _ i) = some (goneAt _ i)
        unfold goneAt
        rw [List.getElem?_set_ne e]
      · rw [List.getElem?_eq_none (by simp; omega)]
        rfl
  rw [e1, e2] at q
  exact q
end Go.Proofs.YtphapknfkbgapabDoor
namespace Go.Proofs.YtphapknfkbgapabDoor
open Go.RowKit

variable {N : ByteArray → Prop} {X : PS} {Y : RS} {D : PD} {n : Nat}

/-! Reads tell what was done. -/
theorem opened_deed {K : RKey} {e : Ent} {sn : Int} {t : ByteArray} (hs : e.sealed = sealOf K.text (nonceTo e.draw 12) e.path t) (hc : K.came ≤ sn) (hg : K.gone = false) : openedOf K e sn = (t, 0) := by
  have hd : decide (sn < K.came) = false := by simp; omega
  have ho : openB K.text (nonceTo e.draw 12) e.path e.sealed = true := by
    unfold openB
    rw [hs]
    exact decide_eq_true (opens_seal K.text (nonceTo e.draw 12) e.path t)
  have hm : maskOf K.text (nonceTo e.draw 12) (coverOf e.sealed) = t := by rw [hs]; exact open_seal _ _ _ _
  unfold openedOf
  rw [hd, hg, ho, hm]
  simp only [Bool.false_eq_true, if_false, if_true]
def tells (r : Nat) (d : Dd) : ByteArray × Int × Int := if (r == 0) || d.gone then (⟨#[]⟩, 0, 12) else (d.text, (r : Int), 0)
def tellV (r : Nat) (d : Dd) : Value := .tuple #[.string (tells r d).1, .int .i64 (tells r d).2.1, .int .i64 (tells r d).2.2]
theorem read_tells (h : Rel2 n X Y) (hk : Know N Y D) {i : Nat} {p : PSrv} {sn : Int} {u : RUnd} (hzn : sn ≠ 0) (hpp : X.servers[i]? = some p) (ha : At Y i sn u) (hS : Same2 Y.keys Y.epoch p sn u) (name : ByteArray) (rev : Nat) (hr1 : Y.floor ≤ (rev : Int)) {r : Nat} {d : Dd} (hN : NewD (D.deeds.take rev) name r d) :
    ∀ (w : World) (F : Nat → Prop) (b : Nat), XIn w F b X → Fours w → 1 ≤ w.heap.size → Calls Tryd.prog 29 #[.pointer (some ⟨b, 0, none⟩), .int .i64 (i : Int), .string name, .int .i64 (rev : Int)] w fun e w' => e = .returned (tellV r d) ∧ Low w.heap.size w w' := by
  have hent : X.entries.length ≤ 1000 := by have := h.few; have := h.rooms; omega
  have hNw : newestOf X.entries name (rev : Int) = (lastOf (Y.all.take rev) name).getD Ent.zero := by rw [h.ent, newest_last _ _ _ h.revs, Int.toNat_natCast]
  by_cases hg : r = 0 ∨ d.gone = true
  · have ht := look_no hk.all hk.out hN hg
    have e : tellV r d = .tuple #[.string ⟨#[]⟩, .int .i64 0, .int .i64 12] := by
      have : ((r == 0) || d.gone) = true := by
        rcases hg with q | q
        · rw [q]; rfl
        · rw [q, Bool.or_true]
      unfold tellV tells
      rw [this]
      rfl
    rw [e]
    intro w F b hX _ _
    refine read_none w i name (rev : Int) hX hent ?_
    rw [hNw]
    cases hL : lastOf (Y.all.take rev) name with
    | none => rfl
    | some E =>
      rw [hL] at ht
      unfold thereOf at ht
      simp at ht
      simp [ht]
  · have hr0 : r ≠ 0 := fun q => hg (Or.inl q)
    have hdg : d.gone = false := by cases q : d.gone; rfl; exact absurd (Or.inr q) hg
    rcases hN with ⟨q, _, _⟩ | ⟨m, rfl, hm, hp, hl⟩
    · exact absurd q hr0
    · obtain ⟨hmr, hm2⟩ := take_at hm
      obtain ⟨k, k1, k2, k3, k4⟩ := look_yes hk.all hk.out hr1 hm2 hmr hp hdg hl
      rw [k4] at hNw
      replace hNw : newestOf X.entries name (rev : Int) = k.e := hNw
      have hrv := h.revs m k k1
      have hkg : k.e.gone = false := by rw [k3.gone]; exact hdg
      obtain ⟨ok1, jk, K, ok2, ok3, ok4⟩ := h.eok k (List.mem_of_getElem? k1) hkg
      have hKg : K.gone = false := ok4 k2
      have hjl : jk < Y.keys.length := (List.getElem?_eq_some_iff.1 ok3).1
      have hj6 : jk ≤ 6 := by have := h.keys.few.2; omega
      obtain ⟨pk, hpk⟩ : ∃ pk, X.keys[jk]? = some pk := ⟨_, List.getElem?_eq_getElem (by rw [h.keys.len]; exact hjl)⟩
      have hks := h.keys.same jk pk K hpk ok3
      have htx := hks.text hKg
      have hkgp : keyGone pk = false := keyGone_no (by rw [htx]; exact hks.size)
      obtain ⟨_, j2, K2, s1, s2, s3, s4⟩ := k3.shut hkg
      have hjj : j2 = jk := by rw [ok2] at s1; omega
      subst hjj
      obtain rfl := Option.some.inj (s2.symm.trans ok3)
      have hcame := hk.came i sn ha.seen hzn j2 K2 ok3 s3
      have hop := opened_deed s4 hcame hKg
      have e1 : pRead pk k.e p.seen = (d.text, 0) := by
        rw [← hop]
        unfold pRead openedOf pOpened
        rw [hS.seen, hkgp, hks.came, hKg, htx]
      have e : tellV (m + 1) d = .tuple #[.string d.text, .int .i64 k.e.rev, .int .i64 0] := by
        unfold tellV tells
        rw [hdg, hrv]
        rfl
      rw [e]
      intro w F b hX hF h1
      have q := read_some w i p name (rev : Int) k.e pk j2 hX hpp hent hNw (by rw [beq_eq_false_iff_ne]; omega) hkg hpk ok2 hj6 (by rw [htx]; exact hks.size) ok1 hF h1
      rw [e1] at q
      exact q
theorem get_tells (h : Rel2 n X Y) (hk : Know N Y D) {i : Nat} {sn : Int} {u : RUnd} {p : PSrv} (hpp : X.servers[i]? = some p) (ha : At Y i sn u) (hS : Same2 Y.keys Y.epoch p sn u) (name : ByteArray) {r : Nat} {d : Dd} (hN : NewD D.deeds name r d) :
    PUni 11 [.int .i64 (i : Int), .string name] X (if sn == 0 then .tuple #[.string ⟨#[]⟩, .int .i64 0, .int .i64 6] else tellV r d) X := by
  by_cases hz : sn = 0
  · rw [if_pos (by rw [hz]; rfl)]
    exact p_same (fun w F b hX => pGet_blind w i p name hX hpp (by rw [hS.seen, hz]; rfl))
  · rw [if_neg (by simpa using hz)]
    refine p_low (fun w F b hX hF h1 => ?_)
    have hl : D.deeds.take Y.all.length = D.deeds := List.take_of_length_le (by rw [hk.deeds]; exact Nat.le_refl _)
    have q := read_tells h hk hz hpp ha hS name Y.all.length hk.floor1 (r := r) (d := d) (by rw [hl]; exact hN) w F b hX hF h1
    rw [← h.rev] at q
    exact pGet_ok w i p name hX hpp (by rw [hS.seen, beq_eq_false_iff_ne]; exact hz) _ _ _ q
theorem getAt_tells (h : Rel2 n X Y) (hk : Know N Y D) {i : Nat} {sn : Int} {u : RUnd} {p : PSrv} (hpp : X.servers[i]? = some p) (ha : At Y i sn u) (hS : Same2 Y.keys Y.epoch p sn u) (name : ByteArray) (rev : Nat) {r : Nat} {d : Dd} (hN : NewD (D.deeds.take rev) name r d) :
    PUni 39 [.int .i64 (i : Int), .string name, .int .i64 (rev : Int)] X (if sn == 0 then .tuple #[.string ⟨#[]⟩, .int .i64 0, .int .i64 6] else if decide ((rev : Int) < D.floor) || decide ((D.deeds.length : Int) < (rev : Int)) then .tuple #[.string ⟨#[]⟩, .int .i64 0, .int .i64 15] else tellV r d) X := by
  by_cases hz : sn = 0
  · rw [if_pos (by rw [hz]; rfl)]
    exact p_same (fun w F b hX => pGetAt_blind w i p name (rev : Int) hX hpp (by rw [hS.seen, hz]; rfl))
  · rw [if_neg (by simpa using hz)]
    have hs : (p.seen == 0) = false := by rw [hS.seen, beq_eq_false_iff_ne]; exact hz
    have eb : pBadRev X (rev : Int) = (decide ((rev : Int) < D.floor) || decide ((D.deeds.length : Int) < (rev : Int))) := by
      unfold pBadRev
      rw [h.floor, h.rev, hk.floor, hk.deeds]
    rw [← eb]
    cases hb : pBadRev X (rev : Int)
    · refine p_low (fun w F b hX hF h1 => ?_)
      have hfl : Y.floor ≤ (rev : Int) := by
        rw [eb, Bool.or_eq_false_iff] at hb
        have := hb.1
        rw [hk.floor] at this
        simpa using this
      exact pGetAt_ok w i p name (rev : Int) hX hpp hs hb _ _ _ (read_tells h hk hz hpp ha hS name rev hfl hN w F b hX hF h1)
    · exact p_same (fun w F b hX => pGetAt_rev w i p name (rev : Int) hX hpp hs hb)
/-! What is due is what was done last. -/
theorem due_deed (h : Rel2 n X Y) (hk : Know N Y D) (hf : (dueOf Y).found = true) : ∃ (r : Nat) (d : Dd), NewD D.deeds (dueOf Y).name r d ∧ r ≠ 0 ∧ d.gone = false ∧ d.text = (dueOf Y).text ∧ d.path = (dueOf Y).name ∧ N d.path ∧ d.text.size ≤ 64 := by
  obtain ⟨x, hx, E, q, hE⟩ := (dueOf_spec Y).yes hf
  obtain ⟨k0, _, hlast⟩ := last_some hx
  have hEk : E = k0.e := by rw [q.newest, hlast]; rfl
  obtain ⟨i, k, a1, a2, a3, a4, a5⟩ := lastOf_idx hlast
  obtain ⟨d, hd, hag⟩ := hk.all.of a1
  have hkE : k.e = E := by rw [a2, hEk]
  have hg : k.e.gone = false := by rw [hkE]; exact q.there
  obtain ⟨ok1, j, K, ok2, ok3, ok4⟩ := h.eok k (List.mem_of_getElem? a1) hg
  have hKg := ok4 a3
  obtain ⟨_, j2, K2, s1, s2, s3, s4⟩ := hag.shut hg
  have hjj : j2 = j := by rw [ok2] at s1; omega
  subst hjj
  obtain rfl := Option.some.inj (s2.symm.trans ok3)
  have hop := opened_deed s4 (h.keys.came j2 K2 ok3).2 hKg
  have ho := q.opens
  rw [← hkE, keyAt_eq ok3 ok2, hop] at ho
  have htx : d.text = (dueOf Y).text := congrArg Prod.fst ho
  have hpn : d.path = (dueOf Y).name := by rw [← hag.path, hkE, hE]
  refine ⟨i + 1, d, Or.inr ⟨i, rfl, hd, hpn, fun m c hm hc hcp => ?_⟩, by omega, by rw [← hag.gone]; exact hg, htx, hpn, hk.names d (List.mem_of_getElem? hd), hag.size⟩
  obtain ⟨z, hz, hzc⟩ := hk.all.at hc
  have hzp : z.e.path = k.e.path := by rw [hzc.path, hcp, ← hpn, ← hag.path]
  rcases a5 m z hm hz with c1 | c1
  · have hfl : (m : Int) + 1 ≤ Y.floor := by
      by_cases hfl : (m : Int) + 1 ≤ Y.floor
      · exact hfl
      · have := hk.out.high m z hz (by omega)
        rw [this] at c1; cases c1
    have := (hk.out.low i k a1 (by omega)).2 (Or.inr ⟨m, z, hm, hfl, hz, hzp⟩)
    rw [a3] at this
    cases this
  · exact c1 (by rw [hzp, a4])
theorem know_move (h : Rel2 n X Y) (hk : Know N Y D) {j : Nat} {K : RKey} (hj : writesOf Y.keys Y.epoch = (j : Int) + 1) (hK : Y.keys[j]? = some K) {d : Dd} (hd : d.path = (dueOf Y).name) (ht : d.text = (dueOf Y).text) (hg : d.gone = false) (hN : N d.path) (hs : d.text.size ≤ 64) :
    Know N (Y.move K ((j : Int) + 1)) { D with deeds := D.deeds ++ [d] } := by
  obtain ⟨_, d1, _⟩ := h.draws
  have hw : K.writes ≠ 0 := by
    obtain ⟨j2, p, K2, b1, b2, b3, b4, b5, b6, _⟩ := h.writer
    have hjj : j2 = j := by rw [hj] at b2; omega
    subst hjj
    obtain rfl := Option.some.inj (b4.symm.trans hK)
    omega
  have q := know_add hk (closedOf K.text ((j : Int) + 1) (dueOf Y).name (dueOf Y).text (Y.draws + 1)) d (Y.draws + 1) (by omega) ⟨hd.symm, hg.symm, hs, fun _ => ⟨by show 1 ≤ Y.draws + 1; omega, j, K, rfl, hK, hw, by rw [ht]; rfl⟩⟩ hN (fun _ => ⟨⟨by show 1 ≤ Y.draws + 1; omega, Int.le_refl _⟩, fun i k hi hgk => (by have := (hk.draws.a i k hi hgk).2; show k.e.draw ≠ Y.draws + 1; omega), fun s u hu ho hgu => (by have := (hk.draws.c s u hu ho hgu).1.2; show u.e.draw ≠ Y.draws + 1; omega)⟩) ((Y.all.length : Int) + 1)
  exact q
end Go.Proofs.YtphapknfkbgapabDoor
namespace Go.Proofs.YtphapknfkbgapabDoor
open Go.RowKit

variable {N : ByteArray → Prop} {X : PS} {Y : RS} {D : PD} {n : Nat}

/-! Each call of the program, and what the player knows behind it. -/
theorem rel_refresh (h : Rel2 n X Y) {i : Nat} {p : PSrv} {sn : Int} {u : RUnd} (_hp : X.servers[i]? = some p) (ha : At Y i sn u) (hS : Same2 Y.keys Y.epoch p sn u) (hi : i < Y.seen.length) : Rel2 (n + 1) (X.refresh i p) (Y.refresh (i : Int)) := by
  have q := (h.put hi { p with seen := X.epoch } Y.epoch u ⟨h.ep.1, ⟨by have := h.ep.2.1; omega, Int.le_refl _⟩, hS.busy, hS.op⟩).up
  rw [set_same ha.op] at q
  unfold PS.refresh RS.refresh
  rw [Int.toNat_natCast]
  exact q
theorem rel_crash (h : Rel2 n X Y) {i : Nat} (hi : i < Y.seen.length) : Rel2 (n + 1) (X.crash i) (Y.crash (i : Int)) := by
  have q := (h.put hi PSrv.zero 0 RUnd.zero ⟨rfl, ⟨Int.le_refl _, by have := h.ep.2.1; omega⟩, rfl, fun e => by cases e⟩).up
  unfold PS.crash RS.crash
  rw [Int.toNat_natCast]
  exact q
theorem rel_commit (h : Rel2 n X Y) {i : Nat} {p : PSrv} {sn : Int} {u : RUnd} (ha : At Y i sn u) (hS : Same2 Y.keys Y.epoch p sn u) (hi : i < Y.seen.length) (hbz : p.busy = true) {j : Nat} {pk : PKey} {K : RKey} (w1 : writesOf Y.keys Y.epoch = (j : Int) + 1) (w3 : Y.keys[j]? = some K) (w4 : KSame pk K) (w6 : K.gone = false) (w7 : promOf Y.keys = (if j = 0 then 0 else K.writes)) (w8 : j = 0 → K.writes = 1) :
    Rel2 (n + 1) (X.commit pk.wrote i p) (Y.commit i u) := by
  have hA := h.all
  have hE := commit_same2 h w4 w7 w8 hS hbz
  obtain ⟨e1, e2, e3, e4, e5, e6, e7⟩ := hS.op hbz
  have q := h.put hi p.rest sn RUnd.zero ⟨hS.seen, hS.sn, rfl, fun e => by cases e⟩
  rw [set_same ha.seen] at q
  unfold PS.commit RS.commit
  rw [hE]
  by_cases hc : (commitErr Y u == 0) = true
  · rw [if_pos hc, if_pos hc]
    have hc0 : commitErr Y u = 0 := by simpa using hc
    have hfull : fullOf Y = false := by
      cases hf : fullOf Y
      · rfl
      · exfalso
        revert hc0
        unfold commitErr
        rw [hf]
        split
        · intro z; cases z
        · split
          · intro z; cases z
          · split
            · intro z; cases z
            · intro z; cases z
    have hstale : promOf Y.keys ≤ u.epoch := by
      by_cases hz : u.epoch < promOf Y.keys
      · exfalso
        revert hc0
        unfold commitErr
        rw [decide_eq_true hz, if_pos rfl]
        intro z; cases z
      · omega
    have hstill := h.keys.still e5.1 e5.2 hstale
    have hlen : ((keptOf Y.all).length : Int) < Y.room := by unfold fullOf at hfull; simp at hfull; exact hfull
    have hrev : X.rev + 1 = (Y.all.length : Int) + 1 := by rw [h.rev]
    refine ⟨h.keys, h.live, h.ep, h.write, h.turn, h.room, h.rooms, ?_, h.floor, h.floor0, q.up.draws, q.len, q.srv, ?_, ?_, ?_, ?_, ?_, ?_, h.pods⟩
    · show X.rev + 1 = ((Y.all ++ [_]).length : Int)
      rw [h.rev, List.length_append]; rfl
    · show X.entries ++ [{ p.e with rev := X.rev + 1 }] = keptOf (Y.all ++ [⟨{ u.e with rev := (Y.all.length : Int) + 1 }, false⟩])
      rw [keptOf_snoc, h.ent, e3, hrev]
      rfl
    · show ((X.entries ++ [{ p.e with rev := X.rev + 1 }]).length : Int) ≤ Y.room
      rw [h.ent, List.length_append]
      show (((keptOf Y.all).length + 1 : Nat) : Int) ≤ Y.room
      omega
    · show Revs (Y.all ++ [⟨{ u.e with rev := (Y.all.length : Int) + 1 }, false⟩])
      exact revs_snoc h.revs _ rfl
    · show ∀ k ∈ Y.all ++ [⟨{ u.e with rev := (Y.all.length : Int) + 1 }, false⟩], k.e.gone = false → EntOk k.e ∧ ∃ j K, k.e.key = ((j : Nat) : Int) + 1 ∧ Y.keys[j]? = some K ∧ (k.out = false → K.gone = false)
      intro k hk hg
      rcases List.mem_append.1 hk with hk | hk
      · exact h.eok k hk hg
      · obtain rfl := List.mem_singleton.1 hk
        obtain ⟨o1, o2⟩ := e7 hg
        exact ⟨⟨o1.path, o1.draw, o1.sealed⟩, j, K, by show u.e.key = _; rw [o2, hstill, w1], w3, fun _ => w6⟩
    · show (Y.all ++ [_]).length ≤ n + 1
      rw [List.length_append]
      show Y.all.length + 1 ≤ n + 1
      omega
    · intro ht k hk ho hg
      replace hk : k ∈ Y.all ++ [⟨{ u.e with rev := (Y.all.length : Int) + 1 }, false⟩] := hk
      rcases List.mem_append.1 hk with hk | hk
      · exact h.gated ht k hk ho hg
      · obtain rfl := List.mem_singleton.1 hk
        exact ((e7 hg).2).trans hstill
  · rw [if_neg hc, if_neg hc]
    exact q.up
theorem rel_compact (h : Rel2 n X Y) (r : Nat) : Rel2 (n + 1) (X.compact (r : Int)) (Y.compact r) := by
  have hA := h.all
  have hl : (allTo Y.all (outAt Y.all r) r).length = Y.all.length := by unfold allTo; simp
  refine ⟨h.keys, h.live, h.ep, h.write, h.turn, h.room, h.rooms, ?_, rfl, ?_, h.up.draws, h.len, h.srv, compact_of h.ent h.revs r, ?_, ?_, ?_, ?_, ?_, h.pods⟩
  · show X.rev = ((allTo Y.all (outAt Y.all r) r).length : Int)
    rw [hl]; exact h.rev
  · show (0 : Int) ≤ (r : Int)
    omega
  · show ((X.entries.filter (fun e => outl X e (r : Int))).length : Int) ≤ Y.room
    have := List.length_filter_le (fun e => outl X e (r : Int)) X.entries
    have := h.few
    omega
  · intro j k hk
    obtain ⟨k0, hk0, e0⟩ := allTo_get hk
    rw [e0]
    exact h.revs j k0 hk0
  · intro k hk hg
    obtain ⟨j, hj⟩ := List.getElem?_of_mem hk
    obtain ⟨k0, hk0, e0, o0⟩ := allTo_get2 hj
    rw [e0] at hg ⊢
    obtain ⟨a1, jj, K, a2, a3, a4⟩ := h.eok k0 (List.mem_of_getElem? hk0) hg
    exact ⟨a1, jj, K, a2, a3, fun hko => a4 (o0 hko)⟩
  · show (allTo Y.all (outAt Y.all r) r).length ≤ n + 1
    omega
  · intro ht k hk ho hg
    obtain ⟨j, hj⟩ := List.getElem?_of_mem hk
    obtain ⟨k0, hk0, e0, o0⟩ := allTo_get2 hj
    rw [e0] at hg ⊢
    exact h.gated ht k0 (List.mem_of_getElem? hk0) (o0 ho) hg
end Go.Proofs.YtphapknfkbgapabDoor
namespace Go.Proofs.YtphapknfkbgapabDoor
open Go.RowKit

variable {N : ByteArray → Prop} {X : PS} {Y : RS} {D : PD} {n : Nat}

theorem nameOf_inj : ∀ {i j : Nat}, i < 6 → j < 6 → nameOf i = nameOf j → i = j := by
  intro i j hi hj h
  have hi' : i = 0 ∨ i = 1 ∨ i = 2 ∨ i = 3 ∨ i = 4 ∨ i = 5 := by omega
  have hj' : j = 0 ∨ j = 1 ∨ j = 2 ∨ j = 3 ∨ j = 4 ∨ j = 5 := by omega
  have hd := congrArg (fun b => b.data.toList) h
  rcases hi' with rfl | rfl | rfl | rfl | rfl | rfl <;> rcases hj' with rfl | rfl | rfl | rfl | rfl | rfl <;> first | rfl | (exfalso; revert hd; decide)
theorem nodup_le {α : Type} [DecidableEq α] : ∀ (L l : List α), l.Nodup → (∀ x ∈ l, x ∈ L) → l.length ≤ L.length
  | [], l, _, h => by
    cases l with
    | nil => exact Nat.le_refl _
    | cons x r => exact absurd (h x List.mem_cons_self) (by simp)
  | a :: L, l, hn, h => by
    by_cases ha : a ∈ l
    · have h1 := nodup_le L (l.erase a) (hn.erase a) (fun x hx => by
        have hx2 : x ∈ l := List.mem_of_mem_erase hx
        rcases List.mem_cons.1 (h x hx2) with rfl | q
        · exact absurd hx (by
            intro hx
            exact (List.Nodup.mem_erase_iff hn).1 hx |>.1 rfl)
        · exact q)
      rw [List.length_erase_of_mem ha] at h1
      rw [List.length_cons]
      omega
    · have h1 := nodup_le L l hn (fun x hx => by
        rcases List.mem_cons.1 (h x hx) with rfl | q
        · exact absurd hx ha
        · exact q)
      rw [List.length_cons]
      omega
theorem names_six {l : List ByteArray} (hn : l.Nodup) (h : ∀ x ∈ l, IsName x) : l.length ≤ 6 := by
  have := nodup_le [nameOf 0, nameOf 1, nameOf 2, nameOf 3, nameOf 4, nameOf 5] l hn (fun x hx => by
    obtain ⟨k, hk, rfl⟩ := h x hx
    have : k = 0 ∨ k = 1 ∨ k = 2 ∨ k = 3 ∨ k = 4 ∨ k = 5 := by omega
    rcases this with rfl | rfl | rfl | rfl | rfl | rfl <;> simp)
  exact this
/-- Where all is compacted, at most six entries are kept: the newest of each path. -/
theorem kept_once {all : List RKept} {f : Int} (h : OutOk2 all f) (hf : f = (all.length : Int)) : ((keptOf all).map Ent.path).Nodup := by
  have p1 : all.Pairwise (fun k q => k.out = false → k.e.path ≠ q.e.path) := by
    rw [List.pairwise_iff_getElem]
    intro i j hi hj hij ho he
    have hlow := (h.low i all[i] (List.getElem?_eq_getElem hi) (by omega)).2 (Or.inr ⟨j, all[j], hij, by omega, List.getElem?_eq_getElem hj, he.symm⟩)
    rw [ho] at hlow
    cases hlow
  have p2 := p1.filter (fun k : RKept => !k.out)
  show (((all.filter fun k => !k.out).map RKept.e).map Ent.path).Pairwise (· ≠ ·)
  rw [List.pairwise_map, List.pairwise_map]
  exact p2.imp_of_mem (fun {a b} ha _ hab => hab (by have := (List.mem_filter.1 ha).2; simpa using this))
theorem kept_names {ks : List RKey} {all : List RKept} {ds : List Dd} (h : AllOk ks all ds) (hn : ∀ d ∈ ds, N d.path) : ∀ x ∈ (keptOf all).map Ent.path, N x := by
  intro x hx
  obtain ⟨e, he, rfl⟩ := List.mem_map.1 hx
  obtain ⟨k, hk, rfl⟩ := List.mem_map.1 (show e ∈ (all.filter fun k => !k.out).map RKept.e from he)
  have hk := (List.mem_filter.1 hk).1
  obtain ⟨i, hi, hik⟩ := List.getElem_of_mem hk
  have hd : i < ds.length := by rw [← h.len]; exact hi
  have ha := h.same i k ds[i] (by rw [← hik]; exact List.getElem?_eq_getElem hi) (List.getElem?_eq_getElem hd)
  rw [ha.path]
  exact hn _ (List.getElem_mem hd)
/-! How many paths are still under an old key. -/
def lastE (l : List Ent) (p : ByteArray) : Option Ent := l.reverse.find? (fun e => e.path.toList == p.toList)
theorem lastE_snoc (l : List Ent) (e : Ent) (p : ByteArray) : lastE (l ++ [e]) p = if e.path.toList == p.toList then some e else lastE l p := by
  unfold lastE
  rw [List.reverse_append]
  simp only [List.reverse_cons, List.reverse_nil, List.nil_append, List.singleton_append, List.find?_cons]
  cases (e.path.toList == p.toList) <;> rfl
theorem lastE_idx {l : List Ent} {p : ByteArray} {e : Ent} : lastE l p = some e → ∃ i : Nat, l[i]? = some e ∧ e.path = p ∧ ∀ (j : Nat) (q : Ent), i < j → l[j]? = some q → q.path ≠ p := by
  refine snoc_ind (P := fun l => lastE l p = some e → ∃ i : Nat, l[i]? = some e ∧ e.path = p ∧ ∀ (j : Nat) (q : Ent), i < j → l[j]? = some q → q.path ≠ p) ?_ ?_ l
  · intro h
    cases h
  · intro l x ih h
    rw [lastE_snoc] at h
    cases hx : (x.path.toList == p.toList)
    · rw [hx] at h
      obtain ⟨i, a, b, c⟩ := ih (by simpa using h)
      have hi := (List.getElem?_eq_some_iff.1 a).1
      refine ⟨i, by rw [List.getElem?_append_left hi]; exact a, b, fun j q hj hq => ?_⟩
      by_cases e : j < l.length
      · rw [List.getElem?_append_left e] at hq
        exact c j q hj hq
      · have hj2 := (List.getElem?_eq_some_iff.1 hq).1
        have : j = l.length := by simp at hj2; omega
        subst this
        rw [List.getElem?_append_right (Nat.le_refl _)] at hq
        simp at hq
        subst hq
        intro e2
        rw [path_beq.2 e2] at hx
        cases hx
    · rw [hx] at h
      simp at h
      subst h
      refine ⟨l.length, by simp, path_beq.1 hx, fun j q hj hq => ?_⟩
      have hj2 := (List.getElem?_eq_some_iff.1 hq).1
      simp at hj2
      omega
def oldIn (w : Int) : Option Ent → Bool
  | some e => !e.gone && (e.key != w)
  | none => false
def oldAt (Y : RS) (p : ByteArray) : Bool := oldIn (writesOf Y.keys Y.epoch) (lastE (Y.all.map RKept.e) p)
/-- How many of the six paths are under an old key. -/
def mu (Y : RS) : Nat := (List.range 6).countP (fun k => oldAt Y (nameOf k))
theorem mu_six (Y : RS) : mu Y ≤ 6 := by
  unfold mu
  have := List.countP_le_length (p := fun k => oldAt Y (nameOf k)) (l := List.range 6)
  simpa using this
theorem count_one {f g : Nat → Bool} {k : Nat} (hk : k < 6) (h1 : f k = true) (h2 : g k = false) (h3 : ∀ i, i < 6 → i ≠ k → g i = f i) : (List.range 6).countP g + 1 = (List.range 6).countP f := by
  have e : List.range 6 = [0, 1, 2, 3, 4, 5] := rfl
  rw [e]
  simp only [List.countP_cons, List.countP_nil]
  have : k = 0 ∨ k = 1 ∨ k = 2 ∨ k = 3 ∨ k = 4 ∨ k = 5 := by omega
  rcases this with rfl | rfl | rfl | rfl | rfl | rfl
  · rw [h1, h2, h3 1 (by omega) (by omega), h3 2 (by omega) (by omega), h3 3 (by omega) (by omega), h3 4 (by omega) (by omega), h3 5 (by omega) (by omega)]; simp
  · rw [h1, h2, h3 0 (by omega) (by omega), h3 2 (by omega) (by omega), h3 3 (by omega) (by omega), h3 4 (by omega) (by omega), h3 5 (by omega) (by omega)]; simp; omega
  · rw [h1, h2, h3 0 (by omega) (by omega), h3 1 (by omega) (by omega), h3 3 (by omega) (by omega), h3 4 (by omega) (by omega), h3 5 (by omega) (by omega)]; simp; omega
  · rw [h1, h2, h3 0 (by omega) (by omega), h3 1 (by omega) (by omega), h3 2 (by omega) (by omega), h3 4 (by omega) (by omega), h3 5 (by omega) (by omega)]; simp; omega
  · rw [h1, h2, h3 0 (by omega) (by omega), h3 1 (by omega) (by omega), h3 2 (by omega) (by omega), h3 3 (by omega) (by omega), h3 5 (by omega) (by omega)]; simp; omega
  · rw [h1, h2, h3 0 (by omega) (by omega), h3 1 (by omega) (by omega), h3 2 (by omega) (by omega), h3 3 (by omega) (by omega), h3 4 (by omega) (by omega)]; simp; omega
theorem allTo_ents (l : List RKept) (f : Nat → Bool) (m : Nat) : (allTo l f m).map RKept.e = l.map RKept.e := by
  apply List.ext_getElem?
  intro i
  unfold allTo
  rw [List.getElem?_map, List.getElem?_map, List.getElem?_mapIdx]
  cases l[i]? with
  | none => rfl
  | some k =>
    simp only [Option.map_some]
    split <;> rfl
theorem mu_compact (Y : RS) (r : Nat) : mu (Y.compact r) = mu Y := by
  unfold mu oldAt
  show (List.range 6).countP (fun k => oldIn (writesOf Y.keys Y.epoch) (lastE ((allTo Y.all (outAt Y.all r) r).map RKept.e) (nameOf k))) = _
  rw [allTo_ents]
theorem lastE_of {l : List Ent} {p : ByteArray} {e : Ent} {i : Nat} (h1 : l[i]? = some e) (h2 : e.path = p) (h3 : ∀ (j : Nat) (q : Ent), i < j → l[j]? = some q → q.path ≠ p) : lastE l p = some e := by
  cases h : lastE l p with
  | none =>
    have := List.find?_eq_none.1 h e (List.mem_reverse.2 (List.mem_of_getElem? h1))
    rw [path_beq.2 h2] at this
    exact absurd rfl this
  | some e' =>
    obtain ⟨i', a, b, c⟩ := lastE_idx h
    have : i = i' := by
      rcases Nat.lt_trichotomy i i' with q | q | q
      · exact absurd b (h3 i' e' q a)
      · exact q
      · exact absurd h2 (c i e q h1)
    subst this
    exact a.symm.trans h1
theorem lastE_kept {all : List RKept} {f : Int} {p : ByteArray} {e : Ent} (h : OutOk2 all f) (hl : lastE (all.map RKept.e) p = some e) (hg : e.gone = false) : ∃ (i : Nat) (k : RKept), all[i]? = some k ∧ k.e = e ∧ k.out = false ∧ e.path = p ∧ lastOf all p = some e := by
  obtain ⟨i, a, b, c⟩ := lastE_idx hl
  rw [List.getElem?_map] at a
  obtain ⟨k, hk, rfl⟩ := Option.map_eq_some_iff.1 a
  have ho : k.out = false := by
    by_cases hi : (i : Int) + 1 ≤ f
    · cases ho : k.out
      · rfl
      · rcases (h.low i k hk hi).1 ho with q | ⟨j, q, h1, _, h3, h4⟩
        · rw [hg] at q
          cases q
        · exact absurd (h4.trans b) (c j q.e h1 (by rw [List.getElem?_map, h3]; rfl))
    · exact h.high i k hk (by omega)
  refine ⟨i, k, hk, rfl, ho, b, ?_⟩
  have hm : k.e ∈ keptOf all := List.mem_map.2 ⟨k, List.mem_filter.2 ⟨List.mem_of_getElem? hk, by rw [ho]; rfl⟩, rfl⟩
  obtain ⟨k', _, hlast⟩ := last_some hm
  rw [b] at hlast
  obtain ⟨i', k2, a1, a2, a3, a4, a5⟩ := lastOf_idx hlast
  have : i = i' := by
    rcases Nat.lt_trichotomy i i' with q | q | q
    · exact absurd a4 (c i' k2.e q (by rw [List.getElem?_map, a1]; rfl))
    · exact q
    · rcases a5 i k q hk with z | z
      · rw [ho] at z
        cases z
      · exact absurd b z
  subst this
  obtain rfl := Option.some.inj (hk.symm.trans a1)
  rw [hlast, a2]
theorem lastE_last {all : List RKept} {f : Int} {p : ByteArray} {e : Ent} (h : OutOk2 all f) (hl : lastOf all p = some e) : lastE (all.map RKept.e) p = some e := by
  obtain ⟨i, k, a1, rfl, a3, a4, a5⟩ := lastOf_idx hl
  refine lastE_of (i := i) (by rw [List.getElem?_map, a1]; rfl) a4 (fun j q hj hq e2 => ?_)
  rw [List.getElem?_map] at hq
  obtain ⟨kq, hkq, rfl⟩ := Option.map_eq_some_iff.1 hq
  rcases a5 j kq hj hkq with z | z
  · by_cases hf : (j : Int) + 1 ≤ f
    · have := (h.low i k a1 (by omega)).2 (Or.inr ⟨j, kq, hj, hf, hkq, e2.trans a4.symm⟩)
      rw [a3] at this
      cases this
    · have := h.high j kq hkq (by omega)
      rw [z] at this
      cases this
  · exact z e2
/-- What is old is due. -/
theorem old_due (h : Rel2 n X Y) (hk : Know N Y D) {p : ByteArray} (ho : oldAt Y p = true) : (dueOf Y).found = true := by
  unfold oldAt at ho
  cases hl : lastE (Y.all.map RKept.e) p with
  | none => rw [hl] at ho; cases ho
  | some e =>
    rw [hl] at ho
    have ho : (!e.gone && (e.key != writesOf Y.keys Y.epoch)) = true := ho
    rw [Bool.and_eq_true] at ho
    have hg : e.gone = false := by simpa using ho.1
    have hne : e.key ≠ writesOf Y.keys Y.epoch := by simpa using ho.2
    obtain ⟨i, k, a1, rfl, a3, a4, a5⟩ := lastE_kept hk.out hl hg
    obtain ⟨d, hd, hag⟩ := hk.all.of a1
    obtain ⟨ok1, j, K, ok2, ok3, ok4⟩ := h.eok k (List.mem_of_getElem? a1) hg
    have hKg := ok4 a3
    obtain ⟨_, j2, K2, s1, s2, s3, s4⟩ := hag.shut hg
    have hjj : j2 = j := by rw [ok2] at s1; omega
    subst hjj
    obtain rfl := Option.some.inj (s2.symm.trans ok3)
    have hop := opened_deed s4 (h.keys.came j2 K2 ok3).2 hKg
    cases hf : (dueOf Y).found
    · have hm : k.e ∈ keptOf Y.all := List.mem_map.2 ⟨k, List.mem_filter.2 ⟨List.mem_of_getElem? a1, by rw [a3]; rfl⟩, rfl⟩
      exact ((dueOf_spec Y).no hf k.e hm k.e d.text ⟨by rw [a4, a5]; rfl, hg, hne, by rw [keyAt_eq ok3 ok2]; exact hop⟩).elim
    · rfl
/-- What is due is old. -/
theorem due_old (hk : Know N Y D) (hf : (dueOf Y).found = true) : oldAt Y (dueOf Y).name = true := by
  obtain ⟨x, hx, E, q, hE⟩ := (dueOf_spec Y).yes hf
  obtain ⟨k0, _, hlast⟩ := last_some hx
  have hEk : E = k0.e := by rw [q.newest, hlast]; rfl
  obtain ⟨i, k, a1, a2, a3, a4, a5⟩ := lastOf_idx hlast
  have hp : x.path = (dueOf Y).name := by rw [← a4, a2, ← hEk, hE]
  rw [hp] at hlast
  unfold oldAt
  rw [lastE_last hk.out hlast, ← hEk]
  show (!E.gone && (E.key != _)) = true
  rw [q.there]
  simpa using q.old
/-- A move: one path less is old. -/
theorem mu_move (h : Rel2 n X Y) (hk : Know IsName Y D) (hf : (dueOf Y).found = true) {j : Nat} {K : RKey} (hj : writesOf Y.keys Y.epoch = (j : Int) + 1) : mu (Y.move K ((j : Int) + 1)) + 1 = mu Y := by
  obtain ⟨r, d, _, _, _, _, d5, d6, _⟩ := due_deed h hk hf
  rw [d5] at d6
  obtain ⟨k, hk6, hkn⟩ := d6
  have hold := due_old hk hf
  have hmap : (Y.move K ((j : Int) + 1)).all.map RKept.e = Y.all.map RKept.e ++ [moveEnt Y K ((j : Int) + 1)] := by
    show (Y.all ++ [_]).map RKept.e = _
    rw [List.map_append]
    rfl
  have hw : writesOf (Y.move K ((j : Int) + 1)).keys (Y.move K ((j : Int) + 1)).epoch = (j : Int) + 1 := hj
  unfold mu
  refine count_one hk6 ?_ ?_ ?_
  · rw [← hkn]; exact hold
  · unfold oldAt
    rw [hmap, lastE_snoc, hw, if_pos (path_beq.2 (show (moveEnt Y K ((j : Int) + 1)).path = nameOf k from hkn))]
    show (!false && ((j : Int) + 1 != (j : Int) + 1)) = false
    simp
  · intro i hi hne
    unfold oldAt
    rw [hmap, lastE_snoc, hw, hj, if_neg]
    rw [path_beq]
    intro e
    exact hne (nameOf_inj hi hk6 ((show (dueOf Y).name = nameOf i from e).symm.trans hkn))
/-- Nothing is due where all is compacted: nothing is used but the key that writes. -/
theorem kept_last {all : List RKept} {f : Int} (h : OutOk2 all f) (hf : f = (all.length : Int)) {e : Ent} (he : e ∈ keptOf all) : e.gone = false ∧ lastE (all.map RKept.e) e.path = some e := by
  obtain ⟨k, hk, rfl⟩ := List.mem_map.1 (show e ∈ (all.filter fun k => !k.out).map RKept.e from he)
  obtain ⟨hk1, hk2⟩ := List.mem_filter.1 hk
  have ho : k.out = false := by simpa using hk2
  obtain ⟨i, hi, hik⟩ := List.getElem_of_mem hk1
  have hki : all[i]? = some k := by rw [← hik]; exact List.getElem?_eq_getElem hi
  have no : ¬ (k.e.gone = true ∨ ∃ (j : Nat) (q : RKept), i < j ∧ (j : Int) + 1 ≤ f ∧ all[j]? = some q ∧ q.e.path = k.e.path) := fun z => by
    have := (h.low i k hki (by omega)).2 z
    rw [ho] at this
    cases this
  refine ⟨by cases q : k.e.gone; rfl; exact absurd (Or.inl q) no, lastE_of (i := i) (by rw [List.getElem?_map, hki]; rfl) rfl (fun j q hj hq e2 => ?_)⟩
  rw [List.getElem?_map] at hq
  obtain ⟨kq, hkq, rfl⟩ := Option.map_eq_some_iff.1 hq
  have hjl := (List.getElem?_eq_some_iff.1 hkq).1
  exact no (Or.inr ⟨j, kq, hj, by omega, hkq, e2⟩)
theorem mu_zero (hm : mu Y = 0) {p : ByteArray} (hp : IsName p) : oldAt Y p = false := by
  obtain ⟨k, hk6, rfl⟩ := hp
  unfold mu at hm
  rw [List.countP_eq_zero] at hm
  have := hm k (List.mem_range.2 hk6)
  simpa using this
theorem unused (h : Rel2 n X Y) (hk : Know IsName Y D) (hm : mu Y = 0) (hf : D.floor = (D.deeds.length : Int)) : pUsed X = false := by
  unfold pUsed
  rw [List.any_eq_false]
  intro e he
  rw [h.ent] at he
  obtain ⟨hg, hl⟩ := kept_last hk.out (by rw [← hk.floor, hf, hk.all.len]) he
  have hn : IsName e.path := kept_names hk.all hk.names e.path (List.mem_map.2 ⟨e, he, rfl⟩)
  have ho := mu_zero hm hn
  unfold oldAt at ho
  rw [hl] at ho
  have ho : (!e.gone && (e.key != writesOf Y.keys Y.epoch)) = false := ho
  rw [h.write, ho]
  decide
/-! What a coffer may still cost: each path that is old will be moved once, and each key that is to come makes six paths old. -/
def pot (Y : RS) : Nat := mu Y + 6 * (6 - (writesOf Y.keys Y.epoch).toNat)
theorem pot_of {X' : PS} {Y' : RS} {m : Nat} (h : Rel2 n X Y) (h' : Rel2 m X' Y') (hw : X'.write = X.write) (ha : Y'.all.map RKept.e = Y.all.map RKept.e) : pot Y' ≤ pot Y := by
  have e : writesOf Y'.keys Y'.epoch = writesOf Y.keys Y.epoch := by rw [← h.write, ← h'.write, hw]
  unfold pot mu oldAt
  rw [e, ha]
  exact Nat.le_refl _
theorem mu_add (Y : RS) (l : List RKept) (e : Ent) (hl : l.map RKept.e = Y.all.map RKept.e ++ [e]) (he : e.gone = false → e.key = writesOf Y.keys Y.epoch) : mu { Y with all := l } ≤ mu Y := by
  unfold mu
  refine List.countP_mono_left (fun k _ hk => ?_)
  unfold oldAt at hk ⊢
  replace hk : oldIn (writesOf Y.keys Y.epoch) (lastE (l.map RKept.e) (nameOf k)) = true := hk
  rw [hl, lastE_snoc] at hk
  by_cases q : (e.path.toList == (nameOf k).toList) = true
  · rw [if_pos q] at hk
    have hk : (!e.gone && (e.key != writesOf Y.keys Y.epoch)) = true := hk
    rw [Bool.and_eq_true] at hk
    have hg : e.gone = false := by simpa using hk.1
    have hne : e.key ≠ writesOf Y.keys Y.epoch := by simpa using hk.2
    exact absurd (he hg) hne
  · rw [if_neg q] at hk
    exact hk
theorem pot_commit (Y : RS) (i : Nat) (u : RUnd) (hk : commitErr Y u = 0 → u.e.gone = false → u.e.key = writesOf Y.keys Y.epoch) : pot (Y.commit i u) ≤ pot Y := by
  unfold RS.commit
  cases hc : (commitErr Y u == 0)
  · exact Nat.le_refl _
  · have h := mu_add Y (Y.all ++ [⟨{ u.e with rev := (Y.all.length : Int) + 1 }, false⟩]) { u.e with rev := (Y.all.length : Int) + 1 } (by rw [List.map_append]; rfl) (fun hg => hk (by simpa using hc) hg)
    show mu { Y with all := Y.all ++ [⟨{ u.e with rev := (Y.all.length : Int) + 1 }, false⟩] } + 6 * (6 - (writesOf Y.keys Y.epoch).toNat) ≤ mu Y + 6 * (6 - (writesOf Y.keys Y.epoch).toNat)
    omega
theorem pot_promote {X' : PS} {Y' : RS} {m k j : Nat} (h' : Rel2 m X' Y') (hw' : X'.write = (k : Int) + 1) (hw : writesOf Y.keys Y.epoch = (j : Int) + 1) (hj : j < k) (hk : k < 6) : pot Y' ≤ pot Y := by
  have h6 := mu_six Y'
  unfold pot
  rw [← h'.write, hw', hw]
  omega
/-- m: what the coffer has taken; n: what it may have taken when nothing is old and no key is to come. -/
def Slack (Y : RS) (m n : Nat) : Prop := m + pot Y ≤ n
theorem Slack.le {m : Nat} (h : Slack Y m n) : m ≤ n := by
  unfold Slack at h
  omega
theorem Slack.up {m k : Nat} (h : Slack Y m n) (hk : n ≤ k) : Slack Y m k := by
  unfold Slack at *
  omega
theorem Slack.step {Y' : RS} {m : Nat} (h : Slack Y m n) (e : pot Y' ≤ pot Y) : Slack Y' (m + 1) (n + 1) := by
  unfold Slack at *
  omega
/-- Each revision once: no more than there are. -/
theorem once_le {all : List RKept} (hr : Revs all) {l : List Ent} (h : ∀ e ∈ l, ∃ k ∈ all, k.e = e) (ho : (l.map Ent.rev).Nodup) : l.length ≤ all.length := by
  have := nodup_le ((List.range all.length).map (fun (i : Nat) => (i : Int) + 1)) (l.map Ent.rev) ho (fun x hx => by
    obtain ⟨e, he, rfl⟩ := List.mem_map.1 hx
    obtain ⟨k, hk, rfl⟩ := h e he
    obtain ⟨i, hi⟩ := List.getElem?_of_mem hk
    exact List.mem_map.2 ⟨i, List.mem_range.2 (List.getElem?_eq_some_iff.1 hi).1, (hr i k hi).symm⟩)
  simpa using this
end Go.Proofs.YtphapknfkbgapabDoor
