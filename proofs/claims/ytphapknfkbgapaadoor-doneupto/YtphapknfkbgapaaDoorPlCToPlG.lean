import Derived.Test.YtphapknfkbgapaaDoorPlBOne
namespace Go.Proofs.YtphapknfkbgapaaDoor
open Go.RowKit

variable {N : ByteArray → Prop} {X : PS} {Y : RS} {D : PD} {n : Nat}

/-! Compact. -/
theorem allTo_get3 {l : List RKept} {f : Nat → Bool} {m j : Nat} {k : RKept} (h : (allTo l f m)[j]? = some k) : ∃ k0, l[j]? = some k0 ∧ k.e = k0.e ∧ k.out = if j < m then k0.out || f j else k0.out := by
  unfold allTo at h
  rw [List.getElem?_mapIdx] at h
  cases hl : l[j]? with
  | none => rw [hl] at h; cases h
  | some k0 =>
    rw [hl] at h
    obtain rfl := (Option.some.inj h).symm
    refine ⟨k0, rfl, ?_, ?_⟩
    · split <;> rfl
    · split <;> rfl
theorem allTo_of {l : List RKept} {f : Nat → Bool} {m j : Nat} {k0 : RKept} (h : l[j]? = some k0) : ∃ k, (allTo l f m)[j]? = some k ∧ k.e = k0.e ∧ k.out = if j < m then k0.out || f j else k0.out := by
  have hj : j < (allTo l f m).length := by rw [allTo_len]; exact (List.getElem?_eq_some_iff.1 h).1
  obtain ⟨k, hk⟩ : ∃ k, (allTo l f m)[j]? = some k := ⟨_, List.getElem?_eq_getElem hj⟩
  obtain ⟨k1, h1, h2, h3⟩ := allTo_get3 hk
  obtain rfl := Option.some.inj (h1.symm.trans h)
  exact ⟨k, hk, h2, h3⟩
/-- An entry up to the floor is out just if it is gone, or another of its path follows up to there. -/
theorem outAt_iff {all : List RKept} {floor : Int} (ho : OutOk2 all floor) (hr : Revs all) {r i : Nat} {k : RKept} (hk : all[i]? = some k) (hi : i < r) (hf : floor ≤ (r : Int)) :
    ((k.out || outAt all r i) = true ↔ k.e.gone = true ∨ ∃ (j : Nat) (q : RKept), i < j ∧ (j : Int) + 1 ≤ (r : Int) ∧ all[j]? = some q ∧ q.e.path = k.e.path) := by
  have hout : outAt all r i = ((((lastOf (all.take r) k.e.path).getD Ent.zero).rev != (i : Int) + 1) || ((lastOf (all.take r) k.e.path).getD Ent.zero).gone) := by
    unfold outAt; rw [hk]
  -- one that is out already
  have old : k.out = true → k.e.gone = true ∨ ∃ (j : Nat) (q : RKept), i < j ∧ (j : Int) + 1 ≤ (r : Int) ∧ all[j]? = some q ∧ q.e.path = k.e.path := fun q => by
    by_cases hfl : (i : Int) + 1 ≤ floor
    · rcases (ho.low i k hk hfl).1 q with q | ⟨j, q, a1, a2, a3, a4⟩
      · exact Or.inl q
      · exact Or.inr ⟨j, q, a1, by omega, a3, a4⟩
    · have := ho.high i k hk (by omega)
      rw [this] at q; cases q
  constructor
  · intro h
    cases hko : k.out
    · rw [hko, Bool.false_or, hout] at h
      cases hL : lastOf (all.take r) k.e.path with
      | none =>
        exfalso
        have : lastOf (all.take r) k.e.path ≠ none := by
          intro hn
          obtain ⟨e, he⟩ : ∃ e, lastOf (all.take r) k.e.path = some e := by
            have hm : k.e ∈ keptOf (all.take r) := List.mem_map.2 ⟨k, List.mem_filter.2 ⟨List.mem_of_getElem? (take_of hk hi), by simp [hko]⟩, rfl⟩
            obtain ⟨k2, _, h2⟩ := last_some hm
            exact ⟨_, h2⟩
          rw [hn] at he; cases he
        exact this hL
      | some e =>
        rw [hL] at h
        obtain ⟨j, q, a1, a2, a3, a4, a5⟩ := lastOf_idx hL
        obtain ⟨hjr, a1⟩ := take_at a1
        have hrq := hr j q a1
        rcases Nat.lt_trichotomy i j with c | c | c
        · exact Or.inr ⟨j, q, c, by omega, a1, a4⟩
        · subst c
          obtain rfl := Option.some.inj (hk.symm.trans a1)
          simp only [Option.getD_some] at h
          rw [← a2, hrq] at h
          left
          simpa using h
        · rcases a5 i k c (take_of hk hi) with z | z
          · rw [hko] at z; cases z
          · exact absurd rfl z
    · exact old hko
  · intro h
    cases hko : k.out
    · rw [Bool.false_or, hout]
      have hm : k.e ∈ keptOf (all.take r) := List.mem_map.2 ⟨k, List.mem_filter.2 ⟨List.mem_of_getElem? (take_of hk hi), by simp [hko]⟩, rfl⟩
      obtain ⟨k2, _, hL⟩ := last_some hm
      rw [hL]
      obtain ⟨j, q, a1, a2, a3, a4, a5⟩ := lastOf_idx hL
      obtain ⟨hjr, a1⟩ := take_at a1
      have hrq := hr j q a1
      simp only [Option.getD_some]
      rw [← a2, hrq]
      by_cases hji : j = i
      · subst hji
        obtain rfl := Option.some.inj (hk.symm.trans a1)
        rcases h with h | ⟨m, z, b1, b2, b3, b4⟩
        · rw [h]; simp
        · exfalso
          rcases a5 m z b1 (take_of b3 (by omega)) with c | c
          · have hfl : (m : Int) + 1 ≤ floor := by
              by_cases hfl : (m : Int) + 1 ≤ floor
              · exact hfl
              · have := ho.high m z b3 (by omega)
                rw [this] at c; cases c
            have := (ho.low j k hk (by omega)).2 (Or.inr ⟨m, z, b1, hfl, b3, b4⟩)
            rw [hko] at this; cases this
          · exact c b4
      · have : ((j : Int) + 1 != (i : Int) + 1) = true := by rw [bne_iff_ne]; omega
        rw [this]; rfl
    · rfl
theorem know_compact (h : Know N Y D) (hr : Rel2 n X Y) (r : Nat) (h1 : Y.floor < (r : Int)) (h2 : r ≤ Y.all.length) : Know N (Y.compact r) { D with floor := (r : Int) } := by
  refine ⟨⟨?_, fun i k d hk hd => ?_⟩, ⟨fun i k hk hfl => ?_, fun i k hk hfl => ?_⟩, rfl, ?_, h.names, h.keys, h.dest, h.opl, h.ops, ⟨fun i k hk hg => ?_, fun i j k q hij hk hq hg hgq => ?_, fun s u hu ho hg => ?_, h.draws.d⟩, h.came, fun e he => ?_, h.pods, h.left⟩
  · show (allTo Y.all _ r).length = _
    rw [allTo_len]; exact h.all.len
  · obtain ⟨k0, a1, a2, _⟩ := allTo_get3 hk
    rw [a2]
    exact h.all.same i k0 d a1 hd
  · replace hfl : (i : Int) + 1 ≤ (r : Int) := hfl
    obtain ⟨k0, a1, a2, a3⟩ := allTo_get3 hk
    rw [if_pos (by omega)] at a3
    rw [a3, a2, outAt_iff h.out hr.revs a1 (by omega) (by omega)]
    constructor
    · rintro (q | ⟨j, q, b1, b2, b3, b4⟩)
      · exact Or.inl q
      · obtain ⟨q', c1, c2, _⟩ := allTo_of (f := outAt Y.all r) (m := r) b3
        exact Or.inr ⟨j, q', b1, b2, c1, by rw [c2]; exact b4⟩
    · rintro (q | ⟨j, q, b1, b2, b3, b4⟩)
      · exact Or.inl q
      · obtain ⟨q', c1, c2, _⟩ := allTo_get3 b3
        exact Or.inr ⟨j, q', b1, b2, c1, by rw [← c2]; exact b4⟩
  · replace hfl : (r : Int) < (i : Int) + 1 := hfl
    obtain ⟨k0, a1, _, a3⟩ := allTo_get3 hk
    rw [if_neg (by omega)] at a3
    rw [a3]
    exact h.out.high i k0 a1 (by omega)
  · show (r : Int) ≤ (((allTo Y.all _ r).length : Nat) : Int)
    rw [allTo_len]; omega
  · obtain ⟨k0, a1, a2, _⟩ := allTo_get3 hk
    rw [a2] at hg ⊢
    exact h.draws.a i k0 a1 hg
  · obtain ⟨k0, a1, a2, _⟩ := allTo_get3 hk
    obtain ⟨q0, b1, b2, _⟩ := allTo_get3 hq
    rw [a2] at hg ⊢
    rw [b2] at hgq ⊢
    exact h.draws.b i j k0 q0 hij a1 b1 hg hgq
  · obtain ⟨a, b⟩ := h.draws.c s u hu ho hg
    refine ⟨a, fun i k hk hgk => ?_⟩
    obtain ⟨k0, a1, a2, _⟩ := allTo_get3 hk
    rw [a2] at hgk ⊢
    exact b i k0 a1 hgk
  · obtain ⟨a, k, b, c⟩ := h.told e he
    obtain ⟨i, hi⟩ := List.getElem?_of_mem b
    obtain ⟨k', c1, c2, _⟩ := allTo_of (f := outAt Y.all r) (m := r) hi
    exact ⟨a, k', List.mem_of_getElem? c1, by rw [c2]; exact c⟩
/-! The keys. -/
def KeyMono (ks ks' : List RKey) : Prop := ∀ (j : Nat) (K : RKey), ks[j]? = some K → K.writes ≠ 0 → ∃ K', ks'[j]? = some K' ∧ K'.text = K.text ∧ K'.writes ≠ 0
theorem Agrees.mono {ks ks' : List RKey} {e : Ent} {d : Dd} (h : Agrees ks e d) (hm : KeyMono ks ks') : Agrees ks' e d := by
  refine ⟨h.path, h.gone, h.size, fun hg => ?_⟩
  obtain ⟨a, j, K, b1, b2, b3, b4⟩ := h.shut hg
  obtain ⟨K', c1, c2, c3⟩ := hm j K b2 b3
  exact ⟨a, j, K', b1, c1, c3, by rw [c2]; exact b4⟩
theorem know_keys (h : Know N Y D) (ks : List RKey) (ep t : Int) (hl : t ≠ 0 → 2 ≤ leftOf ks ∧ T3 t) (hm : KeyMono Y.keys ks) (hc : ∀ (s : Nat) (sn : Int), Y.seen[s]? = some sn → sn ≠ 0 → ∀ (i : Nat) (K : RKey), ks[i]? = some K → K.writes ≠ 0 → K.came ≤ sn) :
    Know N { Y with keys := ks, epoch := ep, turn := t } { D with keys := ks.map RKey.text, dest := destOf ks } := by
  refine ⟨⟨h.all.len, fun i k d hk hd => (h.all.same i k d hk hd).mono hm⟩, h.out, h.floor, h.floor1, h.names, rfl, rfl, h.opl, fun s u hu => ?_, h.draws, hc, h.told, h.pods, hl⟩
  obtain ⟨v, a, b, c⟩ := h.ops s u hu
  exact ⟨v, a, b, fun ho => ⟨(c ho).1.mono hm, (c ho).2⟩⟩
theorem know_turn (h : Know N Y D) (t : Int) (ht : t ≠ 0 → 2 ≤ leftOf Y.keys ∧ T3 t) : Know N { Y with turn := t } D := ⟨h.all, h.out, h.floor, h.floor1, h.names, h.keys, h.dest, h.opl, h.ops, h.draws, h.came, h.told, h.pods, ht⟩
theorem goneAt_snoc (ks : List RKey) (t : ByteArray) (a c : Int) (i : Nat) : goneAt (ks ++ [⟨t, a, c, false⟩]) i = goneAt ks i := by
  unfold goneAt
  by_cases h : i < ks.length
  · rw [List.getElem?_append_left h]
  · rw [List.getElem?_eq_none (by omega : ks.length ≤ i), List.getElem?_append_right (by omega)]
    cases hq : ([⟨t, a, c, false⟩] : List RKey)[i - ks.length]? with
    | none => rfl
    | some k =>
      have h0 : i - ks.length < 1 := (List.getElem?_eq_some_iff.1 hq).1
      rw [show i - ks.length = 0 by omega] at hq
      obtain rfl := (Option.some.inj hq).symm
      rfl
theorem left_more {ks : List RKey} {t : ByteArray} {a c : Int} (h : 1 ≤ leftOf ks) : 2 ≤ leftOf (ks ++ [⟨t, a, c, false⟩]) := by
  unfold leftOf at h ⊢
  rw [List.countP_append]
  have : List.countP (fun k : RKey => !k.gone) [⟨t, a, c, false⟩] = 1 := rfl
  omega
theorem left_turn {l : Nat} {t : Int} (h : 1 ≤ l) (q : (if l == 1 then (0 : Int) else t) ≠ 0) : 2 ≤ l := by
  by_cases e : l = 1
  · rw [e] at q
    exact absurd rfl q
  · omega
theorem left_turn3 {l : Nat} {t : Int} (ht : t ≠ 0 → T3 t) (q : (if l == 1 then (0 : Int) else t) ≠ 0) : T3 (if l == 1 then (0 : Int) else t) := by
  by_cases e : (l == 1) = true
  · rw [if_pos e] at q
    exact absurd rfl q
  · rw [if_neg e] at q ⊢
    exact ht q
theorem left_set {ks : List RKey} {m : Nat} {K K' : RKey} (hK : ks[m]? = some K) (hg : K'.gone = K.gone) : leftOf (ks.set m K') = leftOf ks := by
  obtain ⟨hl, he⟩ := List.getElem?_eq_some_iff.1 hK
  unfold leftOf
  rw [List.countP_set hl, he]
  have hp : (if !K.gone then 1 else 0) ≤ List.countP (fun k => !k.gone) ks := by
    cases hq : K.gone
    · exact List.countP_pos_iff.2 ⟨K, List.mem_of_getElem? hK, by rw [hq]; rfl⟩
    · exact Nat.zero_le _
  rw [hg]
  omega
theorem know_stage (h : Know N Y D) (t : ByteArray) (h1 : 1 ≤ leftOf Y.keys) : Know N (Y.stage t) { D with keys := D.keys ++ [t] } := by
  have q := know_keys h (Y.keys ++ [⟨t, Y.epoch + 1, 0, false⟩]) (Y.epoch + 1) 1 (fun _ => ⟨left_more h1, Or.inl rfl⟩) (fun j K hj hw => ⟨K, by rw [List.getElem?_append_left (List.getElem?_eq_some_iff.1 hj).1]; exact hj, rfl, hw⟩) (fun s sn hs hne i K hK hw => by
    rcases snoc_at hK with hK | ⟨_, rfl⟩
    · exact h.came s sn hs hne i K hK hw
    · exact absurd rfl hw)
  have e1 : (Y.keys ++ ([⟨t, Y.epoch + 1, 0, false⟩] : List RKey)).map RKey.text = D.keys ++ [t] := by rw [List.map_append, h.keys]; rfl
  have e2 : destOf (Y.keys ++ [⟨t, Y.epoch + 1, 0, false⟩]) = D.dest := by
    rw [h.dest]
    unfold destOf
    congr 1
    exact List.map_congr_left (fun i _ => goneAt_snoc _ _ _ _ i)
  rw [e1, e2] at q
  exact q
theorem know_promote (h : Know N Y D) (hr : Rel2 n X Y) (m : Nat) (K : RKey) (hK : Y.keys[m]? = some K) (ha : allSeen Y = true) (ht : Y.turn ≠ 0) : Know N (Y.promote m K) D := by
  have hml : m < Y.keys.length := (List.getElem?_eq_some_iff.1 hK).1
  have he := hr.ep.2.1
  have q := know_keys h (Y.keys.set m { K with writes := Y.epoch + 1 }) (Y.epoch + 1) 2 (fun _ => ⟨by rw [left_set (K' := { K with writes := Y.epoch + 1 }) hK rfl]; exact (h.left ht).1, Or.inr (Or.inl rfl)⟩) (fun j K' hj hw => by
    by_cases e : j = m
    · subst e
      obtain rfl := Option.some.inj (hj.symm.trans hK)
      exact ⟨_, List.getElem?_set_self hml, rfl, by show Y.epoch + 1 ≠ 0; omega⟩
    · exact ⟨K', by rw [List.getElem?_set_ne (fun q => e q.symm)]; exact hj, rfl, hw⟩) (fun s sn hs hne i K' hK' hw => by
    rcases set_at hK' with ⟨_, hK'⟩ | ⟨_, rfl⟩
    · exact h.came s sn hs hne i K' hK' hw
    · have := List.all_eq_true.1 ha sn (List.mem_of_getElem? hs)
      have e : sn = Y.epoch := by simpa using this
      rw [e]
      exact (hr.keys.came m K hK).2)
  have e1 : (Y.keys.set m { K with writes := Y.epoch + 1 }).map RKey.text = D.keys := by
    rw [h.keys, List.map_set]
    exact set_same (by rw [List.getElem?_map, hK]; rfl)
  have e2 : destOf (Y.keys.set m { K with writes := Y.epoch + 1 }) = D.dest := by
    rw [h.dest]
    unfold destOf
    congr 1
    refine List.map_congr_left (fun i _ => ?_)
    unfold goneAt
    by_cases e : m = i
    · subst e
      rw [List.getElem?_set_self hml, hK]; rfl
    · rw [List.getElem?_set_ne e]
  rw [e1, e2] at q
  exact q
theorem know_destroy (h : Know N Y D) (j : Nat) (K : RKey) (hK : Y.keys[j]? = some K) (hj6 : j < 6) (h1 : 1 ≤ leftOf (Y.keys.set j { K with gone := true })) : Know N (Y.destroy j K) { D with dest := D.dest.set (j + 1) true } := by
  have hjl : j < Y.keys.length := (List.getElem?_eq_some_iff.1 hK).1
  have q := know_keys h (Y.keys.set j { K with gone := true }) Y.epoch (if leftOf (Y.keys.set j { K with gone := true }) == 1 then 0 else Y.turn) (fun q => ⟨left_turn h1 q, left_turn3 (fun z => (h.left z).2) q⟩) (fun i K' hi hw => by
    by_cases e : i = j
    · subst e
      obtain rfl := Option.some.inj (hi.symm.trans hK)
      exact ⟨_, List.getElem?_set_self hjl, rfl, hw⟩
    · exact ⟨K', by rw [List.getElem?_set_ne (fun q => e q.symm)]; exact hi, rfl, hw⟩) (fun s sn hs hne i K' hK' hw => by
    rcases set_at hK' with ⟨_, hK'⟩ | ⟨_, rfl⟩
    · exact h.came s sn hs hne i K' hK' hw
    · exact h.came s sn hs hne j K hK hw)
  have e1 : (Y.keys.set j { K with gone := true }).map RKey.text = D.keys := by
    rw [h.keys, List.map_set]
    exact set_same (by rw [List.getElem?_map, hK]; rfl)
  have e2 : destOf (Y.keys.set j { K with gone := true }) = D.dest.set (j + 1) true := by
    rw [h.dest]
    unfold destOf
    rw [List.set_cons_succ]
    congr 1
    apply List.ext_getElem?
    intro i
    by_cases e : j = i
    · subst e
      rw [List.getElem?_set_self (by simp; omega), List.getElem?_map, List.getElem?_range hj6]
      show some (goneAt _ j) = _
      unfold goneAt
      rw [List.getElem?_set_self hjl]; rfl
    · rw [List.getElem?_set_ne e, List.getElem?_map, List.getElem?_map]
      by_cases h6 : i < 6
      · rw [List.getElem?_range h6]
        show some (goneAt _ i) = some (goneAt _ i)
        unfold goneAt
        rw [List.getElem?_set_ne e]
      · rw [List.getElem?_eq_none (by simp; omega)]
        rfl
  rw [e1, e2] at q
  exact q
end Go.Proofs.YtphapknfkbgapaaDoor
namespace Go.Proofs.YtphapknfkbgapaaDoor
open Go.RowKit

variable {N : ByteArray → Prop} {X : PS} {Y : RS} {D : PD} {n : Nat}

/-! Reads tell what was done. -/
theorem opened_deed {K : RKey} {e : Ent} {sn : Int} {t : ByteArray} (hs : e.sealed = sealOf K.text (nonceTo e.draw 12) e.path t) (hc : K.came ≤ sn) (hg : K.gone = false) : openedOf K e sn = (t, 0) := by
  have hd : decide (sn < K.came) = false := by simp; omega
  have ho : openB K.text (nonceTo e.draw 12) e.path e.sealed = true := by
    unfold openB
    rw [hs]
    exact decide_eq_true (opens_seal K.text (nonceTo e.draw 12) e.path t)
  have hm : maskOf K.text (nonceTo e.draw 12) (coverOf e.sealed) = t := by rw [hs]; exact open_seal _ _ _ _
  unfold openedOf
  rw [hd, hg, ho, hm]
  simp only [Bool.false_eq_true, if_false, if_true]
def tells (r : Nat) (d : Dd) : ByteArray × Int × Int := if (r == 0) || d.gone then (⟨#[]⟩, 0, 12) else (d.text, (r : Int), 0)
def tellV (r : Nat) (d : Dd) : Value := .tuple #[.string (tells r d).1, .int .i64 (tells r d).2.1, .int .i64 (tells r d).2.2]
theorem read_tells (h : Rel2 n X Y) (hk : Know N Y D) {i : Nat} {p : PSrv} {sn : Int} {u : RUnd} (hzn : sn ≠ 0) (hpp : X.servers[i]? = some p) (ha : At Y i sn u) (hS : Same2 Y.keys Y.epoch p sn u) (name : ByteArray) (rev : Nat) (hr1 : Y.floor ≤ (rev : Int)) {r : Nat} {d : Dd} (hN : NewD (D.deeds.take rev) name r d) :
    ∀ (w : World) (F : Nat → Prop) (b : Nat), XIn w F b X → Fours w → 1 ≤ w.heap.size → Calls Tryd.prog 76 #[.pointer (some ⟨b, 0, none⟩), .int .i64 (i : Int), .string name, .int .i64 (rev : Int)] w fun e w' => e = .returned (tellV r d) ∧ Low w.heap.size w w' := by
  have hent : X.entries.length ≤ 1000 := by have := h.few; have := h.rooms; omega
  have hNw : newestOf X.entries name (rev : Int) = (lastOf (Y.all.take rev) name).getD Ent.zero := by rw [h.ent, newest_last _ _ _ h.revs, Int.toNat_natCast]
  by_cases hg : r = 0 ∨ d.gone = true
  · have ht := look_no hk.all hk.out hN hg
    have e : tellV r d = .tuple #[.string ⟨#[]⟩, .int .i64 0, .int .i64 12] := by
      have : ((r == 0) || d.gone) = true := by
        rcases hg with q | q
        · rw [q]; rfl
        · rw [q, Bool.or_true]
      unfold tellV tells
      rw [this]
      rfl
    rw [e]
    intro w F b hX _ _
    refine read_none w i name (rev : Int) hX hent ?_
    rw [hNw]
    cases hL : lastOf (Y.all.take rev) name with
    | none => rfl
    | some E =>
      rw [hL] at ht
      unfold thereOf at ht
      simp at ht
      simp [ht]
  · have hr0 : r ≠ 0 := fun q => hg (Or.inl q)
    have hdg : d.gone = false := by cases q : d.gone; rfl; exact absurd (Or.inr q) hg
    rcases hN with ⟨q, _, _⟩ | ⟨m, rfl, hm, hp, hl⟩
    · exact absurd q hr0
    · obtain ⟨hmr, hm2⟩ := take_at hm
      obtain ⟨k, k1, k2, k3, k4⟩ := look_yes hk.all hk.out hr1 hm2 hmr hp hdg hl
      rw [k4] at hNw
      replace hNw : newestOf X.entries name (rev : Int) = k.e := hNw
      have hrv := h.revs m k k1
      have hkg : k.e.gone = false := by rw [k3.gone]; exact hdg
      obtain ⟨ok1, jk, K, ok2, ok3, ok4⟩ := h.eok k (List.mem_of_getElem? k1) hkg
      have hKg : K.gone = false := ok4 k2
      have hjl : jk < Y.keys.length := (List.getElem?_eq_some_iff.1 ok3).1
      have hj6 : jk ≤ 6 := by have := h.keys.few.2; omega
      obtain ⟨pk, hpk⟩ : ∃ pk, X.keys[jk]? = some pk := ⟨_, List.getElem?_eq_getElem (by rw [h.keys.len]; exact hjl)⟩
      have hks := h.keys.same jk pk K hpk ok3
      have htx := hks.text hKg
      have hkgp : keyGone pk = false := keyGone_no (by rw [htx]; exact hks.size)
      obtain ⟨_, j2, K2, s1, s2, s3, s4⟩ := k3.shut hkg
      have hjj : j2 = jk := by rw [ok2] at s1; omega
      subst hjj
      obtain rfl := Option.some.inj (s2.symm.trans ok3)
      have hcame := hk.came i sn ha.seen hzn j2 K2 ok3 s3
      have hop := opened_deed s4 hcame hKg
      have e1 : pRead pk k.e p.seen = (d.text, 0) := by
        rw [← hop]
        unfold pRead openedOf pOpened
        rw [hS.seen, hkgp, hks.came, hKg, htx]
      have e : tellV (m + 1) d = .tuple #[.string d.text, .int .i64 k.e.rev, .int .i64 0] := by
        unfold tellV tells
        rw [hdg, hrv]
        rfl
      rw [e]
      intro w F b hX hF h1
      have q := read_some w i p name (rev : Int) k.e pk j2 hX hpp hent hNw (by rw [beq_eq_false_iff_ne]; omega) hkg hpk ok2 hj6 (by rw [htx]; exact hks.size) ok1 hF h1
      rw [e1] at q
      exact q
theorem get_tells (h : Rel2 n X Y) (hk : Know N Y D) {i : Nat} {sn : Int} {u : RUnd} {p : PSrv} (hpp : X.servers[i]? = some p) (ha : At Y i sn u) (hS : Same2 Y.keys Y.epoch p sn u) (name : ByteArray) {r : Nat} {d : Dd} (hN : NewD D.deeds name r d) :
    PUni 46 [.int .i64 (i : Int), .string name] X (if sn == 0 then .tuple #[.string ⟨#[]⟩, .int .i64 0, .int .i64 6] else tellV r d) X := by
  by_cases hz : sn = 0
  · rw [if_pos (by rw [hz]; rfl)]
    exact p_same (fun w F b hX => pGet_blind w i p name hX hpp (by rw [hS.seen, hz]; rfl))
  · rw [if_neg (by simpa using hz)]
    refine p_low (fun w F b hX hF h1 => ?_)
    have hl : D.deeds.take Y.all.length = D.deeds := List.take_of_length_le (by rw [hk.deeds]; exact Nat.le_refl _)
    have q := read_tells h hk hz hpp ha hS name Y.all.length hk.floor1 (r := r) (d := d) (by rw [hl]; exact hN) w F b hX hF h1
    rw [← h.rev] at q
    exact pGet_ok w i p name hX hpp (by rw [hS.seen, beq_eq_false_iff_ne]; exact hz) _ _ _ q
theorem getAt_tells (h : Rel2 n X Y) (hk : Know N Y D) {i : Nat} {sn : Int} {u : RUnd} {p : PSrv} (hpp : X.servers[i]? = some p) (ha : At Y i sn u) (hS : Same2 Y.keys Y.epoch p sn u) (name : ByteArray) (rev : Nat) {r : Nat} {d : Dd} (hN : NewD (D.deeds.take rev) name r d) :
    PUni 99 [.int .i64 (i : Int), .string name, .int .i64 (rev : Int)] X (if sn == 0 then .tuple #[.string ⟨#[]⟩, .int .i64 0, .int .i64 6] else if decide ((rev : Int) < D.floor) || decide ((D.deeds.length : Int) < (rev : Int)) then .tuple #[.string ⟨#[]⟩, .int .i64 0, .int .i64 15] else tellV r d) X := by
  by_cases hz : sn = 0
  · rw [if_pos (by rw [hz]; rfl)]
    exact p_same (fun w F b hX => pGetAt_blind w i p name (rev : Int) hX hpp (by rw [hS.seen, hz]; rfl))
  · rw [if_neg (by simpa using hz)]
    have hs : (p.seen == 0) = false := by rw [hS.seen, beq_eq_false_iff_ne]; exact hz
    have eb : pBadRev X (rev : Int) = (decide ((rev : Int) < D.floor) || decide ((D.deeds.length : Int) < (rev : Int))) := by
      unfold pBadRev
      rw [h.floor, h.rev, hk.floor, hk.deeds]
    rw [← eb]
    cases hb : pBadRev X (rev : Int)
    · refine p_low (fun w F b hX hF h1 => ?_)
      have hfl : Y.floor ≤ (rev : Int) := by
        rw [eb, Bool.or_eq_false_iff] at hb
        have := hb.1
        rw [hk.floor] at this
        simpa using this
      exact pGetAt_ok w i p name (rev : Int) hX hpp hs hb _ _ _ (read_tells h hk hz hpp ha hS name rev hfl hN w F b hX hF h1)
    · exact p_same (fun w F b hX => pGetAt_rev w i p name (rev : Int) hX hpp hs hb)
/-! What is due is what was done last. -/
theorem due_deed (h : Rel2 n X Y) (hk : Know N Y D) (hf : (dueOf Y).found = true) : ∃ (r : Nat) (d : Dd), NewD D.deeds (dueOf Y).name r d ∧ r ≠ 0 ∧ d.gone = false ∧ d.text = (dueOf Y).text ∧ d.path = (dueOf Y).name ∧ N d.path ∧ d.text.size ≤ 64 := by
  obtain ⟨x, hx, E, q, hE⟩ := (dueOf_spec Y).yes hf
  obtain ⟨k0, _, hlast⟩ := last_some hx
  have hEk : E = k0.e := by rw [q.newest, hlast]; rfl
  obtain ⟨i, k, a1, a2, a3, a4, a5⟩ := lastOf_idx hlast
  obtain ⟨d, hd, hag⟩ := hk.all.of a1
  have hkE : k.e = E := by rw [a2, hEk]
  have hg : k.e.gone = false := by rw [hkE]; exact q.there
  obtain ⟨ok1, j, K, ok2, ok3, ok4⟩ := h.eok k (List.mem_of_getElem? a1) hg
  have hKg := ok4 a3
  obtain ⟨_, j2, K2, s1, s2, s3, s4⟩ := hag.shut hg
  have hjj : j2 = j := by rw [ok2] at s1; omega
  subst hjj
  obtain rfl := Option.some.inj (s2.symm.trans ok3)
  have hop := opened_deed s4 (h.keys.came j2 K2 ok3).2 hKg
  have ho := q.opens
  rw [← hkE, keyAt_eq ok3 ok2, hop] at ho
  have htx : d.text = (dueOf Y).text := congrArg Prod.fst ho
  have hpn : d.path = (dueOf Y).name := by rw [← hag.path, hkE, hE]
  refine ⟨i + 1, d, Or.inr ⟨i, rfl, hd, hpn, fun m c hm hc hcp => ?_⟩, by omega, by rw [← hag.gone]; exact hg, htx, hpn, hk.names d (List.mem_of_getElem? hd), hag.size⟩
  obtain ⟨z, hz, hzc⟩ := hk.all.at hc
  have hzp : z.e.path = k.e.path := by rw [hzc.path, hcp, ← hpn, ← hag.path]
  rcases a5 m z hm hz with c1 | c1
  · have hfl : (m : Int) + 1 ≤ Y.floor := by
      by_cases hfl : (m : Int) + 1 ≤ Y.floor
      · exact hfl
      · have := hk.out.high m z hz (by omega)
        rw [this] at c1; cases c1
    have := (hk.out.low i k a1 (by omega)).2 (Or.inr ⟨m, z, hm, hfl, hz, hzp⟩)
    rw [a3] at this
    cases this
  · exact c1 (by rw [hzp, a4])
theorem know_move (h : Rel2 n X Y) (hk : Know N Y D) {j : Nat} {K : RKey} (hj : writesOf Y.keys Y.epoch = (j : Int) + 1) (hK : Y.keys[j]? = some K) {d : Dd} (hd : d.path = (dueOf Y).name) (ht : d.text = (dueOf Y).text) (hg : d.gone = false) (hN : N d.path) (hs : d.text.size ≤ 64) :
    Know N (Y.move K ((j : Int) + 1)) { D with deeds := D.deeds ++ [d] } := by
  obtain ⟨_, d1, _⟩ := h.draws
  have hw : K.writes ≠ 0 := by
    obtain ⟨j2, p, K2, b1, b2, b3, b4, b5, b6, _⟩ := h.writer
    have hjj : j2 = j := by rw [hj] at b2; omega
    subst hjj
    obtain rfl := Option.some.inj (b4.symm.trans hK)
    omega
  have q := know_add hk (closedOf K.text ((j : Int) + 1) (dueOf Y).name (dueOf Y).text (Y.draws + 1)) d (Y.draws + 1) (by omega) ⟨hd.symm, hg.symm, hs, fun _ => ⟨by show 1 ≤ Y.draws + 1; omega, j, K, rfl, hK, hw, by rw [ht]; rfl⟩⟩ hN (fun _ => ⟨⟨by show 1 ≤ Y.draws + 1; omega, Int.le_refl _⟩, fun i k hi hgk => (by have := (hk.draws.a i k hi hgk).2; show k.e.draw ≠ Y.draws + 1; omega), fun s u hu ho hgu => (by have := (hk.draws.c s u hu ho hgu).1.2; show u.e.draw ≠ Y.draws + 1; omega)⟩) ((Y.all.length : Int) + 1)
  exact q
end Go.Proofs.YtphapknfkbgapaaDoor
namespace Go.Proofs.YtphapknfkbgapaaDoor
open Go.RowKit

variable {N : ByteArray → Prop} {X : PS} {Y : RS} {D : PD} {n : Nat}

/-! Each call of the program, and what the player knows behind it. -/
theorem rel_refresh (h : Rel2 n X Y) {i : Nat} {p : PSrv} {sn : Int} {u : RUnd} (_hp : X.servers[i]? = some p) (ha : At Y i sn u) (hS : Same2 Y.keys Y.epoch p sn u) (hi : i < Y.seen.length) : Rel2 (n + 1) (X.refresh i p) (Y.refresh (i : Int)) := by
  have q := (h.put hi { p with seen := X.epoch } Y.epoch u ⟨h.ep.1, ⟨by have := h.ep.2.1; omega, Int.le_refl _⟩, hS.busy, hS.op⟩).up
  rw [set_same ha.op] at q
  unfold PS.refresh RS.refresh
  rw [Int.toNat_natCast]
  exact q
theorem rel_crash (h : Rel2 n X Y) {i : Nat} (hi : i < Y.seen.length) : Rel2 (n + 1) (X.crash i) (Y.crash (i : Int)) := by
  have q := (h.put hi PSrv.zero 0 RUnd.zero ⟨rfl, ⟨Int.le_refl _, by have := h.ep.2.1; omega⟩, rfl, fun e => by cases e⟩).up
  unfold PS.crash RS.crash
  rw [Int.toNat_natCast]
  exact q
theorem rel_commit (h : Rel2 n X Y) {i : Nat} {p : PSrv} {sn : Int} {u : RUnd} (ha : At Y i sn u) (hS : Same2 Y.keys Y.epoch p sn u) (hi : i < Y.seen.length) (hbz : p.busy = true) {j : Nat} {pk : PKey} {K : RKey} (w1 : writesOf Y.keys Y.epoch = (j : Int) + 1) (w3 : Y.keys[j]? = some K) (w4 : KSame pk K) (w6 : K.gone = false) (w7 : promOf Y.keys = (if j = 0 then 0 else K.writes)) (w8 : j = 0 → K.writes = 1) :
    Rel2 (n + 1) (X.commit pk.wrote i p) (Y.commit i u) := by
  have hA := h.all
  have hE := commit_same2 h w4 w7 w8 hS hbz
  obtain ⟨e1, e2, e3, e4, e5, e6, e7⟩ := hS.op hbz
  have q := h.put hi p.rest sn RUnd.zero ⟨hS.seen, hS.sn, rfl, fun e => by cases e⟩
  rw [set_same ha.seen] at q
  unfold PS.commit RS.commit
  rw [hE]
  by_cases hc : (commitErr Y u == 0) = true
  · rw [if_pos hc, if_pos hc]
    have hc0 : commitErr Y u = 0 := by simpa using hc
    have hfull : fullOf Y = false := by
      cases hf : fullOf Y
      · rfl
      · exfalso
        revert hc0
        unfold commitErr
        rw [hf]
        split
        · intro z; cases z
        · split
          · intro z; cases z
          · split
            · intro z; cases z
            · intro z; cases z
    have hstale : promOf Y.keys ≤ u.epoch := by
      by_cases hz : u.epoch < promOf Y.keys
      · exfalso
        revert hc0
        unfold commitErr
        rw [decide_eq_true hz, if_pos rfl]
        intro z; cases z
      · omega
    have hstill := h.keys.still e5.1 e5.2 hstale
    have hlen : ((keptOf Y.all).length : Int) < Y.room := by unfold fullOf at hfull; simp at hfull; exact hfull
    have hrev : X.rev + 1 = (Y.all.length : Int) + 1 := by rw [h.rev]
    refine ⟨h.keys, h.live, h.ep, h.write, h.turn, h.room, h.rooms, ?_, h.floor, h.floor0, q.up.draws, q.len, q.srv, ?_, ?_, ?_, ?_, ?_, ?_, h.pods⟩
    · show X.rev + 1 = ((Y.all ++ [_]).length : Int)
      rw [h.rev, List.length_append]; rfl
    · show X.entries ++ [{ p.e with rev := X.rev + 1 }] = keptOf (Y.all ++ [⟨{ u.e with rev := (Y.all.length : Int) + 1 }, false⟩])
      rw [keptOf_snoc, h.ent, e3, hrev]
      rfl
    · show ((X.entries ++ [{ p.e with rev := X.rev + 1 }]).length : Int) ≤ Y.room
      rw [h.ent, List.length_append]
      show (((keptOf Y.all).length + 1 : Nat) : Int) ≤ Y.room
      omega
    · show Revs (Y.all ++ [⟨{ u.e with rev := (Y.all.length : Int) + 1 }, false⟩])
      exact revs_snoc h.revs _ rfl
    · show ∀ k ∈ Y.all ++ [⟨{ u.e with rev := (Y.all.length : Int) + 1 }, false⟩], k.e.gone = false → EntOk k.e ∧ ∃ j K, k.e.key = ((j : Nat) : Int) + 1 ∧ Y.keys[j]? = some K ∧ (k.out = false → K.gone = false)
      intro k hk hg
      rcases List.mem_append.1 hk with hk | hk
      · exact h.eok k hk hg
      · obtain rfl := List.mem_singleton.1 hk
        obtain ⟨o1, o2⟩ := e7 hg
        exact ⟨⟨o1.path, o1.draw, o1.sealed⟩, j, K, by show u.e.key = _; rw [o2, hstill, w1], w3, fun _ => w6⟩
    · show (Y.all ++ [_]).length ≤ n + 1
      rw [List.length_append]
      show Y.all.length + 1 ≤ n + 1
      omega
    · intro ht k hk ho hg
      replace hk : k ∈ Y.all ++ [⟨{ u.e with rev := (Y.all.length : Int) + 1 }, false⟩] := hk
      rcases List.mem_append.1 hk with hk | hk
      · exact h.gated ht k hk ho hg
      · obtain rfl := List.mem_singleton.1 hk
        exact ((e7 hg).2).trans hstill
  · rw [if_neg hc, if_neg hc]
    exact q.up
theorem rel_compact (h : Rel2 n X Y) (r : Nat) : Rel2 (n + 1) (X.compact (r : Int)) (Y.compact r) := by
  have hA := h.all
  have hl : (allTo Y.all (outAt Y.all r) r).length = Y.all.length := by unfold allTo; simp
  refine ⟨h.keys, h.live, h.ep, h.write, h.turn, h.room, h.rooms, ?_, rfl, ?_, h.up.draws, h.len, h.srv, compact_of h.ent h.revs r, ?_, ?_, ?_, ?_, ?_, h.pods⟩
  · show X.rev = ((allTo Y.all (outAt Y.all r) r).length : Int)
    rw [hl]; exact h.rev
  · show (0 : Int) ≤ (r : Int)
    omega
  · show ((X.entries.filter (fun e => outl X e (r : Int))).length : Int) ≤ Y.room
    have := List.length_filter_le (fun e => outl X e (r : Int)) X.entries
    have := h.few
    omega
  · intro j k hk
    obtain ⟨k0, hk0, e0⟩ := allTo_get hk
    rw [e0]
    exact h.revs j k0 hk0
  · intro k hk hg
    obtain ⟨j, hj⟩ := List.getElem?_of_mem hk
    obtain ⟨k0, hk0, e0, o0⟩ := allTo_get2 hj
    rw [e0] at hg ⊢
    obtain ⟨a1, jj, K, a2, a3, a4⟩ := h.eok k0 (List.mem_of_getElem? hk0) hg
    exact ⟨a1, jj, K, a2, a3, fun hko => a4 (o0 hko)⟩
  · show (allTo Y.all (outAt Y.all r) r).length ≤ n + 1
    omega
  · intro ht k hk ho hg
    obtain ⟨j, hj⟩ := List.getElem?_of_mem hk
    obtain ⟨k0, hk0, e0, o0⟩ := allTo_get2 hj
    rw [e0] at hg ⊢
    exact h.gated ht k0 (List.mem_of_getElem? hk0) (o0 ho) hg
end Go.Proofs.YtphapknfkbgapaaDoor
namespace Go.Proofs.YtphapknfkbgapaaDoor
open Go.RowKit

variable {N : ByteArray → Prop} {X : PS} {D : PD} {n S : Nat} {R : Int}

/-- The player's knowledge of the program's coffer: there is a coffer of the document's that is alike, and of which it holds. -/
def Kn (N : ByteArray → Prop) (n : Nat) (X : PS) (D : PD) (S : Nat) (R : Int) : Prop := ∃ Y : RS, Rel2 n X Y ∧ Know N Y D ∧ Y.seen.length = S ∧ Y.room = R
theorem Kn.up (h : Kn N n X D S R) : Kn N (n + 1) X D S R := by
  obtain ⟨Y, h, k, s, r⟩ := h
  exact ⟨Y, h.up, k, s, r⟩
theorem Kn.mono {m : Nat} (h : Kn N n X D S R) (hm : n ≤ m) : Kn N m X D S R := by
  obtain ⟨Y, h, k, s, r⟩ := h
  exact ⟨Y, h.mono hm, k, s, r⟩
theorem Rel2.srvAt {Y : RS} (h : Rel2 n X Y) {i : Nat} (hi : i < Y.seen.length) : ∃ (p : PSrv) (sn : Int) (u : RUnd), X.servers[i]? = some p ∧ At Y i sn u ∧ Same2 Y.keys Y.epoch p sn u := by
  obtain ⟨p, hp⟩ : ∃ p, X.servers[i]? = some p := ⟨_, List.getElem?_eq_getElem (by rw [h.len.1]; exact hi)⟩
  obtain ⟨sn, u, h1, h2, h3⟩ := h.srv _ _ hp
  exact ⟨p, sn, u, hp, ⟨h1, h2⟩, h3⟩
theorem kn_refresh (h : Kn N n X D S R) {s : Nat} (hs : s < S) : ∃ X', PUni 43 [.int .i64 (s : Int)] X (.int .i64 0) X' ∧ Kn N (n + 1) X' D S R := by
  obtain ⟨Y, h, k, rfl, r⟩ := h
  obtain ⟨p, sn, u, hp, ha, hS⟩ := h.srvAt hs
  refine ⟨X.refresh s p, p_kept (fun w F b hX _ _ => pRefresh_yes w s p hX hp), Y.refresh (s : Int), rel_refresh h hp ha hS hs, know_refresh k h (s : Int), ?_, r⟩
  show (Y.seen.set _ _).length = _
  simp
theorem kn_crash (h : Kn N n X D S R) {s : Nat} (hs : s < S) : ∃ X', PUni 42 [.int .i64 (s : Int)] X (.int .i64 0) X' ∧ Kn N (n + 1) X' { D with ops := D.ops.set s Und2.zero } S R := by
  obtain ⟨Y, h, k, rfl, r⟩ := h
  obtain ⟨p, sn, u, hp, ha, hS⟩ := h.srvAt hs
  refine ⟨X.crash s, p_kept (fun w F b hX _ _ => pCrash_yes w s p hX hp), Y.crash (s : Int), rel_crash h hs, know_crash k s, ?_, r⟩
  show (Y.seen.set _ _).length = _
  simp
/-- What servers have seen stays. -/
def SeenKept (X X' : PS) : Prop := ∀ (t : Nat) (p : PSrv), X.servers[t]? = some p → ∃ p', X'.servers[t]? = some p' ∧ p'.seen = p.seen
theorem SeenKept.refl (X : PS) : SeenKept X X := fun _ p h => ⟨p, h, rfl⟩
theorem seenKept_set {X X' : PS} {s : Nat} {p q : PSrv} (hp : X.servers[s]? = some p) (hX : X'.servers = X.servers.set s q) (hq : q.seen = p.seen) : SeenKept X X' := fun t p0 h => by
  rw [hX]
  by_cases e : s = t
  · subst e
    obtain rfl := Option.some.inj (hp.symm.trans h)
    exact ⟨q, List.getElem?_set_self (List.getElem?_eq_some_iff.1 h).1, hq⟩
  · exact ⟨p0, by rw [List.getElem?_set_ne e]; exact h, rfl⟩
/-- Server s has seen all, and has nothing under way. -/
def FreshAt (X : PS) (s : Nat) : Prop := ∃ p, X.servers[s]? = some p ∧ p.busy = false ∧ p.seen = X.epoch
theorem kn_begin (h : Kn N n X D S R) (hn : n ≤ 50000000) {s : Nat} (hs : s < S) (o : AOp) (d : Dd) (hp : o.path.size ≤ maxLen) (hq : o.plain.size ≤ maxLen) (ho : properOf o = true) (hpath : o.path = d.path) (hN : N d.path) (hd1 : (o.kind == 1) = true → d.gone = false ∧ d.text = o.plain) (hd2 : (o.kind == 1) = false → d.gone = true ∧ d.text = ⟨#[]⟩) :
    ∃ (e : Int) (X' : PS), PUni 49 [.int .i64 (s : Int), .agg #[.int .i64 o.kind, .string o.path, .string o.plain, .int .i64 o.rev]] X (.int .i64 e) X' ∧ SeenKept X X' ∧ (FreshAt X s → e = 0 ∧ ∃ p', X'.servers[s]? = some p' ∧ p'.busy = true ∧ p'.epoch = X'.epoch ∧ p'.rev = o.rev ∧ p'.e.gone = d.gone) ∧
      ∃ v, D.ops[s]? = some v ∧ ((e = 0 ∧ v.on = false ∧ Kn N (n + 1) X' { D with ops := D.ops.set s ⟨true, d⟩ } S R) ∨ ((e = 6 ∨ e = 14 ∨ (e = 5 ∧ v.on = true)) ∧ Kn N (n + 1) X' D S R)) := by
  obtain ⟨Y, h, k, rfl, r⟩ := h
  obtain ⟨p, sn, u, hpp, ha, hS⟩ := h.srvAt hs
  obtain ⟨v, hv, hvo, _⟩ := k.ops s u ha.op
  have hol : s < D.ops.length := (List.getElem?_eq_some_iff.1 hv).1
  obtain ⟨o1, o2, o3, o4⟩ := proper_parts ho
  have same : Kn N (n + 1) X D Y.seen.length R := ⟨Y, h.up, k, rfl, r⟩
  cases hbz : p.busy
  · have hu : u.on = false := by rw [← hS.busy]; exact hbz
    cases hzn : (sn == 0)
    · have hz : (p.seen == 0) = false := by rw [hS.seen]; exact hzn
      have h1n : 1 ≤ sn := by have := hS.sn.1; have : sn ≠ 0 := by simpa using hzn
                              omega
      cases hk : (o.kind == 1)
      · obtain ⟨g1, g2⟩ := hd2 hk
        have q := (h.put hs ⟨p.seen, true, p.seen, o.rev, delEnt o.path⟩ sn ⟨true, delEnt o.path, sn, o.rev⟩ ⟨hS.seen, hS.sn, rfl, fun _ => ⟨hS.seen, rfl, rfl, o2, ⟨h1n, hS.sn.2⟩, o1, fun e => by cases e⟩⟩).up
        rw [set_same ha.seen] at q
        have kk := know_setOp k s ⟨true, delEnt o.path, sn, o.rev⟩ ⟨true, d⟩ Y.draws hol (Int.le_refl _) rfl (fun _ => ⟨⟨hpath, g1.symm, by rw [g2]; exact Nat.zero_le _, fun e => by cases e⟩, hN⟩) (fun _ e => by cases e)
        refine ⟨0, _, p_kept (fun w F b hX _ _ => pBegin_del w s p o hX hpp hbz hz hp hq ho (o4 hk)), seenKept_set hpp rfl rfl, fun hf => ⟨rfl, ⟨p.seen, true, p.seen, o.rev, delEnt o.path⟩, List.getElem?_set_self (List.getElem?_eq_some_iff.1 hpp).1, rfl, ?_, rfl, g1.symm⟩, v, hv, Or.inl ⟨rfl, by rw [hvo, hu], _, q, kk, rfl, r⟩⟩
        obtain ⟨p2, f1, _, f3⟩ := hf
        obtain rfl := Option.some.inj (f1.symm.trans hpp)
        exact f3
      · obtain ⟨g1, g2⟩ := hd1 hk
        obtain ⟨j, pk, K, q0, q1, q2, q3, q4, _, _⟩ := h.keys.writing h1n
        have hw : writerOf X.keys p.seen = (j : Int) + 1 := by rw [hS.seen, h.keys.writer h1n, q0]
        have hl6 : X.keys.length ≤ 6 := by rw [h.keys.len]; exact h.keys.few.2
        cases hg : K.gone
        · obtain ⟨d0, d1, d2⟩ := h.draws
          have ht := q3.text hg
          have h2 : Rel2 (n + 1) { X with draws := X.draws + 1 } { Y with draws := Y.draws + 1 } := ⟨h.keys, h.live, h.ep, h.write, h.turn, h.room, h.rooms, h.rev, h.floor, h.floor0, ⟨by show X.draws + 1 = Y.draws + 1; rw [d0], by show 0 ≤ Y.draws + 1; omega, by show Y.draws + 1 ≤ ((n + 1 : Nat) : Int); omega⟩, h.len, h.srv, h.ent, h.few, h.revs, h.eok, h.up.all, h.gated, h.pods⟩
          have hsz := sealOf_size K.text (nonceTo (Y.draws + 1) 12) o.path o.plain
          have hpl := o3 hk
          have hok : EntOk (closedOf K.text ((j : Int) + 1) o.path o.plain (Y.draws + 1)) := ⟨o1, ⟨by show 0 ≤ Y.draws + 1; omega, by show Y.draws + 1 ≤ _; omega⟩, ⟨by show 8 ≤ (sealOf K.text (nonceTo (Y.draws + 1) 12) o.path o.plain).size; omega, by show (sealOf K.text (nonceTo (Y.draws + 1) 12) o.path o.plain).size ≤ _; omega⟩⟩
          have q := h2.put hs ⟨p.seen, true, p.seen, o.rev, closedOf pk.text ((j : Int) + 1) o.path o.plain (X.draws + 1)⟩ sn ⟨true, closedOf K.text ((j : Int) + 1) o.path o.plain (Y.draws + 1), sn, o.rev⟩ ⟨hS.seen, hS.sn, rfl, fun _ => ⟨hS.seen, rfl, by rw [d0, ht], o2, ⟨h1n, hS.sn.2⟩, o1, fun _ => ⟨hok, q0.symm⟩⟩⟩
          replace q : Rel2 (n + 1) _ { Y with draws := Y.draws + 1, seen := Y.seen.set s sn, ops := Y.ops.set s ⟨true, closedOf K.text ((j : Int) + 1) o.path o.plain (Y.draws + 1), sn, o.rev⟩ } := q
          rw [set_same ha.seen] at q
          have kk := know_setOp k s ⟨true, closedOf K.text ((j : Int) + 1) o.path o.plain (Y.draws + 1), sn, o.rev⟩ ⟨true, d⟩ (Y.draws + 1) hol (by omega) rfl (fun _ => ⟨⟨hpath, g1.symm, by rw [g2]; exact hpl, fun _ => ⟨by show 1 ≤ Y.draws + 1; omega, j, K, rfl, q2, by omega, by rw [g2]; rfl⟩⟩, hN⟩) (fun _ _ => ⟨by show Y.draws < Y.draws + 1; omega, by show 1 ≤ Y.draws + 1; omega, Int.le_refl _⟩)
          refine ⟨0, _, p_kept (fun w F b hX hF h1 => pBegin_put w s p o pk j hX hpp hbz hz hp hq ho hk hw q1 hl6 (by rw [ht]; exact q3.size) ⟨by omega, by omega⟩ hF h1), seenKept_set hpp rfl rfl, fun hf => ⟨rfl, ⟨p.seen, true, p.seen, o.rev, closedOf pk.text ((j : Int) + 1) o.path o.plain (X.draws + 1)⟩, List.getElem?_set_self (List.getElem?_eq_some_iff.1 hpp).1, rfl, ?_, rfl, g1.symm⟩, v, hv, Or.inl ⟨rfl, by rw [hvo, hu], _, q, kk, rfl, r⟩⟩
          obtain ⟨p2, f1, _, f3⟩ := hf
          obtain rfl := Option.some.inj (f1.symm.trans hpp)
          exact f3
        · refine ⟨14, X, p_low (fun w F b hX _ _ => pBegin_gone w s p o pk j hX hpp hbz hz hp hq ho hk hw q1 hl6 (q3.dead hg)), SeenKept.refl X, fun hf => ?_, v, hv, Or.inr ⟨Or.inr (Or.inl rfl), same⟩⟩
          exfalso
          obtain ⟨p2, f1, _, f3⟩ := hf
          obtain rfl := Option.some.inj (f1.symm.trans hpp)
          rw [hS.seen, h.ep.1] at f3
          rw [f3] at q0
          rw [h.live j K q0 q2] at hg
          cases hg
    · have hz : (p.seen == 0) = true := by rw [hS.seen]; exact hzn
      refine ⟨6, X, p_low (fun w F b hX _ _ => pBegin_blind w s p o hX hpp hbz hz), SeenKept.refl X, fun hf => ?_, v, hv, Or.inr ⟨Or.inl rfl, same⟩⟩
      exfalso
      obtain ⟨p2, f1, _, f3⟩ := hf
      obtain rfl := Option.some.inj (f1.symm.trans hpp)
      have : p2.seen = 0 := by simpa using hz
      have := h.ep
      omega
  · have hu : u.on = true := by rw [← hS.busy]; exact hbz
    refine ⟨5, X, p_low (fun w F b hX _ _ => pBegin_busy w s p o hX hpp hbz), SeenKept.refl X, fun hf => ?_, v, hv, Or.inr ⟨Or.inr (Or.inr ⟨rfl, by rw [hvo, hu]⟩), same⟩⟩
    obtain ⟨p2, f1, f2, _⟩ := hf
    obtain rfl := Option.some.inj (f1.symm.trans hpp)
    rw [hbz] at f2
    cases f2
theorem know_off {Y : RS} (k : Know N Y D) {s : Nat} {u : RUnd} (hu : Y.ops[s]? = some u) (ho : u.on = false) : Know N Y { D with ops := D.ops.set s Und2.zero } := by
  refine ⟨k.all, k.out, k.floor, k.floor1, k.names, k.keys, k.dest, by simp [k.opl], fun t v hv => ?_, k.draws, k.came, k.told, k.pods, k.left⟩
  obtain ⟨x, a, b, c⟩ := k.ops t v hv
  by_cases e : s = t
  · subst e
    obtain rfl := Option.some.inj (hu.symm.trans hv)
    exact ⟨Und2.zero, List.getElem?_set_self (List.getElem?_eq_some_iff.1 a).1, ho.symm, fun q => by rw [ho] at q; cases q⟩
  · exact ⟨x, by show (D.ops.set s _)[t]? = _; rw [List.getElem?_set_ne e]; exact a, b, c⟩
theorem commitErr_cases (Y : RS) (u : RUnd) : commitErr Y u = 0 ∨ commitErr Y u = 9 ∨ commitErr Y u = 10 ∨ commitErr Y u = 12 ∨ commitErr Y u = 11 := by
  unfold commitErr
  split
  · exact Or.inr (Or.inl rfl)
  · split
    · exact Or.inr (Or.inr (Or.inl rfl))
    · split
      · exact Or.inr (Or.inr (Or.inr (Or.inl rfl)))
      · split
        · exact Or.inr (Or.inr (Or.inr (Or.inr rfl)))
        · exact Or.inl rfl
theorem kn_commit (h : Kn N n X D S R) (hn : n ≤ 50000000) {s : Nat} (hs : s < S) :
    ∃ (m e : Int) (X' : PS), PUni 50 [.int .i64 (s : Int)] X (.tuple #[.int .i64 m, .int .i64 e]) X' ∧ SeenKept X X' ∧ ((∃ p, X.servers[s]? = some p ∧ p.busy = true ∧ p.epoch = X.epoch ∧ p.rev = -1 ∧ p.e.gone = false ∧ (X.entries.length : Int) < X.room) → e = 0) ∧
      ∃ v, D.ops[s]? = some v ∧ ((v.on = false ∧ m = 0 ∧ e = 8 ∧ Kn N (n + 1) X' { D with ops := D.ops.set s Und2.zero } S R) ∨ (v.on = true ∧ m = (D.deeds.length : Int) + 1 ∧ e = 0 ∧ Kn N (n + 1) X' { D with ops := D.ops.set s Und2.zero, deeds := D.deeds ++ [v.deed] } S R) ∨ (v.on = true ∧ m = 0 ∧ (e = 9 ∨ e = 10 ∨ e = 12 ∨ e = 11) ∧ Kn N (n + 1) X' { D with ops := D.ops.set s Und2.zero } S R)) := by
  obtain ⟨Y, h, k, rfl, r⟩ := h
  obtain ⟨p, sn, u, hp, ha, hS⟩ := h.srvAt hs
  obtain ⟨v, hv, hvo, hva⟩ := k.ops s u ha.op
  cases hbz : p.busy
  · have hu : u.on = false := by rw [← hS.busy]; exact hbz
    refine ⟨0, 8, X, p_same (fun w F b hX => pCommit_idle w s p hX hp hbz), SeenKept.refl X, fun hf => ?_, v, hv, Or.inl ⟨by rw [hvo, hu], rfl, rfl, Y, h.up, know_off k ha.op hu, rfl, r⟩⟩
    obtain ⟨p2, f1, f2, _⟩ := hf
    obtain rfl := Option.some.inj (f1.symm.trans hp)
    rw [hbz] at f2
    cases f2
  · have hu : u.on = true := by rw [← hS.busy]; exact hbz
    have hA := h.all
    obtain ⟨j, pk, K, w0, w1, w2, w3, w4, w5, w6, w7, w8⟩ := h.writer
    have hE := commit_same2 h w4 w7 w8 hS hbz
    have hR := rel_commit h ha hS hs hbz w1 w3 w4 w6 w7 w8
    have hx1 := fun (w : World) (F : Nat → Prop) (b : Nat) (hX : XIn w F b X) => pCommit_any w s p pk j hX hp hbz w0 w2 (by rw [h.keys.len]; exact h.keys.few.2) (by have := h.few; have := h.rooms; omega) (by rw [h.rev]; omega)
    have eRev : X.commitRev pk.wrote p = Y.commitRev u := by unfold PS.commitRev RS.commitRev; rw [hE, h.rev]
    obtain ⟨e1, e2, e3, e4, e5, e6, e7⟩ := hS.op hbz
    refine ⟨Y.commitRev u, commitErr Y u, X.commit pk.wrote s p, p_grow (fun w F b hX => by
      have := hx1 w F b hX
      rw [eRev, hE] at this
      exact this), seenKept_set (q := p.rest) hp (by unfold PS.commit; split <;> rfl) rfl, fun hf => ?_, v, hv, Or.inr ?_⟩
    · obtain ⟨p2, f1, f2, f3, f4, f5, f6⟩ := hf
      obtain rfl := Option.some.inj (f1.symm.trans hp)
      have hwr := h.keys.wr j K w3
      have c1 : decide (u.epoch < promOf Y.keys) = false := by
        rw [← e1, f3, h.ep.1, w7]
        have := h.ep.2.1
        simp
        split <;> omega
      have c2 : conflictOf (lastOf Y.all u.e.path) u.want = false := by
        rw [← e2, f4]
        rfl
      have c3 : u.e.gone = false := by rw [← e3]; exact f5
      have c4 : fullOf Y = false := by
        unfold fullOf
        rw [← h.ent, ← h.room]
        simp
        omega
      unfold commitErr
      rw [c1, c2, c3, c4]
      rfl
    · have hseen : (Y.commit s u).seen.length = Y.seen.length := by unfold RS.commit; split <;> rfl
      have hroom : (Y.commit s u).room = R := by rw [← r]; unfold RS.commit; split <;> rfl
      rcases commitErr_cases Y u with c | c
      · refine Or.inl ⟨by rw [hvo, hu], ?_, c, Y.commit s u, hR, know_commit k ha.op hv hu c, hseen, hroom⟩
        unfold RS.commitRev
        rw [c, k.deeds]
        rfl
      · have hne : (commitErr Y u == 0) = false := by
          rw [beq_eq_false_iff_ne]
          rcases c with c | c | c | c <;> rw [c] <;> decide
        refine Or.inr ⟨by rw [hvo, hu], ?_, c, Y.commit s u, hR, ?_, hseen, hroom⟩
        · unfold RS.commitRev
          rw [hne]
          rfl
        · have q := know_end k s
          unfold RS.commit
          rw [hne]
          exact q
end Go.Proofs.YtphapknfkbgapaaDoor
namespace Go.Proofs.YtphapknfkbgapaaDoor
open Go.RowKit

variable {N : ByteArray → Prop} {X : PS} {D : PD} {n S : Nat} {R : Int}

def blindV : Value := .tuple #[.string ⟨#[]⟩, .int .i64 0, .int .i64 6]
theorem kn_get (h : Kn N n X D S R) {s : Nat} (hs : s < S) (name : ByteArray) {r : Nat} {d : Dd} (hN : NewD D.deeds name r d) :
    ∃ bl : Bool, PUni 46 [.int .i64 (s : Int), .string name] X (if bl then blindV else tellV r d) X ∧ (bl = true → ∃ p, X.servers[s]? = some p ∧ p.seen = 0) := by
  obtain ⟨Y, h, k, rfl, r0⟩ := h
  obtain ⟨p, sn, u, hp, ha, hS⟩ := h.srvAt hs
  exact ⟨sn == 0, get_tells h k hp ha hS name hN, fun q => ⟨p, hp, by rw [hS.seen]; simpa using q⟩⟩
theorem kn_getAt (h : Kn N n X D S R) {s : Nat} (hs : s < S) (name : ByteArray) (rev : Nat) {r : Nat} {d : Dd} (hN : NewD (D.deeds.take rev) name r d) :
    ∃ bl : Bool, PUni 99 [.int .i64 (s : Int), .string name, .int .i64 (rev : Int)] X (if bl then blindV else if decide ((rev : Int) < D.floor) || decide ((D.deeds.length : Int) < (rev : Int)) then .tuple #[.string ⟨#[]⟩, .int .i64 0, .int .i64 15] else tellV r d) X := by
  obtain ⟨Y, h, k, rfl, r0⟩ := h
  obtain ⟨p, sn, u, hp, ha, hS⟩ := h.srvAt hs
  exact ⟨sn == 0, getAt_tells h k hp ha hS name rev hN⟩
theorem kn_compact (h : Kn N n X D S R) (r : Nat) :
    (D.floor < (r : Int) ∧ r ≤ D.deeds.length → PUni 47 [.int .i64 (r : Int)] X (.int .i64 0) (X.compact (r : Int)) ∧ Kn N (n + 1) (X.compact (r : Int)) { D with floor := (r : Int) } S R) ∧
    (¬ (D.floor < (r : Int) ∧ r ≤ D.deeds.length) → PUni 47 [.int .i64 (r : Int)] X (.int .i64 15) X) := by
  obtain ⟨Y, h, k, rfl, r0⟩ := h
  have hent : X.entries.length ≤ 1000 := by have := h.few; have := h.rooms; omega
  constructor
  · rintro ⟨c1, c2⟩
    rw [k.floor] at c1
    rw [k.deeds] at c2
    have hb : pBadCut X (r : Int) = false := by
      unfold pBadCut
      rw [h.floor, h.rev, Bool.or_eq_false_iff]
      exact ⟨by rw [decide_eq_false_iff_not]; omega, by rw [decide_eq_false_iff_not]; omega⟩
    exact ⟨p_grow (fun w F b hX => pCompact_yes w r hX hb hent), Y.compact r, rel_compact h r, know_compact k h r c1 c2, rfl, r0⟩
  · intro hc
    have hb : pBadCut X (r : Int) = true := by
      unfold pBadCut
      rw [h.floor, h.rev, Bool.or_eq_true]
      by_cases c1 : Y.floor < (r : Int)
      · right
        rw [decide_eq_true_eq]
        by_cases c2 : r ≤ D.deeds.length
        · exact absurd ⟨by rw [k.floor]; exact c1, c2⟩ hc
        · rw [k.deeds] at c2
          omega
      · left
        rw [decide_eq_true_eq]
        omega
    exact p_same (fun w F b hX => pCompact_no w r hX hb)
theorem Kn.keys (h : Kn N n X D S R) : X.keys.length = D.keys.length ∧ 1 ≤ X.keys.length ∧ X.keys.length ≤ 6 := by
  obtain ⟨Y, h, k, _, _⟩ := h
  have := h.keys.few
  rw [k.keys, List.length_map, h.keys.len]
  exact ⟨rfl, this.1, this.2⟩
theorem kn_stage (h : Kn N n X D S R) (t : ByteArray) (ht : t.size = 48) :
    (X.keys.length = 6 → PUni 53 [.string t] X (.tuple #[.int .i64 0, .int .i64 16]) X) ∧
    (X.keys.length < 6 → X.turn ≠ 0 → PUni 53 [.string t] X (.tuple #[.int .i64 0, .int .i64 17]) X) ∧
    (X.keys.length < 6 → X.turn = 0 → PUni 53 [.string t] X (.tuple #[.int .i64 ((D.keys.length : Int) + 1), .int .i64 0]) (X.stage t) ∧ Kn N (n + 1) (X.stage t) { D with keys := D.keys ++ [t] } S R) := by
  have hkl := h.keys
  obtain ⟨Y, h, k, rfl, r0⟩ := h
  have hP := pstage_holds h t
  refine ⟨hP.many ht, hP.turn ht, fun h1 h2 => ⟨?_, Y.stage t, rel_stage h t ht (by rw [← h.keys.len]; exact h1) (by rw [← h.turn]; exact h2), know_stage k t h.left1, rfl, r0⟩⟩
  have := hP.yes ht h1 h2
  rw [hkl.1] at this
  exact this
theorem kn_promote (h : Kn N n X D S R) :
    (X.turn ≠ 1 → PUni 55 [] X (.int .i64 17) X) ∧
    (X.turn = 1 → (∃ (i : Nat) (s : PSrv), X.servers[i]? = some s ∧ s.seen ≠ X.epoch) → PUni 55 [] X (.int .i64 18) X) ∧
    (X.turn = 1 → (∀ (i : Nat) (s : PSrv), X.servers[i]? = some s → s.seen = X.epoch) → ∃ (m : Nat) (P : PKey), X.keys.length = m + 1 ∧ X.keys[m]? = some P ∧ PUni 55 [] X (.int .i64 0) (X.promote m P) ∧ Kn N (n + 1) (X.promote m P) D S R) := by
  have hkl := h.keys
  obtain ⟨Y, h, k, rfl, r0⟩ := h
  have hP := ppromote_holds h
  refine ⟨hP.turn, hP.wait, fun h1 h2 => ?_⟩
  obtain ⟨m, hm⟩ : ∃ m, X.keys.length = m + 1 := ⟨X.keys.length - 1, by omega⟩
  have hmy : Y.keys.length = m + 1 := by rw [← h.keys.len]; exact hm
  obtain ⟨P, hPk⟩ : ∃ P, X.keys[m]? = some P := ⟨_, List.getElem?_eq_getElem (by omega)⟩
  obtain ⟨K, hK⟩ : ∃ K, Y.keys[m]? = some K := ⟨_, List.getElem?_eq_getElem (by omega)⟩
  have ha : allSeen Y = true := by
    unfold allSeen
    rw [List.all_eq_true]
    intro x hx
    obtain ⟨i, hi⟩ := List.getElem?_of_mem hx
    have hil := (List.getElem?_eq_some_iff.1 hi).1
    obtain ⟨p, sn, u, hp, hat, hS⟩ := h.srvAt hil
    obtain rfl := Option.some.inj (hi.symm.trans hat.seen)
    have := h2 i p hp
    rw [hS.seen, h.ep.1] at this
    simpa using this
  exact ⟨m, P, hm, hPk, hP.yes h1 h2 m P hm hPk, Y.promote m K, rel_promote h (by rw [← h.turn]; exact h1) hmy hPk hK, know_promote k h m K hK ha (by rw [← h.turn, h1]; decide), rfl, r0⟩
theorem kn_gate (h : Kn N n X D S R) :
    (pGoing X = false → PUni 57 [] X (.int .i64 17) X) ∧ (pGoing X = true → pUsed X = true → PUni 57 [] X (.int .i64 19) X) ∧
    (pGoing X = true → pUsed X = false → PUni 57 [] X (.int .i64 0) (X.setTurn 3) ∧ Kn N (n + 1) (X.setTurn 3) D S R) := by
  obtain ⟨Y, h, k, rfl, r0⟩ := h
  have hP := pgate_holds h
  have hg : pGoing X = goingOf Y := by unfold pGoing goingOf; rw [h.turn]
  have hu : pUsed X = usedOf Y := by unfold pUsed usedOf; rw [h.ent, h.write]
  exact ⟨hP.turn, hP.used, fun h1 h2 => ⟨hP.yes h1 h2, { Y with turn := 3 }, rel_gate h (hg.symm.trans h1) (hu.symm.trans h2), know_turn k 3 (fun _ => ⟨(k.left (by have q := hg.symm.trans h1; unfold goingOf at q; intro e; rw [e] at q; cases q)).1, Or.inr (Or.inr rfl)⟩), rfl, r0⟩⟩
theorem destOf_at {ks : List RKey} {j : Nat} {K : RKey} (hK : ks[j]? = some K) (hj : j < 6) : (destOf ks)[j + 1]? = some K.gone := by
  unfold destOf
  rw [List.getElem?_cons_succ, List.getElem?_map, List.getElem?_range hj]
  show some (goneAt ks j) = _
  unfold goneAt
  rw [hK]
  rfl
theorem kn_destroy (h : Kn N n X D S R) (k : Nat) :
    (k = 0 ∨ X.keys.length < k → PUni 28 [.int .i64 (k : Int)] X (.int .i64 12) X) ∧
    (∀ (j : Nat) (P : PKey), k = j + 1 → X.keys[j]? = some P →
      (D.dest[k]? = some (keyGone P)) ∧
      (keyGone P = true → PUni 28 [.int .i64 (k : Int)] X (.int .i64 14) X) ∧
      (keyGone P = false → ((k : Int) = X.write ∨ X.turn ≠ 3) → PUni 28 [.int .i64 (k : Int)] X (.int .i64 20) X) ∧
      (keyGone P = false → (k : Int) ≠ X.write → X.turn = 3 → ∃ t, t = (if pLeft (X.keys.set j { P with text := ⟨#[]⟩ }) == 1 then 0 else X.turn) ∧ PUni 28 [.int .i64 (k : Int)] X (.int .i64 0) (X.destroy j P t) ∧ Kn N (n + 1) (X.destroy j P t) { D with dest := D.dest.set k true } S R)) := by
  have hkl := h.keys
  obtain ⟨Y, h, kn, rfl, r0⟩ := h
  have hP := pdestroy_holds h (k : Int)
  refine ⟨fun hk => hP.none (by rcases hk with q | q; left; omega; right; omega), fun j P hk hPk => ?_⟩
  subst hk
  have hjl : j < X.keys.length := (List.getElem?_eq_some_iff.1 hPk).1
  obtain ⟨K, hK⟩ : ∃ K, Y.keys[j]? = some K := ⟨_, List.getElem?_eq_getElem (by rw [← h.keys.len]; exact hjl)⟩
  have hks := h.keys.same j P K hPk hK
  have e : (((j + 1 : Nat) : Int)) = (j : Int) + 1 := by omega
  refine ⟨by rw [kn.dest, destOf_at hK (by omega), hks.alive], hP.gone j P e hPk, hP.gate j P e hPk, fun hg hw ht => ⟨_, rfl, hP.yes j P e hPk hg hw ht, Y.destroy j K, ?_, know_destroy kn j K hK (by omega) ?_, rfl, r0⟩⟩
  have hb : badGate Y ((j : Int) + 1) = false := by
    unfold badGate
    rw [← h.write, ← h.turn, ht, ← e]
    rw [Bool.or_eq_false_iff]
    exact ⟨by rw [beq_eq_false_iff_ne]; exact hw, rfl⟩
  have e2 : (if pLeft (X.keys.set j { P with text := ⟨#[]⟩ }) == 1 then (0 : Int) else X.turn) = (Y.destroy j K).turn := by
    show _ = (if leftOf (Y.keys.set j { K with gone := true }) == 1 then (0 : Int) else Y.turn)
    rw [h.turn, left_same (X.keys.set j { P with text := ⟨#[]⟩ }) (Y.keys.set j { K with gone := true }) (by simp [h.keys.len]) (fun i p k hp hk => ?_)]
    rcases set_at hp with ⟨hi, hp⟩ | ⟨hi, hpe⟩
    · rcases set_at hk with ⟨_, hk⟩ | ⟨hk, _⟩
      · exact (h.keys.same i p k hp hk).alive
      · exact absurd hk hi
    · rcases set_at hk with ⟨hk, _⟩ | ⟨_, hke⟩
      · exact absurd hi hk
      · rw [hpe, hke]
        exact beq_self_eq_true (⟨#[]⟩ : ByteArray).toList
  rw [e2]
  exact rel_destroy h hPk hK hb
  have hb : badGate Y ((j : Int) + 1) = false := by
    unfold badGate
    rw [← h.write, ← h.turn, ht, ← e]
    rw [Bool.or_eq_false_iff]
    exact ⟨by rw [beq_eq_false_iff_ne]; exact hw, rfl⟩
  exact (rel_destroy h hPk hK hb).left1
/-! Migrate. -/
/-- What was moved, one after the other: each is the newest of its path. -/
def MoveLaw : List Dd → List Ent → List Dd → Prop
  | _, [], [] => True
  | ds, e :: es, d :: r => e.gone = false ∧ e.rev = (ds.length : Int) + 1 ∧ (∃ m, NewD ds e.path m d ∧ m ≠ 0) ∧ d.gone = false ∧ MoveLaw (ds ++ [d]) es r
  | _, _, _ => False
theorem kn_moves (t : Nat) : ∀ (n : Nat) (X : PS) (Y : RS) (D : PD), Rel2 n X Y → Know N Y D → n + t ≤ 50000000 → ∀ (j : Nat) (K : RKey), writesOf Y.keys Y.epoch = (j : Int) + 1 → Y.keys[j]? = some K →
    ∃ (Y' : RS) (ds : List Dd) (es : List Ent), Rel2 (n + t) (pMoves K.text ((j : Int) + 1) t X).1 Y' ∧ Know N Y' { D with deeds := D.deeds ++ ds } ∧ Y'.seen = Y.seen ∧ Y'.room = Y.room ∧ (pMoves K.text ((j : Int) + 1) t X).1.entries = X.entries ++ es ∧ es.length = (pMoves K.text ((j : Int) + 1) t X).2.1 ∧ ds.length = es.length ∧ MoveLaw D.deeds es ds ∧ ((pMoves K.text ((j : Int) + 1) t X).2.2 = 0 ∨ (pMoves K.text ((j : Int) + 1) t X).2.2 = 11) ∧ (pMoves K.text ((j : Int) + 1) t X).2.1 ≤ t := by
  induction t with
  | zero =>
    intro n X Y D h k _ j K _ _
    refine ⟨Y, [], [], h, ?_, rfl, rfl, by simp [pMoves], rfl, rfl, trivial, Or.inl rfl, Nat.le_refl _⟩
    rw [List.append_nil]
    exact k
  | succ t ih =>
    intro n X Y D h k hn j K hj hK
    obtain ⟨e, _⟩ := first_due h
    have stay : ∀ (er : Int), (er = 0 ∨ er = 11) → ∃ (Y' : RS) (ds : List Dd) (es : List Ent), Rel2 (n + (t + 1)) ((X, 0, er) : PS × Nat × Int).1 Y' ∧ Know N Y' { D with deeds := D.deeds ++ ds } ∧ Y'.seen = Y.seen ∧ Y'.room = Y.room ∧ ((X, 0, er) : PS × Nat × Int).1.entries = X.entries ++ es ∧ es.length = ((X, 0, er) : PS × Nat × Int).2.1 ∧ ds.length = es.length ∧ MoveLaw D.deeds es ds ∧ (((X, 0, er) : PS × Nat × Int).2.2 = 0 ∨ ((X, 0, er) : PS × Nat × Int).2.2 = 11) ∧ ((X, 0, er) : PS × Nat × Int).2.1 ≤ t + 1 := fun er he => by
      refine ⟨Y, [], [], h.mono (by omega), ?_, rfl, rfl, by simp, rfl, rfl, trivial, he, Nat.zero_le _⟩
      rw [List.append_nil]
      exact k
    cases hf : (dueOf Y).found
    · rw [pmoves_stop (by omega) (e.trans hf)]
      exact stay 0 (Or.inl rfl)
    · cases hu : fullOf Y
      · have hr := rel_move h (by omega) hj hK hf hu
        have hpm := pmove_same h K ((j : Int) + 1) hf
        obtain ⟨r, d, d1, d2, d3, d4, d5, d6, d7⟩ := due_deed h k hf
        have hk2 := know_move h k hj hK d5 d4 d3 d6 d7
        obtain ⟨Y', ds, es, a1, a2, a3, a4, a5, a6, a7, a8, a9, a10⟩ := ih (n + 1) _ _ _ hr hk2 (by omega) j K hj hK
        rw [pmoves_step (e.trans hf) ((pFull_same h).trans hu), hpm]
        refine ⟨Y', d :: ds, moveEnt Y K ((j : Int) + 1) :: es, a1.mono (by omega), ?_, a3, a4, ?_, ?_, by simp [a7], ?_, a9, ?_⟩
        · have : D.deeds ++ d :: ds = D.deeds ++ [d] ++ ds := by simp
          rw [this]
          exact a2
        · rw [a5]
          show X.entries ++ [_] ++ es = X.entries ++ _ :: es
          simp
        · show es.length + 1 = _
          rw [a6]
        · refine ⟨rfl, ?_, ⟨r, ?_, d2⟩, d3, a8⟩
          · show (Y.all.length : Int) + 1 = _
            rw [k.deeds]
          · exact d1
        · show _ + 1 ≤ _
          omega
      · rw [pmoves_full (by omega) (e.trans hf) ((pFull_same h).trans hu)]
        exact stay 11 (Or.inr rfl)
/-- What Migrate leaves. -/
def Migd (X X' : PS) (t : Nat) : Prop := ∃ (j : Nat) (P : PKey), X.write = (j : Int) + 1 ∧ X.keys[j]? = some P ∧ X' = (pMoves P.text ((j : Int) + 1) t X).1
theorem kn_migrate (h : Kn N n X D S R) (hn : n ≤ 40000000) (t : Nat) (ht : t ≤ 20) :
    (pGoing X = false → PUni 86 [.int .i64 (t : Int)] X (.tuple #[.int .i64 0, .int .i64 17]) X) ∧
    (pGoing X = true → ∃ (m : Nat) (e : Int) (X' : PS) (ds : List Dd) (es : List Ent), PUni 86 [.int .i64 (t : Int)] X (.tuple #[.int .i64 (m : Int), .int .i64 e]) X' ∧ (e = 0 ∨ e = 11) ∧ m ≤ t ∧ X'.entries = X.entries ++ es ∧ es.length = m ∧ ds.length = m ∧ MoveLaw D.deeds es ds ∧ Migd X X' t ∧ Kn N (n + 20) X' { D with deeds := D.deeds ++ ds } S R) := by
  obtain ⟨Y, h, k, rfl, r0⟩ := h
  have hb : pBadMove (t : Int) = false := by unfold pBadMove; rw [Bool.or_eq_false_iff]; constructor <;> simp <;> omega
  refine ⟨fun hg => p_same (fun w F b hX => pMigrate_turn w (t : Int) hX hb hg), fun hg => ?_⟩
  obtain ⟨j, p, K, b1, b2, b3, b4, b5, _, b7, _⟩ := h.writer
  obtain ⟨Y', ds, es, a1, a2, a3, a4, a5, a6, a7, a8, a9, a10⟩ := kn_moves t n X Y D h k (by omega) j K b2 b4
  exact ⟨_, _, _, ds, es, PUni.migrate h (by omega) t ht hg b1 b2 b3 b4 (b5.text b7) b5.size, a9, a10, a5, a6, a7.trans a6, a8, ⟨j, p, b1, b3, by rw [b5.text b7]⟩, Y', a1.mono (by omega), a2, by rw [a3], by rw [a4]; exact r0⟩
end Go.Proofs.YtphapknfkbgapaaDoor
