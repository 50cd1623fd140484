import Derived.Test.YtphapknfkbgapabDoorPRToPlA
namespace Go.Proofs.YtphapknfkbgapabDoor
open Go.RowKit

/-! What the player knows, and that every call of the document's keeps it so: plain data. -/

structure Und2 where
  on : Bool
  deed : Dd
def Und2.zero : Und2 := ⟨false, Dd.zero⟩
/-- The player's six paths. -/
def nameOf : Nat → ByteArray
  | 0 => ⟨#[97]⟩
  | 1 => ⟨#[98]⟩
  | 2 => ⟨#[97, 98]⟩
  | 3 => ⟨#[0]⟩
  | 4 => ⟨#[97, 47, 118, 101, 114, 121, 47, 108, 111, 110, 103, 47, 112, 97, 116, 104]⟩
  | _ => ⟨#[255, 47]⟩
def IsName (p : ByteArray) : Prop := ∃ k, k < 6 ∧ p = nameOf k
theorem isName_size {p : ByteArray} (h : IsName p) : 1 ≤ p.size ∧ p.size ≤ 16 := by
  obtain ⟨k, hk, rfl⟩ := h
  have : k = 0 ∨ k = 1 ∨ k = 2 ∨ k = 3 ∨ k = 4 ∨ k = 5 := by omega
  rcases this with rfl | rfl | rfl | rfl | rfl | rfl <;> decide
/-- Where the player has put pods, and what they need. -/
structure Pods where
  node : List Int
  needs : List (List Bool)
def needAt (Q : Pods) (i k : Nat) : Bool := ((Q.needs[i]?.getD [])[k]?).getD false
def podsOf (node : List Int) (needs : List (ByteArray × ByteArray)) (i : Nat) : PPod := ⟨node[i]?.getD 0, (needs.filter (mineOf i)).map (·.2)⟩
structure PodsK (p : Nat → PPod) (Q : Pods) : Prop where
  len : Q.node.length = 8 ∧ Q.needs.length = 8 ∧ ∀ l ∈ Q.needs, l.length = 6
  node : ∀ i, i < 8 → Q.node[i]? = some (p i).node
  need : ∀ i k, i < 8 → k < 6 → (needAt Q i k = true ↔ nameOf k ∈ (p i).needs)
  names : ∀ i, i < 8 → ∀ q ∈ (p i).needs, IsName q
  once : ∀ i, i < 8 → (p i).needs.Nodup
structure PD where
  deeds : List Dd
  floor : Int
  ops : List Und2
  dest : List Bool
  seen : List Ent
  keys : List ByteArray
  pods : Pods
def goneAt (ks : List RKey) (i : Nat) : Bool := ((ks[i]?).map RKey.gone).getD false
def destOf (ks : List RKey) : List Bool := false :: (List.range 6).map (goneAt ks)
structure Draws2 (all : List RKept) (ops : List RUnd) (n : Int) : Prop where
  a : ∀ (i : Nat) (k : RKept), all[i]? = some k → k.e.gone = false → 1 ≤ k.e.draw ∧ k.e.draw ≤ n
  b : ∀ (i j : Nat) (k q : RKept), i ≠ j → all[i]? = some k → all[j]? = some q → k.e.gone = false → q.e.gone = false → k.e.draw ≠ q.e.draw
  c : ∀ (s : Nat) (u : RUnd), ops[s]? = some u → u.on = true → u.e.gone = false → (1 ≤ u.e.draw ∧ u.e.draw ≤ n) ∧ ∀ (i : Nat) (k : RKept), all[i]? = some k → k.e.gone = false → k.e.draw ≠ u.e.draw
  d : ∀ (s t : Nat) (u v : RUnd), s ≠ t → ops[s]? = some u → ops[t]? = some v → u.on = true → v.on = true → u.e.gone = false → v.e.gone = false → u.e.draw ≠ v.e.draw
/-- A turn that is under way. -/
def T3 (t : Int) : Prop := t = 1 ∨ t = 2 ∨ t = 3
/-- N: the paths that the player uses. -/
structure Know (N : ByteArray → Prop) (Y : RS) (D : PD) : Prop where
  all : AllOk Y.keys Y.all D.deeds
  out : OutOk2 Y.all Y.floor
  floor : D.floor = Y.floor
  floor1 : Y.floor ≤ (Y.all.length : Int)
  names : ∀ d ∈ D.deeds, N d.path
  keys : D.keys = Y.keys.map RKey.text
  dest : D.dest = destOf Y.keys
  opl : D.ops.length = 4
  ops : ∀ (s : Nat) (u : RUnd), Y.ops[s]? = some u → ∃ v, D.ops[s]? = some v ∧ v.on = u.on ∧ (u.on = true → Agrees Y.keys u.e v.deed ∧ N v.deed.path)
  draws : Draws2 Y.all Y.ops Y.draws
  came : ∀ (s : Nat) (sn : Int), Y.seen[s]? = some sn → sn ≠ 0 → ∀ (i : Nat) (K : RKey), Y.keys[i]? = some K → K.writes ≠ 0 → K.came ≤ sn
  told : ∀ e ∈ D.seen, e.gone = false ∧ ∃ k ∈ Y.all, k.e = e
  pods : PodsK (podsOf Y.node Y.needs) D.pods
  left : Y.turn ≠ 0 → 2 ≤ leftOf Y.keys ∧ T3 Y.turn
variable {N : ByteArray → Prop} {X : PS} {Y : RS} {D : PD} {n : Nat}
/-- The key that writes is left. -/
theorem Rel2.left1 (h : Rel2 n X Y) : 1 ≤ leftOf Y.keys := by
  obtain ⟨j, p, K, _, w1, _, w3, _, _, w6, _, _⟩ := h.writer
  unfold leftOf
  exact List.countP_pos_iff.2 ⟨K, List.mem_of_getElem? w3, by rw [w6]; rfl⟩
theorem Know.deeds (h : Know N Y D) : D.deeds.length = Y.all.length := h.all.len.symm
/-! Refresh, Crash. -/
theorem know_refresh (h : Know N Y D) (hr : Rel2 n X Y) (s : Int) : Know N (Y.refresh s) D := by
  refine ⟨h.all, h.out, h.floor, h.floor1, h.names, h.keys, h.dest, h.opl, h.ops, h.draws, fun i sn hs hne j K hK hw => ?_, h.told, h.pods, h.left⟩
  rcases set_at hs with ⟨_, hs⟩ | ⟨_, rfl⟩
  · exact h.came i sn hs hne j K hK hw
  · exact (hr.keys.came j K hK).2
theorem know_crash (h : Know N Y D) (s : Nat) : Know N (Y.crash (s : Int)) { D with ops := D.ops.set s Und2.zero } := by
  have e : (s : Int).toNat = s := Int.toNat_natCast s
  refine ⟨h.all, h.out, h.floor, h.floor1, h.names, h.keys, h.dest, by simp [h.opl], fun t u hu => ?_, ⟨h.draws.a, h.draws.b, fun t u hu ho hg => ?_, fun t t' u v hne hu hv ho hov hg hgv => ?_⟩, fun i sn hs hne j K hK hw => ?_, h.told, h.pods, h.left⟩
  · replace hu : (Y.ops.set (s : Int).toNat RUnd.zero)[t]? = some u := hu
    rw [e] at hu
    rcases set_at hu with ⟨hne, hu⟩ | ⟨rfl, rfl⟩
    · obtain ⟨v, a, b, c⟩ := h.ops t u hu
      exact ⟨v, by show (D.ops.set s _)[t]? = _; rw [List.getElem?_set_ne (fun q => hne q.symm)]; exact a, b, c⟩
    · have hl : t < Y.ops.length := by have := (List.getElem?_eq_some_iff.1 hu).1; simpa using this
      obtain ⟨v, a, _⟩ := h.ops t _ (List.getElem?_eq_getElem hl)
      have := (List.getElem?_eq_some_iff.1 a).1
      exact ⟨Und2.zero, List.getElem?_set_self this, rfl, fun q => by cases q⟩
  · rcases set_at hu with ⟨_, hu⟩ | ⟨_, rfl⟩
    · exact h.draws.c t u hu ho hg
    · cases ho
  · rcases set_at hu with ⟨_, hu⟩ | ⟨_, rfl⟩
    · rcases set_at hv with ⟨_, hv⟩ | ⟨_, rfl⟩
      · exact h.draws.d t t' u v hne hu hv ho hov hg hgv
      · cases hov
    · cases ho
  · rcases set_at hs with ⟨_, hs⟩ | ⟨_, rfl⟩
    · exact h.came i sn hs hne j K hK hw
    · exact absurd rfl hne
/-! Begin. -/
theorem know_setOp (h : Know N Y D) (i : Nat) (u : RUnd) (v : Und2) (dr : Int) (hi : i < D.ops.length) (hd : Y.draws ≤ dr) (hv : v.on = u.on) (ha : u.on = true → Agrees Y.keys u.e v.deed ∧ N v.deed.path)
    (hn : u.on = true → u.e.gone = false → Y.draws < u.e.draw ∧ 1 ≤ u.e.draw ∧ u.e.draw ≤ dr) : Know N { Y.setOp i u with draws := dr } { D with ops := D.ops.set i v } := by
  refine ⟨h.all, h.out, h.floor, h.floor1, h.names, h.keys, h.dest, by simp [h.opl], fun t u' hu => ?_, ⟨fun j k hk hg => ?_, h.draws.b, fun t u' hu ho hg => ?_, fun t t' u' v' hne hu hv' ho hov hg hgv => ?_⟩, h.came, h.told, h.pods, h.left⟩
  · rcases set_at hu with ⟨hne, hu⟩ | ⟨rfl, rfl⟩
    · obtain ⟨w, a, b, c⟩ := h.ops t u' hu
      exact ⟨w, by show (D.ops.set i _)[t]? = _; rw [List.getElem?_set_ne (fun q => hne q.symm)]; exact a, b, c⟩
    · exact ⟨v, List.getElem?_set_self hi, hv, ha⟩
  · have := h.draws.a j k hk hg
    exact ⟨this.1, by show k.e.draw ≤ dr; omega⟩
  · rcases set_at hu with ⟨hne, hu⟩ | ⟨rfl, rfl⟩
    · obtain ⟨a, b⟩ := h.draws.c t u' hu ho hg
      exact ⟨⟨a.1, by show u'.e.draw ≤ dr; omega⟩, b⟩
    · obtain ⟨a1, a2, a3⟩ := hn ho hg
      refine ⟨⟨a2, a3⟩, fun j k hk hgk => ?_⟩
      have := (h.draws.a j k hk hgk).2
      omega
  · rcases set_at hu with ⟨h1, hu2⟩ | ⟨h1, e1⟩
    · rcases set_at hv' with ⟨h2, hv2⟩ | ⟨h2, e2⟩
      · exact h.draws.d t t' u' v' hne hu2 hv2 ho hov hg hgv
      · have q1 := (h.draws.c t u' hu2 ho hg).1.2
        rw [e2] at hov hgv ⊢
        have q2 := (hn hov hgv).1
        omega
    · rcases set_at hv' with ⟨h2, hv2⟩ | ⟨h2, e2⟩
      · have q1 := (h.draws.c t' v' hv2 hov hgv).1.2
        rw [e1] at ho hg ⊢
        have q2 := (hn ho hg).1
        omega
      · omega
/-! Commit. -/
theorem know_add (h : Know N Y D) (e : Ent) (d : Dd) (dr : Int) (hd : Y.draws ≤ dr) (ha : Agrees Y.keys e d) (hN : N d.path) (hn : e.gone = false → (1 ≤ e.draw ∧ e.draw ≤ dr) ∧ (∀ (i : Nat) (k : RKept), Y.all[i]? = some k → k.e.gone = false → k.e.draw ≠ e.draw) ∧ ∀ (s : Nat) (u : RUnd), Y.ops[s]? = some u → u.on = true → u.e.gone = false → u.e.draw ≠ e.draw) (r : Int) :
    Know N { Y with draws := dr, all := Y.all ++ [⟨{ e with rev := r }, false⟩] } { D with deeds := D.deeds ++ [d] } := by
  have hf := h.floor1
  refine ⟨⟨?_, fun i k c hk hc => ?_⟩, ⟨fun i k hk hfl => ?_, fun i k hk hfl => ?_⟩, h.floor, ?_, fun c hc => ?_, h.keys, h.dest, h.opl, h.ops, ⟨fun i k hk hg => ?_, fun i j k q hij hk hq hg hgq => ?_, fun s u hu ho hg => ?_, h.draws.d⟩, h.came, fun c hc => ?_, h.pods, h.left⟩
  · show (Y.all ++ [_]).length = (D.deeds ++ [_]).length
    simp [h.all.len]
  · rcases snoc_at hk with hk | ⟨hk, rfl⟩
    · rcases snoc_at hc with hc | ⟨hc, rfl⟩
      · exact h.all.same i k c hk hc
      · have := (List.getElem?_eq_some_iff.1 hk).1; have := h.all.len; omega
    · rcases snoc_at hc with hc | ⟨_, rfl⟩
      · have := (List.getElem?_eq_some_iff.1 hc).1; have := h.all.len; omega
      · exact ⟨ha.path, ha.gone, ha.size, ha.shut⟩
  · replace hfl : (i : Int) + 1 ≤ Y.floor := hfl
    rcases snoc_at hk with hk | ⟨hk, _⟩
    · rw [h.out.low i k hk hfl]
      constructor
      · rintro (q | ⟨j, q, a1, a2, a3, a4⟩)
        · exact Or.inl q
        · exact Or.inr ⟨j, q, a1, a2, by show (Y.all ++ [_])[j]? = _; rw [List.getElem?_append_left (List.getElem?_eq_some_iff.1 a3).1]; exact a3, a4⟩
      · rintro (q | ⟨j, q, a1, a2, a3, a4⟩)
        · exact Or.inl q
        · replace a2 : (j : Int) + 1 ≤ Y.floor := a2
          rcases snoc_at a3 with a3 | ⟨a3, _⟩
          · exact Or.inr ⟨j, q, a1, a2, a3, a4⟩
          · omega
    · omega
  · rcases snoc_at hk with hk | ⟨_, rfl⟩
    · exact h.out.high i k hk hfl
    · rfl
  · show Y.floor ≤ (((Y.all ++ [_]).length : Nat) : Int)
    simp
    omega
  · rcases List.mem_append.1 hc with hc | hc
    · exact h.names c hc
    · obtain rfl := List.mem_singleton.1 hc; exact hN
  · rcases snoc_at hk with hk | ⟨_, rfl⟩
    · have := h.draws.a i k hk hg
      exact ⟨this.1, by show k.e.draw ≤ dr; omega⟩
    · exact (hn hg).1
  · rcases snoc_at hk with hk | ⟨h1, rfl⟩
    · rcases snoc_at hq with hq | ⟨h2, rfl⟩
      · exact h.draws.b i j k q hij hk hq hg hgq
      · exact (hn hgq).2.1 i k hk hg
    · rcases snoc_at hq with hq | ⟨h2, rfl⟩
      · exact fun q1 => (hn hg).2.1 j q hq hgq q1.symm
      · omega
  · obtain ⟨a, b⟩ := h.draws.c s u hu ho hg
    refine ⟨⟨a.1, by show u.e.draw ≤ dr; omega⟩, fun i k hk hgk => ?_⟩
    rcases snoc_at hk with hk | ⟨_, rfl⟩
    · exact b i k hk hgk
    · exact fun q => (hn hgk).2.2 s u hu ho hg q.symm
  · obtain ⟨a, k, b, c2⟩ := h.told c hc
    exact ⟨a, k, List.mem_append_left _ b, c2⟩
/-- An operation is over. -/
theorem know_end (h : Know N Y D) (i : Nat) : Know N (Y.setOp i RUnd.zero) { D with ops := D.ops.set i Und2.zero } := by
  by_cases hi : i < D.ops.length
  · have := know_setOp h i RUnd.zero Und2.zero Y.draws hi (Int.le_refl _) rfl (fun q => by cases q) (fun q => by cases q)
    exact this
  · refine ⟨h.all, h.out, h.floor, h.floor1, h.names, h.keys, h.dest, by simp [h.opl], fun t u hu => ?_, ⟨h.draws.a, h.draws.b, fun t u hu ho hg => ?_, fun t t' u v hne hu hv ho hov hg hgv => ?_⟩, h.came, h.told, h.pods, h.left⟩
    · rcases set_at hu with ⟨hne, hu⟩ | ⟨rfl, rfl⟩
      · obtain ⟨v, a, b, c⟩ := h.ops t u hu
        exact ⟨v, by show (D.ops.set i _)[t]? = _; rw [List.getElem?_set_ne (fun q => hne q.symm)]; exact a, b, c⟩
      · have hl : t < Y.ops.length := by have := (List.getElem?_eq_some_iff.1 hu).1; simpa [RS.setOp] using this
        obtain ⟨v, a, _⟩ := h.ops t _ (List.getElem?_eq_getElem hl)
        exact absurd (List.getElem?_eq_some_iff.1 a).1 hi
    · rcases set_at hu with ⟨_, hu⟩ | ⟨_, rfl⟩
      · exact h.draws.c t u hu ho hg
      · cases ho
    · rcases set_at hu with ⟨_, hu⟩ | ⟨_, rfl⟩
      · rcases set_at hv with ⟨_, hv⟩ | ⟨_, rfl⟩
        · exact h.draws.d t t' u v hne hu hv ho hov hg hgv
        · cases hov
      · cases ho
theorem know_commit (h : Know N Y D) {i : Nat} {u : RUnd} {v : Und2} (hu : Y.ops[i]? = some u) (hv : D.ops[i]? = some v) (hon : u.on = true) (hc : commitErr Y u = 0) :
    Know N (Y.commit i u) { D with ops := D.ops.set i Und2.zero, deeds := D.deeds ++ [v.deed] } := by
  obtain ⟨v', a, b, c⟩ := h.ops i u hu
  obtain rfl := Option.some.inj (a.symm.trans hv)
  obtain ⟨c1, c2⟩ := c hon
  have he := know_end h i
  have key : Know N { Y.setOp i RUnd.zero with draws := (Y.setOp i RUnd.zero).draws, all := (Y.setOp i RUnd.zero).all ++ [⟨{ u.e with rev := (Y.all.length : Int) + 1 }, false⟩] } { ({ D with ops := D.ops.set i Und2.zero } : PD) with deeds := D.deeds ++ [v'.deed] } := by
    refine know_add he u.e v'.deed _ (Int.le_refl _) c1 c2 (fun hg => ⟨(h.draws.c i u hu hon hg).1, (h.draws.c i u hu hon hg).2, fun s w hs ho hgw => ?_⟩) _
    rcases set_at hs with ⟨hne, hs⟩ | ⟨_, rfl⟩
    · exact h.draws.d s i w u hne hs hu ho hon hgw hg
    · cases ho
  unfold RS.commit
  rw [hc]
  exact key
end Go.Proofs.YtphapknfkbgapabDoor
