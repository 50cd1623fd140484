import Derived.Test.YtphapknfkbgapaaDoorPlHToTelM
import Derived.Test.YtphapknfkbgapaaDoorPrefixWalk
namespace Go.Proofs.YtphapknfkbgapaaDoor
open Go.RowKit

/-! The player's pods. -/
variable {N : ByteArray → Prop} {X : PS} {D : PD} {n S : Nat} {R : Int} {p q : Nat → PPod} {Q : Pods}

theorem PodsK.congr (h : PodsK p Q) (e : ∀ i, i < 8 → q i = p i) : PodsK q Q :=
  ⟨h.len, fun i hi => by rw [e i hi]; exact h.node i hi, fun i k hi hk => by rw [e i hi]; exact h.need i k hi hk, fun i hi => by rw [e i hi]; exact h.names i hi, fun i hi => by rw [e i hi]; exact h.once i hi⟩
theorem podsOf_eq {Y : RS} (h : Pods2 X.pods Y.node Y.needs) {i : Nat} (hi : i < 8) : podsOf Y.node Y.needs i = X.pods i := by
  unfold podsOf
  rw [h.node i hi, ← h.same i hi]
  rfl
theorem Kn.pods (h : Kn N n X D S R) : PodsK X.pods D.pods := by
  obtain ⟨Y, h, k, _, _⟩ := h
  exact k.pods.congr (fun i hi => (podsOf_eq h.pods hi).symm)
theorem podsK_place (h : PodsK p Q) {pod : Nat} (hp : pod < 8) (v : Int) : PodsK (setPod p pod { p pod with node := v }) { Q with node := Q.node.set pod v } := by
  have hs : ∀ i, (setPod p pod { p pod with node := v } i).needs = (p i).needs := fun i => by
    unfold setPod
    split
    · rename_i e; rw [e]
    · rfl
  refine ⟨⟨by simp [h.len.1], h.len.2.1, h.len.2.2⟩, fun i hi => ?_, fun i k hi hk => by rw [hs]; exact h.need i k hi hk, fun i hi => by rw [hs]; exact h.names i hi, fun i hi => by rw [hs]; exact h.once i hi⟩
  show (Q.node.set pod v)[i]? = _
  by_cases e : i = pod
  · subst e
    rw [List.getElem?_set_self (by rw [h.len.1]; exact hi), setPod_same]
  · rw [List.getElem?_set_ne (fun q => e q.symm), setPod_ne e]
    exact h.node i hi
theorem kn_place (h : Kn N n X D S R) {pod : Nat} (hp : pod < 8) {node : Int} (h1 : -1 ≤ node) (h2 : node < 4) :
    PUni 100 [.int .i64 (pod : Int), .int .i64 node] X (.int .i64 0) (X.place pod node) ∧ Kn N (n + 1) (X.place pod node) { D with pods := { D.pods with node := D.pods.node.set pod node } } S R := by
  have hk := podsK_place h.pods hp node
  obtain ⟨Y, h, k, rfl, r0⟩ := h
  have h2' := pods_place h.pods hp node
  refine ⟨p_kept (fun w F b hX _ _ => pPlace_yes w pod node hX hp h1 h2), Y.place pod node, { h.up with pods := h2' }, ⟨k.all, k.out, k.floor, k.floor1, k.names, k.keys, k.dest, k.opl, k.ops, k.draws, k.came, k.told, ?_, k.left⟩, rfl, r0⟩
  exact hk.congr (fun i hi => podsOf_eq (X := X.place pod node) (Y := Y.place pod node) h2' hi)
theorem nameOf_inj : ∀ {i j : Nat}, i < 6 → j < 6 → nameOf i = nameOf j → i = j := by
  intro i j hi hj h
  have hi' : i = 0 ∨ i = 1 ∨ i = 2 ∨ i = 3 ∨ i = 4 ∨ i = 5 := by omega
  have hj' : j = 0 ∨ j = 1 ∨ j = 2 ∨ j = 3 ∨ j = 4 ∨ j = 5 := by omega
  have hd := congrArg (fun b => b.data.toList) h
  rcases hi' with rfl | rfl | rfl | rfl | rfl | rfl <;> rcases hj' with rfl | rfl | rfl | rfl | rfl | rfl <;> first | rfl | (exfalso; revert hd; decide)
theorem nodup_le {α : Type} [DecidableEq α] : ∀ (L l : List α), l.Nodup → (∀ x ∈ l, x ∈ L) → l.length ≤ L.length
  | [], l, _, h => by
    cases l with
    | nil => exact Nat.le_refl _
    | cons x r => exact absurd (h x List.mem_cons_self) (by simp)
  | a :: L, l, hn, h => by
    by_cases ha : a ∈ l
    · have h1 := nodup_le L (l.erase a) (hn.erase a) (fun x hx => by
        have hx2 : x ∈ l := List.mem_of_mem_erase hx
        rcases List.mem_cons.1 (h x hx2) with rfl | q
        · exact absurd hx (by
            intro hx
            exact (List.Nodup.mem_erase_iff hn).1 hx |>.1 rfl)
        · exact q)
      rw [List.length_erase_of_mem ha] at h1
      rw [List.length_cons]
      omega
    · have h1 := nodup_le L l hn (fun x hx => by
        rcases List.mem_cons.1 (h x hx) with rfl | q
        · exact absurd hx ha
        · exact q)
      rw [List.length_cons]
      omega
theorem names_six {l : List ByteArray} (hn : l.Nodup) (h : ∀ x ∈ l, IsName x) : l.length ≤ 6 := by
  have := nodup_le [nameOf 0, nameOf 1, nameOf 2, nameOf 3, nameOf 4, nameOf 5] l hn (fun x hx => by
    obtain ⟨k, hk, rfl⟩ := h x hx
    have : k = 0 ∨ k = 1 ∨ k = 2 ∨ k = 3 ∨ k = 4 ∨ k = 5 := by omega
    rcases this with rfl | rfl | rfl | rfl | rfl | rfl <;> simp)
  exact this
theorem mem_without {l : List ByteArray} {a x : ByteArray} : x ∈ withoutOf l a ↔ x ∈ l ∧ x ≠ a := by
  unfold withoutOf
  rw [List.mem_filter]
  constructor
  · rintro ⟨h1, h2⟩
    refine ⟨h1, fun e => ?_⟩
    subst e
    simp at h2
  · rintro ⟨h1, h2⟩
    exact ⟨h1, by rw [path_bne h2]; rfl⟩
theorem needAt_set {Q : Pods} (hl : Q.needs.length = 8) (h6 : ∀ l ∈ Q.needs, l.length = 6) {pod k : Nat} (hp : pod < 8) (hk : k < 6) {l : List Bool} (hpl : Q.needs[pod]? = some l) (v : Bool) (i j : Nat) :
    needAt { Q with needs := Q.needs.set pod (l.set k v) } i j = if i = pod then (if j = k then v else needAt Q i j) else needAt Q i j := by
  unfold needAt
  show (((Q.needs.set pod (l.set k v))[i]?.getD [])[j]?).getD false = _
  by_cases e : i = pod
  · subst e
    rw [if_pos rfl, List.getElem?_set_self (by rw [hl]; exact hp), hpl]
    simp only [Option.getD_some]
    by_cases e2 : j = k
    · subst e2
      rw [if_pos rfl, List.getElem?_set_self (by rw [h6 l (List.mem_of_getElem? hpl)]; exact hk)]
      rfl
    · rw [if_neg e2, List.getElem?_set_ne (fun q => e2 q.symm)]
  · rw [if_neg e, List.getElem?_set_ne (fun q => e q.symm)]
theorem podsK_refer (h : PodsK p Q) {pod k : Nat} (hp : pod < 8) (hk : k < 6) {l : List Bool} (hl : Q.needs[pod]? = some l) (on : Bool) :
    PodsK (setPod p pod { p pod with needs := withoutOf (p pod).needs (nameOf k) ++ (if on then [nameOf k] else []) }) { Q with needs := Q.needs.set pod (l.set k on) } := by
  have hno : nameOf k ∉ withoutOf (p pod).needs (nameOf k) := fun hx => (mem_without.1 hx).2 rfl
  refine ⟨⟨h.len.1, by simp [h.len.2.1], fun x hx => ?_⟩, fun i hi => ?_, fun i j hi hj => ?_, fun i hi x hx => ?_, fun i hi => ?_⟩
  · obtain ⟨i, hi⟩ := List.getElem?_of_mem hx
    rcases set_at hi with ⟨_, hi⟩ | ⟨_, rfl⟩
    · exact h.len.2.2 x (List.mem_of_getElem? hi)
    · rw [List.length_set]; exact h.len.2.2 l (List.mem_of_getElem? hl)
  · by_cases e : i = pod
    · subst e; rw [setPod_same]; exact h.node i hi
    · rw [setPod_ne e]; exact h.node i hi
  · rw [needAt_set h.len.2.1 h.len.2.2 hp hk hl]
    by_cases e : i = pod
    · subst e
      rw [if_pos rfl, setPod_same]
      show _ ↔ nameOf j ∈ withoutOf (p i).needs (nameOf k) ++ (if on then [nameOf k] else [])
      rw [List.mem_append, mem_without]
      by_cases e2 : j = k
      · subst e2
        rw [if_pos rfl]
        cases on
        · simp
        · simp
      · rw [if_neg e2, h.need i j hi hj]
        have hne : nameOf j ≠ nameOf k := fun q => e2 (nameOf_inj hj hk q)
        cases on
        · simp [hne]
        · simp [hne]
    · rw [if_neg e, setPod_ne e]
      exact h.need i j hi hj
  · by_cases e : i = pod
    · subst e
      rw [setPod_same] at hx
      rcases List.mem_append.1 hx with hx | hx
      · exact h.names i hi x (mem_without.1 hx).1
      · cases on
        · cases hx
        · obtain rfl := List.mem_singleton.1 hx
          exact ⟨k, hk, rfl⟩
    · rw [setPod_ne e] at hx
      exact h.names i hi x hx
  · by_cases e : i = pod
    · subst e
      rw [setPod_same]
      show (withoutOf (p i).needs (nameOf k) ++ (if on then [nameOf k] else [])).Nodup
      have h1 : (withoutOf (p i).needs (nameOf k)).Nodup := (h.once i hi).filter _
      cases on
      · simpa using h1
      · rw [List.nodup_append]
        refine ⟨h1, by simp, fun a ha c hc => ?_⟩
        have hc2 : c = nameOf k := by simpa using hc
        rw [hc2]
        exact fun q => hno (q ▸ ha)
    · rw [setPod_ne e]
      exact h.once i hi
theorem kn_refer (h : Kn N n X D S R) {pod k : Nat} (hp : pod < 8) (hk : k < 6) {l : List Bool} (hl : D.pods.needs[pod]? = some l) (on : Bool) :
    PUni 101 [.int .i64 (pod : Int), .string (nameOf k), .bool on] X (.int .i64 0) (X.refer pod (nameOf k) on) ∧ Kn N (n + 1) (X.refer pod (nameOf k) on) { D with pods := { D.pods with needs := D.pods.needs.set pod (l.set k on) } } S R := by
  have hK := h.pods
  have h6 := names_six (hK.once pod hp) (hK.names pod hp)
  have hkk := podsK_refer hK hp hk hl on
  obtain ⟨s1, s2⟩ := isName_size ⟨k, hk, rfl⟩
  have hq : isPath (nameOf k) = true := by unfold isPath; simp; omega
  have hm : (nameOf k).size ≤ maxLen := by unfold maxLen; omega
  obtain ⟨Y, h, kk, rfl, r0⟩ := h
  have hw : (withoutOf (X.pods pod).needs (nameOf k)).length ≤ 6 := Nat.le_trans (without_le _ _) h6
  have ho := others_same h.pods hp (nameOf k)
  have hf : (on && decide (8 ≤ othersOf Y.needs pod (nameOf k))) = false := by
    rw [ho, decide_eq_false (by omega), Bool.and_false]
  have h2' := pods_refer h.pods hp (nameOf k) on hf
  refine ⟨fun w F b hX hF h1 => (pRefer_any w pod (nameOf k) on hX (by omega) hm hq hp).mono ?_, Y.refer pod (nameOf k) on, { h.up with pods := h2' }, ⟨kk.all, kk.out, kk.floor, kk.floor1, kk.names, kk.keys, kk.dest, kk.opl, kk.ops, kk.draws, kk.came, kk.told, ?_, kk.left⟩, rfl, r0⟩
  · rintro e w' (⟨q, _⟩ | ⟨_, q1, q2, q3⟩)
    · rw [← ho, hf] at q; cases q
    · exact ⟨q1, _, q2, q3, fun _ hk => hk.imp id (fun q => q.1)⟩
  · exact hkk.congr (fun i hi => podsOf_eq (X := X.refer pod (nameOf k) on) (Y := Y.refer pod (nameOf k) on) h2' hi)
/-! Fetch: refused, or as Get. -/
theorem openedFor_ex {Y : RS} (h : Rel2 n X Y) {i : Nat} {s : PSrv} (hs : X.servers[i]? = some s) (name : ByteArray) {E : Ent} (hE : newestOf X.entries name X.rev = E) :
    ∃ O : ByteArray × Int, O.2 ≠ 21 ∧ (O.2 ≠ 0 → O.1 = ⟨#[]⟩) ∧ ∀ (w : World) (F : Nat → Prop) (b : Nat), XIn w F b X → Fours w → 1 ≤ w.heap.size → Calls Tryd.prog 104 #[.pointer (some ⟨b, 0, none⟩), .int .i64 (i : Int), .agg #[.string E.path, .int .i64 E.rev, .int .i64 E.key, .int .i64 E.draw, .string E.sealed, .bool E.gone]] w fun e w' => e = .returned (.tuple #[.string O.1, .int .i64 O.2]) ∧ Low w.heap.size w w' := by
  cases hz : (E.rev == 0 || E.gone)
  · rw [Bool.or_eq_false_iff] at hz
    have hm : E ∈ X.entries := by
      unfold newestOf at hE
      cases hf : X.entries.reverse.find? (fun e => decide (e.rev ≤ X.rev) && (e.path.toList == name.toList)) with
      | none =>
        rw [hf] at hE
        rw [← hE] at hz
        exact absurd hz.1 (by decide)
      | some e =>
        rw [hf] at hE
        have hE : e = E := hE
        rw [← hE]
        exact List.mem_reverse.1 (List.mem_of_find?_eq_some hf)
    obtain ⟨j, P, ek, _⟩ := h.ekey hm hz.2
    refine ⟨pRead P E s.seen, ?_, pRead_zero P E s.seen, fun w F b hX hF h1 => openedFor_some w i s E P j hX hs hz.1 hz.2 ek.at_ ek.key ek.six ek.size ek.ok hF h1⟩
    unfold pRead pOpened
    (repeat' split) <;> simp
  · exact ⟨(⟨#[]⟩, 12), by decide, fun _ => rfl, fun w F b _ _ _ => openedFor_none w i E hz⟩
theorem kn_fetch (h : Kn N n X D S R) {s : Nat} (hs : s < S) {node : Nat} (hn : node < 4) (name : ByteArray) :
    (neededOf X.pods (node : Int) name = false → PUni 121 [.int .i64 (s : Int), .int .i64 (node : Int), .string name] X (.tuple #[.string ⟨#[]⟩, .int .i64 21]) X) ∧
    (neededOf X.pods (node : Int) name = true → ∃ (A : ByteArray) (B C : Int), C ≠ 21 ∧ PUni 121 [.int .i64 (s : Int), .int .i64 (node : Int), .string name] X (.tuple #[.string A, .int .i64 C]) X ∧ PUni 46 [.int .i64 (s : Int), .string name] X (.tuple #[.string A, .int .i64 B, .int .i64 C]) X) := by
  obtain ⟨Y, h, k, rfl, r0⟩ := h
  obtain ⟨p, sn, u, hp, ha, hS⟩ := h.srvAt hs
  have hfew := h.pods.few
  have hent : X.entries.length ≤ 1000 := by have := h.few; have := h.rooms; omega
  have hx : isSrv X.servers.length (s : Int) = true := by
    have := h.len.1
    unfold isSrv
    simp
    omega
  have hb : badNode (node : Int) = false := by unfold badNode; simp; omega
  constructor
  · intro hd
    exact p_low (fun w F b hX _ _ => pFetch_denied w (s : Int) (node : Int) name hX hx hb hfew hd)
  · intro hd
    cases hz : (p.seen == 0)
    · obtain ⟨E, hE⟩ : ∃ E, newestOf X.entries name X.rev = E := ⟨_, rfl⟩
      obtain ⟨O, o1, o2, o3⟩ := openedFor_ex h hp name hE
      refine ⟨O.1, pRevOr O E.rev, O.2, o1, p_low (fun w F b hX hF h1 => pFetch_ok w s p (node : Int) name E O.1 O.2 hX hp hx hz hb hfew hd hent hE (fun V l => o3 V F b (hX.low l) (fours_low hF h1 l) (Nat.le_trans h1 l.size))), p_low (fun w F b hX hF h1 => pGet_ok w s p name hX hp hz _ _ _ (read_via w s name X.rev E O hX hent hE o2 (fun V l => o3 V F b (hX.low l) (fours_low hF h1 l) (Nat.le_trans h1 l.size))))⟩
    · exact ⟨⟨#[]⟩, 0, 6, by decide, p_low (fun w F b hX _ _ => pFetch_blind w s p (node : Int) name hX hp hx hz hb hfew hd), p_same (fun w F b hX => pGet_blind w s p name hX hp hz)⟩
/-- What the player knows of who needs what. -/
def allowedQ (Q : Pods) (node : Int) (k : Nat) : Bool := (List.range 8).any (fun i => ((Q.node[i]?).getD 0 == node) && needAt Q i k)
theorem allowed_same (h : PodsK p Q) (node : Int) {k : Nat} (hk : k < 6) : allowedQ Q node k = neededOf p node (nameOf k) := by
  unfold allowedQ neededOf
  rw [Bool.eq_iff_iff, List.any_eq_true, List.any_eq_true]
  have key : ∀ i, i < 8 → ((((Q.node[i]?).getD 0 == node) && needAt Q i k) = true ↔ podNeeds (p i) node (nameOf k) = true) := fun i hi => by
    rw [h.node i hi]
    unfold podNeeds
    rw [Bool.and_eq_true, Bool.and_eq_true, h.need i k hi hk, List.any_eq_true]
    simp only [Option.getD_some]
    constructor
    · rintro ⟨a, c⟩; exact ⟨a, _, c, path_beq.2 rfl⟩
    · rintro ⟨a, x, c, e⟩; exact ⟨a, by rw [← path_beq.1 e]; exact c⟩
  constructor
  · rintro ⟨i, hi, hp⟩; exact ⟨i, hi, (key i (List.mem_range.1 hi)).1 hp⟩
  · rintro ⟨i, hi, hp⟩; exact ⟨i, hi, (key i (List.mem_range.1 hi)).2 hp⟩
end Go.Proofs.YtphapknfkbgapaaDoor
namespace Go.Proofs.YtphapknfkbgapaaDoor
open Go.RowKit

/-! The player in memory. -/

def Dd.cells (d : Dd) : List Value := [.string d.path, .string d.text, .bool d.gone]
def Und2.cells (u : Und2) : List Value := [.bool u.on, .string u.deed.path, .string u.deed.text, .bool u.deed.gone]
def bools (l : List Bool) : List Value := l.map Value.bool
def strs (t : ByteArray) : List Value := [.string t]
theorem Dd.len (d : Dd) : d.cells.length = 3 := rfl
theorem Und2.len (d : Und2) : d.cells.length = 4 := rfl
theorem strs_len (t : ByteArray) : (strs t).length = 1 := rfl
theorem Dd.one (e : Dd) : ∀ v ∈ e.cells, v.oneCell' = true := by simp [Dd.cells, Value.oneCell']
theorem Und2.one (e : Und2) : ∀ v ∈ e.cells, v.oneCell' = true := by simp [Und2.cells, Value.oneCell']
def qrest (D : PD) (Q : Pods) : List Value := bools D.dest ++ (Q.node.map (Value.int .i64) ++ Q.needs.flatMap bools)
def midOf (D : PD) (Q : Pods) : List Value := D.ops.flatMap Und2.cells ++ qrest D Q
def headOf (bx S : Nat) (R : Int) (key : ByteArray) (D : PD) (vD : Value) : List Value := [.pointer (some ⟨bx, 0, none⟩), .int .i64 (S : Int), .int .i64 R, .string key, vD, .int .i64 D.floor]
def qcells (bx S : Nat) (R : Int) (key : ByteArray) (D : PD) (Q : Pods) (vD vS vK : Value) : List Value := headOf bx S R key D vD ++ (midOf D Q ++ [vS, vK])
def PD.rows (D : PD) : List Row := [⟨4, 43, 3, D.deeds.length, D.deeds.flatMap Dd.cells⟩, ⟨85, 69, 6, D.seen.length, D.seen.flatMap Ent.cells⟩, ⟨86, 9, 1, D.keys.length, D.keys.flatMap strs⟩]
structure PLen (D : PD) (Q : Pods) : Prop where
  ops : D.ops.length = 4
  dest : D.dest.length = 7
  node : Q.node.length = 8
  needs : Q.needs.length = 8
  need : ∀ l ∈ Q.needs, l.length = 6
/-- The player lies at block b, in blocks of F; its coffer at bx. -/
def QIn (w : World) (F : Nat → Prop) (b bx S : Nat) (R : Int) (key : ByteArray) (D : PD) (Q : Pods) : Prop := PLen D Q ∧ ∃ vD vS vK, Own w F b 54 (qcells bx S R key D Q vD vS vK) D.rows
theorem bools_flat (l : List (List Bool)) (h : ∀ x ∈ l, x.length = 6) : (l.flatMap bools).length = l.length * 6 := by
  induction l with
  | nil => rfl
  | cons x r ih =>
    rw [List.flatMap_cons, List.length_append, ih (fun y hy => h y (List.mem_cons_of_mem _ hy)), List.length_cons]
    have := h x List.mem_cons_self
    unfold bools
    rw [List.length_map, this]
    omega
variable {w w' : World} {F G : Nat → Prop} {b bx S : Nat} {R : Int} {key : ByteArray} {D : PD} {Q : Pods}
theorem PLen.restLen (h : PLen D Q) : (qrest D Q).length = 63 := by
  have e1 : (bools D.dest).length = 7 := by unfold bools; rw [List.length_map, h.dest]
  unfold qrest
  rw [List.length_append, List.length_append, bools_flat Q.needs h.need, h.needs, List.length_map, h.node, e1]
theorem PLen.mid (h : PLen D Q) : (midOf D Q).length = 79 := by
  unfold midOf
  rw [List.length_append, flat_length 4 Und2.cells Und2.len, h.ops, h.restLen]
theorem qc_mid (h : PLen D Q) {vD vS vK : Value} {i : Nat} (hi : i < 79) : (qcells bx S R key D Q vD vS vK)[6 + i]? = (midOf D Q)[i]? := by
  unfold qcells
  rw [List.getElem?_append_right (by simp [headOf])]
  have e : 6 + i - (headOf bx S R key D vD).length = i := by simp [headOf]
  rw [e, List.getElem?_append_left (by rw [h.mid]; exact hi)]
theorem qc_seen (h : PLen D Q) {vD vS vK : Value} : (qcells bx S R key D Q vD vS vK)[85]? = some vS := by
  unfold qcells
  rw [List.getElem?_append_right (by simp [headOf])]
  have e : 85 - (headOf bx S R key D vD).length = 79 := by simp [headOf]
  rw [e, List.getElem?_append_right (by rw [h.mid]; exact Nat.le_refl _), h.mid]
  rfl
theorem qc_keys (h : PLen D Q) {vD vS vK : Value} : (qcells bx S R key D Q vD vS vK)[86]? = some vK := by
  unfold qcells
  rw [List.getElem?_append_right (by simp [headOf])]
  have e : 86 - (headOf bx S R key D vD).length = 80 := by simp [headOf]
  rw [e, List.getElem?_append_right (by rw [h.mid]; omega), h.mid]
  rfl
theorem QIn.kept (h : QIn w F b bx S R key D Q) (k : Kept G w w') (hd : ∀ i, F i → ¬ G i) : QIn w' F b bx S R key D Q := by
  obtain ⟨hl, vD, vS, vK, h⟩ := h
  exact ⟨hl, vD, vS, vK, h.kept k hd⟩
theorem QIn.low (h : QIn w F b bx S R key D Q) (k : Low w.heap.size w w') : QIn w' F b bx S R key D Q := h.kept k.kept (fun _ _ f => f)
theorem QIn.lt (h : QIn w F b bx S R key D Q) : b < w.heap.size := by
  obtain ⟨hl, vD, vS, vK, h⟩ := h
  exact h.lt
theorem QIn.below (h : QIn w F b bx S R key D Q) : ∀ k, F k → k < w.heap.size := by
  obtain ⟨hl, vD, vS, vK, h⟩ := h
  exact h.below
theorem QIn.inF (h : QIn w F b bx S R key D Q) : F b := by
  obtain ⟨hl, vD, vS, vK, h⟩ := h
  exact h.inF
theorem QIn.frozen (h : QIn w F b bx S R key D Q) (i : Nat) : w.frozen? ⟨b, i, none⟩ = false := by
  obtain ⟨hl, vD, vS, vK, h⟩ := h
  exact h.frozen i
theorem QIn.more (h : QIn w F b bx S R key D Q) (hs : ∀ k, F k → G k) (hb : ∀ k, G k → k < w.heap.size) : QIn w G b bx S R key D Q := by
  obtain ⟨hl, vD, vS, vK, h⟩ := h
  exact ⟨hl, vD, vS, vK, h.more hs hb⟩
theorem qin_ptr (h : QIn w F b bx S R key D Q) : w.cell? ⟨b, 0, none⟩ = some (.pointer (some ⟨bx, 0, none⟩)) := by
  obtain ⟨hl, vD, vS, vK, h⟩ := h
  exact h.cell 0
theorem qin_srv (h : QIn w F b bx S R key D Q) : w.cell? ⟨b, 1, none⟩ = some (.int .i64 (S : Int)) := by
  obtain ⟨hl, vD, vS, vK, h⟩ := h
  exact h.cell 1
theorem qin_floor (h : QIn w F b bx S R key D Q) : w.cell? ⟨b, 5, none⟩ = some (.int .i64 D.floor) := by
  obtain ⟨hl, vD, vS, vK, h⟩ := h
  exact h.cell 5
theorem qin_deeds (h : QIn w F b bx S R key D Q) : Sl w b 4 3 (D.deeds.map Dd.cells) := by
  obtain ⟨hl, vD, vS, vK, h⟩ := h
  exact h.sl 0 Dd.len rfl
theorem qin_seen (h : QIn w F b bx S R key D Q) : Sl w b 85 6 (D.seen.map Ent.cells) := by
  obtain ⟨hl, vD, vS, vK, h⟩ := h
  exact h.sl 1 Ent.len rfl
theorem qin_keys (h : QIn w F b bx S R key D Q) : Sl w b 86 1 (D.keys.map strs) := by
  obtain ⟨hl, vD, vS, vK, h⟩ := h
  exact h.sl 2 strs_len rfl
theorem qin_mid (h : QIn w F b bx S R key D Q) {i : Nat} (hi : i < 79) : w.cell? ⟨b, 6 + i, none⟩ = (midOf D Q)[i]? := by
  obtain ⟨hl, vD, vS, vK, h⟩ := h
  rw [h.cell, qc_mid hl hi]
theorem qin_op (h : QIn w F b bx S R key D Q) {s : Nat} {u : Und2} (hu : D.ops[s]? = some u) {j : Nat} (hj : j < 4) : w.cell? ⟨b, 6 + (s * 4 + j), none⟩ = u.cells[j]? := by
  have hs : s < 4 := by have := (List.getElem?_eq_some_iff.1 hu).1; rw [h.1.ops] at this; exact this
  rw [qin_mid h (by omega)]
  unfold midOf
  rw [List.getElem?_append_left (by rw [flat_length 4 Und2.cells Und2.len, h.1.ops]; omega)]
  exact flat_at 4 Und2.cells Und2.len D.ops s j u hu hj
theorem qin_dest (h : QIn w F b bx S R key D Q) {k : Nat} {v : Bool} (hv : D.dest[k]? = some v) : w.cell? ⟨b, 22 + k, none⟩ = some (.bool v) := by
  have hk : k < 7 := by have := (List.getElem?_eq_some_iff.1 hv).1; rw [h.1.dest] at this; exact this
  have e := qin_mid h (i := 16 + k) (by omega)
  rw [show 6 + (16 + k) = 22 + k by omega] at e
  rw [e]
  unfold midOf qrest bools
  rw [List.getElem?_append_right (by rw [flat_length 4 Und2.cells Und2.len, h.1.ops]; omega), flat_length 4 Und2.cells Und2.len, h.1.ops, show 16 + k - 4 * 4 = k by omega, List.getElem?_append_left (by rw [List.length_map, h.1.dest]; exact hk), List.getElem?_map, hv]
  rfl
theorem qin_node (h : QIn w F b bx S R key D Q) {p : Nat} {v : Int} (hv : Q.node[p]? = some v) : w.cell? ⟨b, 29 + p, none⟩ = some (.int .i64 v) := by
  have hk : p < 8 := by have := (List.getElem?_eq_some_iff.1 hv).1; rw [h.1.node] at this; exact this
  have e := qin_mid h (i := 23 + p) (by omega)
  rw [show 6 + (23 + p) = 29 + p by omega] at e
  rw [e]
  unfold midOf qrest bools
  rw [List.getElem?_append_right (by rw [flat_length 4 Und2.cells Und2.len, h.1.ops]; omega), flat_length 4 Und2.cells Und2.len, h.1.ops, List.getElem?_append_right (by rw [List.length_map, h.1.dest]; omega), List.length_map, h.1.dest, show 23 + p - 4 * 4 - 7 = p by omega, List.getElem?_append_left (by rw [List.length_map, h.1.node]; exact hk), List.getElem?_map, hv]
  rfl
theorem bools_at (l : List (List Bool)) (h : ∀ x ∈ l, x.length = 6) : ∀ (p k : Nat) (x : List Bool), l[p]? = some x → k < 6 → (l.flatMap bools)[p * 6 + k]? = (x[k]?).map Value.bool := by
  induction l with
  | nil => intro p k x hx; simp at hx
  | cons y r ih =>
    intro p k x hx hk
    have hy : (bools y).length = 6 := by unfold bools; rw [List.length_map]; exact h y List.mem_cons_self
    rw [List.flatMap_cons]
    cases p with
    | zero =>
      obtain rfl := (Option.some.inj hx).symm
      rw [List.getElem?_append_left (by omega)]
      unfold bools
      rw [List.getElem?_map, Nat.zero_mul, Nat.zero_add]
    | succ p =>
      rw [List.getElem?_append_right (by omega), hy, show (p + 1) * 6 + k - 6 = p * 6 + k by omega]
      exact ih (fun z hz => h z (List.mem_cons_of_mem _ hz)) p k x hx hk
theorem qin_need (h : QIn w F b bx S R key D Q) {p k : Nat} {l : List Bool} {v : Bool} (hl : Q.needs[p]? = some l) (hv : l[k]? = some v) : w.cell? ⟨b, 37 + (p * 6 + k), none⟩ = some (.bool v) := by
  have hp : p < 8 := by have := (List.getElem?_eq_some_iff.1 hl).1; rw [h.1.needs] at this; exact this
  have hk : k < 6 := by have := (List.getElem?_eq_some_iff.1 hv).1; rw [h.1.need l (List.mem_of_getElem? hl)] at this; exact this
  have e := qin_mid h (i := 31 + (p * 6 + k)) (by omega)
  rw [show 6 + (31 + (p * 6 + k)) = 37 + (p * 6 + k) by omega] at e
  rw [e]
  unfold midOf qrest
  rw [List.getElem?_append_right (by rw [flat_length 4 Und2.cells Und2.len, h.1.ops]; omega), flat_length 4 Und2.cells Und2.len, h.1.ops, List.getElem?_append_right (by unfold bools; rw [List.length_map, h.1.dest]; omega)]
  have e1 : (bools D.dest).length = 7 := by unfold bools; rw [List.length_map, h.1.dest]
  rw [e1, List.getElem?_append_right (by rw [List.length_map, h.1.node]; omega), List.length_map, h.1.node, show 31 + (p * 6 + k) - 4 * 4 - 7 - 8 = p * 6 + k by omega, bools_at Q.needs h.1.need p k l hl hk, hv]
  rfl
/-! What is written. -/
theorem PD.offs (D : PD) {i : Nat} (hi : i < 79) : ∀ r ∈ D.rows, r.off ≠ 6 + i := by
  intro r hr
  simp [PD.rows] at hr
  rcases hr with rfl | rfl | rfl
  · show 4 ≠ _; omega
  · show 85 ≠ _; omega
  · show 86 ≠ _; omega
theorem qc_set (h : PLen D Q) {vD vS vK v : Value} {i : Nat} (hi : i < 79) {D' : PD} {Q' : Pods} (hh : headOf bx S R key D vD = headOf bx S R key D' vD) (hm : (midOf D Q).set i v = midOf D' Q') : (qcells bx S R key D Q vD vS vK).set (6 + i) v = qcells bx S R key D' Q' vD vS vK := by
  unfold qcells
  rw [List.set_append_right _ _ (by simp [headOf])]
  have e : 6 + i - (headOf bx S R key D vD).length = i := by simp [headOf]
  rw [e, List.set_append_left _ _ (by rw [h.mid]; exact hi), hm, hh]
theorem qin_set (h : QIn w F b bx S R key D Q) {i : Nat} (hi : i < 79) (v : Value) {D' : PD} {Q' : Pods} (hl : PLen D' Q') (hh : D'.floor = D.floor) (hm : (midOf D Q).set i v = midOf D' Q') (hr : D'.rows = D.rows) : QIn (w.setCell ⟨b, 6 + i, none⟩ v) F b bx S R key D' Q' := by
  obtain ⟨hl0, vD, vS, vK, h⟩ := h
  refine ⟨hl, vD, vS, vK, (h.set (6 + i) v (D.offs hi)).cast (qc_set hl0 hi ?_ hm) hr.symm⟩
  unfold headOf
  rw [hh]
theorem qset_kept (h : QIn w F b bx S R key D Q) (i : Nat) (v : Value) : Kept F w (w.setCell ⟨b, i, none⟩ v) := (setCell_kept w ⟨b, i, none⟩ v).mono (fun q _ e => by rw [show q = b from e]; exact h.inF)
theorem qin_setFloor (h : QIn w F b bx S R key D Q) (n : Int) : QIn (w.setCell ⟨b, 5, none⟩ (.int .i64 n)) F b bx S R key { D with floor := n } Q := by
  obtain ⟨hl, vD, vS, vK, h⟩ := h
  exact ⟨⟨hl.ops, hl.dest, hl.node, hl.needs, hl.need⟩, vD, vS, vK, (h.set 5 (.int .i64 n) (by simp [PD.rows])).cast rfl rfl⟩
theorem qin_setDest (h : QIn w F b bx S R key D Q) {k : Nat} (hk : k < 7) (v : Bool) : QIn (w.setCell ⟨b, 22 + k, none⟩ (.bool v)) F b bx S R key { D with dest := D.dest.set k v } Q := by
  have hl := h.1
  have q := qin_set h (i := 16 + k) (by omega) (.bool v) (D' := { D with dest := D.dest.set k v }) (Q' := Q) ⟨hl.ops, by simp [hl.dest], hl.node, hl.needs, hl.need⟩ rfl (by
    unfold midOf qrest bools
    rw [List.set_append_right _ _ (by rw [flat_length 4 Und2.cells Und2.len, hl.ops]; omega), flat_length 4 Und2.cells Und2.len, hl.ops, show 16 + k - 4 * 4 = k by omega, List.set_append_left _ _ (by rw [List.length_map, hl.dest]; exact hk), List.map_set]) rfl
  rw [show 6 + (16 + k) = 22 + k by omega] at q
  exact q
theorem qin_setNode (h : QIn w F b bx S R key D Q) {p : Nat} (hp : p < 8) (v : Int) : QIn (w.setCell ⟨b, 29 + p, none⟩ (.int .i64 v)) F b bx S R key D { Q with node := Q.node.set p v } := by
  have hl := h.1
  have q := qin_set h (i := 23 + p) (by omega) (.int .i64 v) (D' := D) (Q' := { Q with node := Q.node.set p v }) ⟨hl.ops, hl.dest, by simp [hl.node], hl.needs, hl.need⟩ rfl (by
    unfold midOf qrest bools
    rw [List.set_append_right _ _ (by rw [flat_length 4 Und2.cells Und2.len, hl.ops]; omega), flat_length 4 Und2.cells Und2.len, hl.ops, List.set_append_right _ _ (by rw [List.length_map, hl.dest]; omega), List.length_map, hl.dest, show 23 + p - 4 * 4 - 7 = p by omega, List.set_append_left _ _ (by rw [List.length_map, hl.node]; exact hp), List.map_set]) rfl
  rw [show 6 + (23 + p) = 29 + p by omega] at q
  exact q
theorem bools_set (l : List (List Bool)) (h : ∀ x ∈ l, x.length = 6) : ∀ (p k : Nat) (x : List Bool) (v : Bool), l[p]? = some x → k < 6 → (l.flatMap bools).set (p * 6 + k) (.bool v) = (l.set p (x.set k v)).flatMap bools := by
  induction l with
  | nil => intro p k x v hx; simp at hx
  | cons y r ih =>
    intro p k x v hx hk
    have hy : (bools y).length = 6 := by unfold bools; rw [List.length_map]; exact h y List.mem_cons_self
    rw [List.flatMap_cons]
    cases p with
    | zero =>
      obtain rfl := (Option.some.inj hx).symm
      rw [List.set_append_left _ _ (by omega), List.set_cons_zero, List.flatMap_cons, Nat.zero_mul, Nat.zero_add]
      unfold bools
      rw [List.map_set]
    | succ p =>
      rw [List.set_append_right _ _ (by omega), hy, show (p + 1) * 6 + k - 6 = p * 6 + k by omega, List.set_cons_succ, List.flatMap_cons, ih (fun z hz => h z (List.mem_cons_of_mem _ hz)) p k x v hx hk]
theorem qin_setNeed (h : QIn w F b bx S R key D Q) {p k : Nat} {l : List Bool} (hp : Q.needs[p]? = some l) (hk : k < 6) (v : Bool) : QIn (w.setCell ⟨b, 37 + (p * 6 + k), none⟩ (.bool v)) F b bx S R key D { Q with needs := Q.needs.set p (l.set k v) } := by
  have hl := h.1
  have hp8 : p < 8 := by have := (List.getElem?_eq_some_iff.1 hp).1; rw [hl.needs] at this; exact this
  have e1 : (bools D.dest).length = 7 := by unfold bools; rw [List.length_map, hl.dest]
  have q := qin_set h (i := 31 + (p * 6 + k)) (by omega) (.bool v) (D' := D) (Q' := { Q with needs := Q.needs.set p (l.set k v) }) ⟨hl.ops, hl.dest, hl.node, by simp [hl.needs], fun x hx => by
      obtain ⟨i, hi⟩ := List.getElem?_of_mem hx
      rcases set_at hi with ⟨_, hi⟩ | ⟨_, rfl⟩
      · exact hl.need x (List.mem_of_getElem? hi)
      · rw [List.length_set]; exact hl.need l (List.mem_of_getElem? hp)⟩ rfl (by
    unfold midOf qrest
    rw [List.set_append_right _ _ (by rw [flat_length 4 Und2.cells Und2.len, hl.ops]; omega), flat_length 4 Und2.cells Und2.len, hl.ops, List.set_append_right _ _ (by rw [e1]; omega), e1, List.set_append_right _ _ (by rw [List.length_map, hl.node]; omega), List.length_map, hl.node, show 31 + (p * 6 + k) - 4 * 4 - 7 - 8 = p * 6 + k by omega, bools_set Q.needs hl.need p k l v hp hk]) rfl
  rw [show 6 + (31 + (p * 6 + k)) = 37 + (p * 6 + k) by omega] at q
  exact q
end Go.Proofs.YtphapknfkbgapaaDoor
namespace Go.Proofs.YtphapknfkbgapaaDoor
open Go.RowKit

/-! The coffer and the player, side by side; G: blocks that neither has. -/

structure SQ (w : World) (G : Nat → Prop) (b bx S : Nat) (R : Int) (key : ByteArray) (X : PS) (D : PD) (Q : Pods) (Fx Fq : Nat → Prop) : Prop where
  x : XIn w Fx bx X
  q : QIn w Fq b bx S R key D Q
  gb : ∀ k, G k → k < w.heap.size
  gx : ∀ k, Fx k → ¬ G k
  gq : ∀ k, Fq k → ¬ G k
  xq : ∀ k, Fx k → ¬ Fq k
  g0 : G 0
  f : Fours w
def JQ (w : World) (G : Nat → Prop) (b bx S : Nat) (R : Int) (key : ByteArray) (X : PS) (D : PD) (Q : Pods) : Prop := ∃ Fx Fq, SQ w G b bx S R key X D Q Fx Fq
theorem fours_of {w w' : World} (h : Fours w) (e : w'.heap[0]? = w.heap[0]?) (os : w'.os = w.os) (out : w'.output = w.output) (sz : w.heap.size ≤ w'.heap.size) : Fours w' :=
  h.later ⟨os, out, sz, fun k hk => by obtain rfl : k = 0 := by omega
                                       exact e⟩
variable {w w' : World} {G : Nat → Prop} {b bx S : Nat} {R : Int} {key : ByteArray} {X X' : PS} {D D' : PD} {Q Q' : Pods}
theorem JQ.low (h : JQ w G b bx S R key X D Q) (k : Low w.heap.size w w') : JQ w' G b bx S R key X D Q := by
  obtain ⟨Fx, Fq, h⟩ := h
  exact ⟨Fx, Fq, h.x.low k, h.q.low k, fun g hg => Nat.lt_of_lt_of_le (h.gb g hg) k.size, h.gx, h.gq, h.xq, h.g0, fours_of h.f (k.block 0 (h.gb 0 h.g0)) k.os k.output k.size⟩
theorem JQ.weak (h : JQ w G b bx S R key X D Q) {G' : Nat → Prop} (hs : ∀ k, G' k → G k) (g0 : G' 0) : JQ w G' b bx S R key X D Q := by
  obtain ⟨Fx, Fq, h⟩ := h
  exact ⟨Fx, Fq, h.x, h.q, fun k hk => h.gb k (hs k hk), fun k hk g => h.gx k hk (hs k g), fun k hk g => h.gq k hk (hs k g), h.xq, g0, h.f⟩
/-- What has come behind the two may be taken among those that they leave alone. -/
theorem JQ.wide (h : JQ w G b bx S R key X D Q) (k : Low w.heap.size w w') : JQ w' (fun i => G i ∨ (w.heap.size ≤ i ∧ i < w'.heap.size)) b bx S R key X D Q := by
  obtain ⟨Fx, Fq, h⟩ := h
  have hx := h.x.below
  have hq := h.q.below
  refine ⟨Fx, Fq, h.x.low k, h.q.low k, fun g hg => ?_, fun i f g => ?_, fun i f g => ?_, h.xq, Or.inl h.g0, fours_of h.f (k.block 0 (h.gb 0 h.g0)) k.os k.output k.size⟩
  · rcases hg with hg | hg
    · exact Nat.lt_of_lt_of_le (h.gb g hg) k.size
    · exact hg.2
  · rcases g with g | g
    · exact h.gx i f g
    · have := hx i f; omega
  · rcases g with g | g
    · exact h.gq i f g
    · have := hq i f; omega
theorem JQ.gb (h : JQ w G b bx S R key X D Q) : ∀ k, G k → k < w.heap.size := by
  obtain ⟨Fx, Fq, h⟩ := h
  exact h.gb
theorem JQ.pos (h : JQ w G b bx S R key X D Q) : 1 ≤ w.heap.size := by
  obtain ⟨Fx, Fq, h⟩ := h
  have := h.gb 0 h.g0
  omega
theorem JQ.f4 (h : JQ w G b bx S R key X D Q) : Fours w := by
  obtain ⟨Fx, Fq, h⟩ := h
  exact h.f
theorem JQ.q (h : JQ w G b bx S R key X D Q) : ∃ Fq, QIn w Fq b bx S R key D Q ∧ (∀ k, Fq k → ¬ G k) := by
  obtain ⟨Fx, Fq, h⟩ := h
  exact ⟨Fq, h.q, h.gq⟩
theorem JQ.callX {f : Nat} {args : List Value} {v : Value} (h : JQ w G b bx S R key X D Q) (hp : PUni f args X v X') :
    Calls Tryd.prog f (.pointer (some ⟨bx, 0, none⟩) :: args).toArray w fun e w' => e = .returned v ∧ JQ w' G b bx S R key X' D Q ∧ Kept (fun k => ¬ G k) w w' := by
  obtain ⟨Fx, Fq, h⟩ := h
  refine (hp w Fx bx h.x h.f (Nat.lt_of_le_of_lt (Nat.zero_le 0) (h.gb 0 h.g0))).mono ?_
  rintro e w' ⟨rfl, F', x', k, hF⟩
  have hq := h.q.below
  have hg := h.gb
  refine ⟨rfl, ⟨F', Fq, x', h.q.kept k (fun i hi g => h.xq i g hi), fun g hg => Nat.lt_of_lt_of_le (h.gb g hg) k.size, fun q f g => ?_, h.gq, fun q f g => ?_, h.g0, fours_of h.f (k.block 0 (h.gb 0 h.g0) (fun f => h.gx 0 f h.g0)) k.os k.output k.size⟩, k.mono (fun i _ f g => h.gx i f g)⟩
  · rcases hF q f with e | e
    · exact h.gx q e g
    · have := hg q g; omega
  · rcases hF q f with e | e
    · exact h.xq q e g
    · have := hq q g; omega
/-- Nothing of pods, nothing of what was told. -/
def Still (D D' : PD) : Prop := D'.pods = D.pods ∧ D'.seen = D.seen
/-- The player's own cells are written. -/
theorem JQ.write (h : JQ w G b bx S R key X D Q) (hw : ∀ Fq, QIn w Fq b bx S R key D Q → (∀ k, Fq k → ¬ G k) → ∃ Fq', QIn w' Fq' b bx S R key D' Q' ∧ Kept Fq w w' ∧ ∀ k, Fq' k → Fq k ∨ w.heap.size ≤ k) : JQ w' G b bx S R key X D' Q' ∧ Kept (fun k => ¬ G k) w w' := by
  obtain ⟨Fx, Fq, h⟩ := h
  obtain ⟨Fq', q', k, hF⟩ := hw Fq h.q h.gq
  have hx := h.x.below
  have hg := h.gb
  refine ⟨⟨Fx, Fq', h.x.kept k (fun i hi g => h.xq i hi g), q', fun g hg => Nat.lt_of_lt_of_le (h.gb g hg) k.size, h.gx, fun i f g => ?_, fun i f g => ?_, h.g0, fours_of h.f (k.block 0 (h.gb 0 h.g0) (fun f => h.gq 0 f h.g0)) k.os k.output k.size⟩, k.mono (fun i _ f g => h.gq i f g)⟩
  · rcases hF i f with e | e
    · exact h.gq i e g
    · have := hg i g; omega
  · rcases hF i g with e | e
    · exact h.xq i f e
    · have := hx i f; omega
/-! Lists of the player's grow; an operation is written whole. -/
theorem qin_rowD {F : Nat → Prop} (h : QIn w F b bx S R key D Q) : ∃ a cap, w.cell? ⟨b, 4, none⟩ = some (.slice a D.deeds.length cap) ∧ w.ownsRow 0 43 3 (.slice a D.deeds.length cap) D.deeds.length (D.deeds.flatMap Dd.cells) ∧ (Value.slice a D.deeds.length cap).ownBlock ≠ some b ∧ ∀ k, (Value.slice a D.deeds.length cap).ownBlock = some k → F k := by
  obtain ⟨hl, vD, vS, vK, hO⟩ := h
  obtain ⟨v, hv, ho, hF⟩ := hO.row 0 rfl
  have hn := hO.apart 0 rfl hv
  obtain ⟨a, cap, rfl, _, _⟩ := ownsRow_view ho
  exact ⟨a, cap, by rw [hO.cell]; exact hv, ho, hn, hF⟩
theorem qoffs (D : PD) (j : Nat) {r : Row} (hj : D.rows[j]? = some r) : ∀ i s, D.rows[i]? = some s → i ≠ j → s.off ≠ r.off := by
  intro i s hi hne e
  have hm : D.rows.map Row.off = [4, 85, 86] := rfl
  have a1 : ([4, 85, 86] : List Nat)[i]? = some s.off := by rw [← hm, List.getElem?_map, hi]; rfl
  have a2 : ([4, 85, 86] : List Nat)[j]? = some r.off := by rw [← hm, List.getElem?_map, hj]; rfl
  rw [e] at a1
  exact hne ((List.getElem?_inj (List.getElem?_eq_some_iff.1 a1).1 (by decide)).1 (a1.trans a2.symm))
theorem qin_appD {F : Nat → Prop} {w1 : World} {v v' : Value} {o : Obj} (h : QIn w F b bx S R key D Q) (hv : w.cell? ⟨b, 4, none⟩ = some v) (k : Kept (fun q => v.ownBlock = some q) (w.alloc o) w1) (d : Dd) (ho : w1.ownsRow 0 43 3 v' (D.deeds.length + 1) (D.deeds.flatMap Dd.cells ++ d.cells)) (P : v'.ownBlock = v.ownBlock ∨ v'.ownBlock = some (w.alloc o).heap.size) :
    QIn (w1.setCell ⟨b, 4, none⟩ v') (grow F w (w1.setCell ⟨b, 4, none⟩ v')) b bx S R key { D with deeds := D.deeds ++ [d] } Q ∧ Kept F w (w1.setCell ⟨b, 4, none⟩ v') := by
  obtain ⟨hl, vD, vS, vK, hO⟩ := h
  obtain rfl : vD = v := Option.some.inj ((hO.cell 4).symm.trans hv)
  obtain ⟨q1, q2⟩ := hO.appended (Low.refl _ w) 0 rfl rfl k ho P (qoffs D 0 rfl)
  exact ⟨⟨⟨hl.ops, hl.dest, hl.node, hl.needs, hl.need⟩, v', vS, vK, q1.cast rfl (by simp [PD.rows])⟩, q2⟩
theorem Own.sets {F : Nat → Prop} {t : TypeId} {R : List Row} : ∀ (vs : List Value) (o : Nat) {w : World} {C : List Value}, Own w F b t C R → (∀ r ∈ R, r.off < o ∨ o + vs.length ≤ r.off) → Own (w.setCells b o vs) F b t (over C o vs) R
  | [], _, _, _, h, _ => h
  | v :: r, o, _, _, h, hr => Own.sets r (o + 1) (h.set o v (fun x hx e => by have := hr x hx; simp at this; omega)) (fun x hx => by have := hr x hx; simp at this; omega)
theorem over_right (hd cs : List Value) : ∀ (vs : List Value) (o : Nat), over (hd ++ cs) (hd.length + o) vs = hd ++ over cs o vs := by
  intro vs
  induction vs generalizing cs with
  | nil => intro o; rfl
  | cons v r ih =>
    intro o
    show over ((hd ++ cs).set (hd.length + o) v) (hd.length + o + 1) r = hd ++ over (cs.set o v) (o + 1) r
    rw [List.set_append_right _ _ (by omega), show hd.length + o - hd.length = o by omega, show hd.length + o + 1 = hd.length + (o + 1) by omega]
    exact ih (cs.set o v) (o + 1)
theorem over_left (cs tl : List Value) : ∀ (vs : List Value) (o : Nat), o + vs.length ≤ cs.length → over (cs ++ tl) o vs = over cs o vs ++ tl := by
  intro vs
  induction vs generalizing cs with
  | nil => intro o _; rfl
  | cons v r ih =>
    intro o ho
    show over ((cs ++ tl).set o v) (o + 1) r = over (cs.set o v) (o + 1) r ++ tl
    simp at ho
    rw [List.set_append_left _ _ (by omega)]
    exact ih (cs.set o v) (o + 1) (by simp; omega)
theorem qin_setOp {F : Nat → Prop} (h : QIn w F b bx S R key D Q) {s : Nat} (hs : s < 4) (u : Und2) : QIn (w.setCells b (6 + s * 4) u.cells) F b bx S R key { D with ops := D.ops.set s u } Q ∧ Kept F w (w.setCells b (6 + s * 4) u.cells) ∧ w.there b (6 + s * 4) 4 := by
  obtain ⟨hl, vD, vS, vK, hO⟩ := h
  have hk : Kept F w (w.setCells b (6 + s * 4) u.cells) := (setCells_kept b u.cells (6 + s * 4) w).mono (fun q _ e => by rw [show q = b from e]; exact hO.inF)
  have e : over (qcells bx S R key D Q vD vS vK) (6 + s * 4) u.cells = qcells bx S R key { D with ops := D.ops.set s u } Q vD vS vK := by
    unfold qcells
    have e1 := over_right (headOf bx S R key D vD) (midOf D Q ++ [vS, vK]) u.cells (s * 4)
    have e2 : (headOf bx S R key D vD).length = 6 := rfl
    rw [e2] at e1
    rw [e1, over_left (midOf D Q) [vS, vK] u.cells (s * 4) (by rw [hl.mid, Und2.len]; omega)]
    have e3 : over (midOf D Q) (s * 4) u.cells = midOf { D with ops := D.ops.set s u } Q := by
      unfold midOf
      rw [over_left _ _ u.cells (s * 4) (by rw [flat_length 4 Und2.cells Und2.len, hl.ops, Und2.len]; omega), flat_set 4 Und2.cells Und2.len D.ops s u (by rw [hl.ops]; exact hs)]
      rfl
    rw [e3]
    rfl
  refine ⟨⟨⟨by simp [hl.ops], hl.dest, hl.node, hl.needs, hl.need⟩, vD, vS, vK, (Own.sets u.cells (6 + s * 4) hO ?_).cast e rfl⟩, hk, ?_⟩
  · intro r hr
    simp [PD.rows] at hr
    rw [Und2.len]
    rcases hr with rfl | rfl | rfl
    · left; show 4 < _; omega
    · right; show _ ≤ 85; omega
    · right; show _ ≤ 86; omega
  · refine hO.blk.there ?_
    unfold qcells
    rw [List.length_append, List.length_append, hl.mid]
    show 6 + s * 4 + 4 ≤ 6 + (79 + 2)
    omega
end Go.Proofs.YtphapknfkbgapaaDoor
namespace Go.Proofs.YtphapknfkbgapaaDoor
open Go.RowKit

/-! The player's small functions. -/

variable {F : Nat → Prop} {b bx S : Nat} {R : Int} {key : ByteArray} {D : PD} {Q : Pods}
theorem szD (e : Dd) : (Tryd.prog.info? 43).map (·.size) = some e.cells.length := show _ = some 3 by kernel_rfl
theorem szU (e : Und2) : (Tryd.prog.info? 45).map (·.size) = some e.cells.length := show _ = some 4 by kernel_rfl
theorem infoD : (Tryd.prog.info? 43).map (fun i => (i.zero, i.size, i.bytes)) = some (some (.agg #[.string ⟨#[]⟩, .string ⟨#[]⟩, .bool false]), 3, 40) := by kernel_rfl
theorem ldD {ops : Array Oper} {rest : List Oper} {d : Option Tmp} {t0 : TypeId} {pos : String} {after : Array Edge} {a : Act} {w : World} {Q : Exit → Act → World → Prop} (x : Operand) (b o : Nat) (e : Dd)
    (hx : a.eval x = .pointer (some ⟨b, o, none⟩)) (hc : w.rangeAt b o e.cells) (h : wpList Tryd.prog ops Q rest (a.put d (.agg e.cells.toArray)) w) :
    wpList Tryd.prog ops Q ({ dst := d, op := .load 43 x, type := t0, pos := pos, after := after, guard := none } :: rest) a w :=
  ldAny 43 x b o e.cells _ hx hc Tryd.underlying43 rfl (szD e) h
theorem stD {ops : Array Oper} {rest : List Oper} {d : Option Tmp} {t0 : TypeId} {pos : String} {after : Array Edge} {a : Act} {w : World} {Q : Exit → Act → World → Prop} (x y : Operand) (b : Nat) (old e : Dd)
    (hx : a.eval x = .pointer (some ⟨b, 0, none⟩)) (hy : a.eval y = .agg e.cells.toArray) (hB : Blk w b 43 old.cells)
    (h : ∀ w', Blk w' b 43 e.cells → Kept (fun k => k = b) w w' → w'.heap.size = w.heap.size → wpList Tryd.prog ops Q rest (a.put d undef) w') :
    wpList Tryd.prog ops Q ({ dst := d, op := .store 43 x y, type := t0, pos := pos, after := after, guard := none } :: rest) a w :=
  stBlk 43 x y b 43 old.cells e.cells hx hy hB rfl (szD e) e.one h
theorem ldU {ops : Array Oper} {rest : List Oper} {d : Option Tmp} {t0 : TypeId} {pos : String} {after : Array Edge} {a : Act} {w : World} {Q : Exit → Act → World → Prop} (x : Operand) (b o : Nat) (e : Und2)
    (hx : a.eval x = .pointer (some ⟨b, o, none⟩)) (hc : w.rangeAt b o e.cells) (h : wpList Tryd.prog ops Q rest (a.put d (.agg e.cells.toArray)) w) :
    wpList Tryd.prog ops Q ({ dst := d, op := .load 45 x, type := t0, pos := pos, after := after, guard := none } :: rest) a w :=
  ldAny 45 x b o e.cells _ hx hc Tryd.underlying45 rfl (szU e) h
theorem stUB {ops : Array Oper} {rest : List Oper} {d : Option Tmp} {t0 : TypeId} {pos : String} {after : Array Edge} {a : Act} {w : World} {Q : Exit → Act → World → Prop} (x y : Operand) (b : Nat) (old e : Und2)
    (hx : a.eval x = .pointer (some ⟨b, 0, none⟩)) (hy : a.eval y = .agg e.cells.toArray) (hB : Blk w b 45 old.cells)
    (h : ∀ w', Blk w' b 45 e.cells → Kept (fun k => k = b) w w' → w'.heap.size = w.heap.size → wpList Tryd.prog ops Q rest (a.put d undef) w') :
    wpList Tryd.prog ops Q ({ dst := d, op := .store 45 x y, type := t0, pos := pos, after := after, guard := none } :: rest) a w :=
  stBlk 45 x y b 45 old.cells e.cells hx hy hB rfl (szU e) e.one h
theorem stU {ops : Array Oper} {rest : List Oper} {d : Option Tmp} {t0 : TypeId} {pos : String} {after : Array Edge} {a : Act} {w : World} {Q : Exit → Act → World → Prop} (x y : Operand) (g o : Nat) (u : Und2)
    (hx : a.eval x = .pointer (some ⟨g, o, none⟩)) (hy : a.eval y = .agg u.cells.toArray) (ht : w.there g o 4)
    (h : wpList Tryd.prog ops Q rest (a.put d undef) (w.setCells g o u.cells)) :
    wpList Tryd.prog ops Q ({ dst := d, op := .store 45 x y, type := t0, pos := pos, after := after, guard := none } :: rest) a w :=
  stAny 45 x y g o u.cells hx hy ht (szU u) u.one h
theorem pick_in (w : World) (c n : Int) (h0 : 0 ≤ c) (h1 : c < n) :
    Calls Tryd.prog 18 #[.int .i64 c, .int .i64 n] w fun e w' => e = .returned (.int .i64 c) ∧ w' = w := by
  have q : decide (c < 0) = false := by simp; omega
  go_enter Tryd.func18, Tryd.ntmps18
  go_wp2
  go_ret
  refine ⟨?_, rfl⟩
  simp [Int.emod_eq_of_lt h0 h1]
theorem pick_some (c n : Int) (w : World) (n0 : 0 < n) (n1 : n ≤ 1000000000000) (c0 : -9223372036854775808 ≤ c) (c1 : c ≤ 9223372036854775807) :
    Calls Tryd.prog 18 #[.int .i64 c, .int .i64 n] w fun e w' => ∃ r : Nat, e = .returned (.int .i64 (r : Int)) ∧ (r : Int) < n ∧ w' = w := by
  by_cases h : c < 0
  · go_enter Tryd.func18, Tryd.ntmps18
    go_wp2
    go_ret
    have hn : 0 ≤ (-(c + 1)).tmod n := by rw [Int.tmod_eq_emod_of_nonneg (by omega)]; exact Int.emod_nonneg _ (by omega)
    have hl : (-(c + 1)).tmod n < n := by rw [Int.tmod_eq_emod_of_nonneg (by omega)]; exact Int.emod_lt_of_pos _ n0
    refine ⟨((-(c + 1)).tmod n).toNat, ?_, by omega, rfl⟩
    rw [Int.toNat_of_nonneg hn]
    simp
  · go_enter Tryd.func18, Tryd.ntmps18
    go_wp2
    go_ret
    have hn : 0 ≤ c % n := Int.emod_nonneg _ (by omega)
    have hl : c % n < n := Int.emod_lt_of_pos _ n0
    refine ⟨(c % n).toNat, ?_, by omega, rfl⟩
    rw [Int.toNat_of_nonneg hn]
    rfl
theorem name_any (w : World) (k : Nat) (hk : k < 6) : Calls Tryd.prog 44 #[.int .i64 (k : Int)] w fun e w' => e = .returned (.string (nameOf k)) ∧ w' = w := by
  have : k = 0 ∨ k = 1 ∨ k = 2 ∨ k = 3 ∨ k = 4 ∨ k = 5 := by omega
  rcases this with rfl | rfl | rfl | rfl | rfl | rfl
  all_goals
    go_enter Tryd.func44, Tryd.ntmps44
    go_wp2_with (go_at_call 18; refine (pick_in _ _ _ (by decide) (by decide)).mono ?_; rintro e y1 ⟨rfl, hy⟩; obtain rfl := hy.symm)
    go_ret
    exact ⟨rfl, rfl⟩
end Go.Proofs.YtphapknfkbgapaaDoor
namespace Go.Proofs.YtphapknfkbgapaaDoor
open Go.RowKit

variable {F : Nat → Prop} {b bx S : Nat} {R : Int} {key : ByteArray} {D : PD} {Q : Pods}

/-! newest, read. -/
set_option maxRecDepth 100000 in
set_option maxHeartbeats 1000000 in
theorem newestD_any (w : World) (p : ByteArray) (rev : Nat) (h : QIn w F b bx S R key D Q) (hr : rev ≤ D.deeds.length) (hn : D.deeds.length ≤ 1000000000) :
    Calls Tryd.prog 45 #[.pointer (some ⟨b, 0, none⟩), .string p, .int .i64 (rev : Int)] w fun e w' => ∃ (r : Nat) (d : Dd), e = .returned (.tuple #[.agg #[.string d.path, .string d.text, .bool d.gone], .int .i64 (r : Int)]) ∧ NewD (D.deeds.take rev) p r d ∧ Low w.heap.size w w' := by
  have HR := hid h
  clear h
  go_enter Tryd.func45, Tryd.ntmps45
  go_wp2_with fail
  go_loopg [8] rev (fun left iv wr => ∃ i : Nat, left = i ∧ i ≤ rev ∧ iv = .int .i64 (i : Int) ∧ Hid (∀ (k : Nat) (c : Dd), i ≤ k → (D.deeds.take rev)[k]? = some c → c.path ≠ p) ∧ Hid (Low w.heap.size w wr ∧ Blk wr w.heap.size 43 Dd.zero.cells))
  case atStart => exact ⟨rev, rfl, Nat.le_refl _, rfl, (fun k c hk hc => by have := (take_at hc).1; omega), (Low.refl _ w).alloc (Nat.le_refl _) _, Blk.new w 43 Dd.zero.cells⟩
  case round =>
    obtain ⟨i, hgk, hi, rfl, HI, HL⟩ := hrel
    have HGK := hid hgk
    clear hgk
    have R1 : Hid (QIn wr F b bx S R key D Q) := HR.out.low HL.out.1
    have lb := R1.out.lt
    cases i with
    | zero =>
      have q1 : decide ((1 : Int) ≤ ((0 : Nat) : Int)) = false := by decide
      go_wp2_with ((with_reducible refine stD (.tmp 6) (.tmp 34) w.heap.size Dd.zero Dd.zero ?_ ?_ HL.out.2 ?_); rfl; rfl; intro w1 b1 k1 s1; have B1 := hid b1; have K1 := hid k1; clear b1 k1 s1)
      (try simp only [Exit.inBlock, Exit.then])
      refine bodyPost_ret (results_cell_tmp rfl w.heap.size Dd.zero.cells _ rfl B1.out.whole Tryd.underlying43 rfl (szD _)) rfl ?_
      exact ⟨0, Dd.zero, rfl, Or.inl ⟨rfl, rfl, fun k c hc => HI.out k c (Nat.zero_le _) hc⟩, low_set HL.out.1 K1.out (Nat.le_refl _) HL.out.1.size⟩
    | succ m =>
      have q1 : decide ((1 : Int) ≤ ((m + 1 : Nat) : Int)) = true := by simp; omega
      obtain ⟨c, hc⟩ : ∃ c, D.deeds[m]? = some c := ⟨_, List.getElem?_eq_getElem (by omega)⟩
      obtain ⟨a4, cap4, hc4, hel⟩ := qin_deeds R1.out
      rw [List.length_map] at hc4
      obtain ⟨g, rfl, hg, hcs, _⟩ := hel m c.cells (by rw [List.getElem?_map, hc]; rfl)
      have c0 : wr.cell? ⟨g, m * 3, none⟩ = some (.string c.path) := hcs 0 (by omega)
      have HC : Hid (wr.rangeAt g (m * 3) c.cells) := range_of hcs (fun _ _ e => ⟨(List.getElem?_eq_some_iff.1 e).1, e⟩)
      have ml : (m : Int) < (D.deeds.length : Int) := by omega
      have mx : ((m + 1 : Nat) : Int) - 1 = (m : Int) := by omega
      have HCC := hid hc
      clear hcs hel hc
      cases qp : (c.path.toList == p.toList)
      · go_wp2_with fail
        go_roundg m
        case rel =>
          refine ⟨m, rfl, by omega, ?_, (fun k x hk hx => ?_), HL.out⟩
          · simp
          · by_cases e : k = m
            · subst e
              obtain ⟨_, hx2⟩ := take_at hx
              obtain rfl := Option.some.inj (HCC.out.symm.trans hx2)
              intro e2
              rw [e2] at qp
              simp at qp
            · exact HI.out k x (by omega) hx
        case measure => have := HGK.out; omega
      · go_wp2_with (first | ((with_reducible refine ldD (.tmp 31) g (m * 3) c ?_ HC.out ?_); rfl) | ((with_reducible refine stD (.tmp 6) (.tmp 32) w.heap.size Dd.zero c ?_ ?_ HL.out.2 ?_); rfl; rfl; intro w1 b1 k1 s1; have B1 := hid b1; have K1 := hid k1; clear b1 k1 s1))
        (try simp only [Exit.inBlock, Exit.then])
        refine bodyPost_ret (results_cell_tmp rfl w.heap.size c.cells _ rfl B1.out.whole Tryd.underlying43 rfl (szD _)) rfl ?_
        exact ⟨m + 1, c, rfl, Or.inr ⟨m, rfl, take_of HCC.out (by omega), path_beq.1 qp, fun k x hk hx => HI.out k x (by omega) hx⟩, low_set HL.out.1 K1.out (Nat.le_refl _) HL.out.1.size⟩
end Go.Proofs.YtphapknfkbgapaaDoor
namespace Go.Proofs.YtphapknfkbgapaaDoor
open Go.RowKit

variable {F : Nat → Prop} {b bx S : Nat} {R : Int} {key : ByteArray} {D : PD} {Q : Pods}

theorem tells_cases {text : ByteArray} {n e : Int} {r : Nat} {d : Dd} (hv : (text, n, e) = tells r d) : (r = 0 ∧ text = ⟨#[]⟩ ∧ n = 0 ∧ e = 12) ∨ (r ≠ 0 ∧ d.gone = true ∧ text = ⟨#[]⟩ ∧ n = 0 ∧ e = 12) ∨ (r ≠ 0 ∧ d.gone = false ∧ text = d.text ∧ n = (r : Int) ∧ e = 0) := by
  unfold tells at hv
  by_cases h0 : r = 0
  · subst h0
    have e1 : (((0 : Nat) == 0) || d.gone) = true := by simp
    rw [e1] at hv
    simp at hv
    exact Or.inl ⟨rfl, hv⟩
  · have hb : (r == 0) = false := by simpa using h0
    rw [hb, Bool.false_or] at hv
    cases hg : d.gone
    · rw [hg] at hv
      simp at hv
      exact Or.inr (Or.inr ⟨h0, rfl, hv⟩)
    · rw [hg] at hv
      simp at hv
      exact Or.inr (Or.inl ⟨h0, rfl, hv⟩)
set_option maxRecDepth 100000 in
set_option maxHeartbeats 1000000 in
theorem read_true (w : World) (text path : ByteArray) (n e : Int) (rev : Nat) (h : QIn w F b bx S R key D Q) (hr : rev ≤ D.deeds.length) (hn : D.deeds.length ≤ 1000000000) {r : Nat} {d : Dd} (hN : NewD (D.deeds.take rev) path r d) (hv : (text, n, e) = tells r d ∨ (text = ⟨#[]⟩ ∧ n = 0 ∧ e = 6)) :
    Calls Tryd.prog 98 #[.pointer (some ⟨b, 0, none⟩), .string text, .int .i64 n, .int .i64 e, .string path, .int .i64 (rev : Int)] w fun x w' => x = .returned (.bool true) ∧ Low w.heap.size w w' := by
  have HR := hid h
  have HN := hid hN
  have HV : Hid ((r = 0 ∧ text = ⟨#[]⟩ ∧ n = 0 ∧ e = 12) ∨ (r ≠ 0 ∧ d.gone = true ∧ text = ⟨#[]⟩ ∧ n = 0 ∧ e = 12) ∨ (r ≠ 0 ∧ d.gone = false ∧ text = d.text ∧ n = (r : Int) ∧ e = 0) ∨ (text = ⟨#[]⟩ ∧ n = 0 ∧ e = 6)) := by
    show _ ∨ _
    rcases hv with hv | hv
    · rcases tells_cases hv with q | q | q
      · exact Or.inl q
      · exact Or.inr (Or.inl q)
      · exact Or.inr (Or.inr (Or.inl q))
    · exact Or.inr (Or.inr (Or.inr hv))
  clear h hN hv
  go_enter Tryd.func98, Tryd.ntmps98
  go_upto_region 2 with (first | (go_at_call 45; refine (newestD_any _ path rev HR.out hr hn).mono ?_; rintro x y1 ⟨r1, d1, rfl, hN1, l1⟩; have L1 := hid l1; have HN1 := hid hN1; clear l1 hN1) | ((with_reducible refine stD (.tmp 13) (.tmp 21) y1.heap.size Dd.zero d1 ?_ ?_ ?_ ?_); rfl; rfl; exact (Blk.new y1 43 Dd.zero.cells); intro W b2 k2 s2; have m1 : W.cell? ⟨y1.heap.size, 1, none⟩ = some (.string d1.text) := b2.cell 1; have m2 : W.cell? ⟨y1.heap.size, 2, none⟩ = some (.bool d1.gone) := b2.cell 2; have LW : Hid (Low w.heap.size w W) := low_set (L1.out.alloc L1.out.size _) k2 L1.out.size (by have := L1.out.size; simp; omega); clear b2 k2 s2))
  obtain ⟨e1, e2⟩ := newD_unique HN1.out HN.out
  subst e1
  subst e2
  rcases HV.out with ⟨h0, rfl, rfl, rfl⟩ | ⟨h0, hg, rfl, rfl, rfl⟩ | ⟨h0, hg, rfl, rfl, rfl⟩ | ⟨rfl, rfl, rfl⟩
  · have q1 : decide ((0 : Int) < (r1 : Int)) = false := by rw [h0]; decide
    clear HV
    go_wp2_with fail
    go_ret
    exact ⟨rfl, LW.out⟩
  · have q1 : decide ((0 : Int) < (r1 : Int)) = true := by simp; omega
    rw [hg] at m2
    clear HV
    go_wp2_with fail
    go_ret
    exact ⟨rfl, LW.out⟩
  · have q1 : decide ((0 : Int) < (r1 : Int)) = true := by simp; omega
    rw [hg] at m2
    clear HV
    go_wp2_with fail
    go_ret
    refine ⟨?_, LW.out⟩
    simp
  · clear HV
    by_cases h0 : r1 = 0
    · have q1 : decide ((0 : Int) < (r1 : Int)) = false := by rw [h0]; decide
      go_wp2_with fail
      go_ret
      exact ⟨rfl, LW.out⟩
    · have q1 : decide ((0 : Int) < (r1 : Int)) = true := by simp; omega
      cases hg : d1.gone
      · rw [hg] at m2
        go_wp2_with fail
        go_ret
        exact ⟨rfl, LW.out⟩
      · rw [hg] at m2
        go_wp2_with fail
        go_ret
        exact ⟨rfl, LW.out⟩
end Go.Proofs.YtphapknfkbgapaaDoor
namespace Go.Proofs.YtphapknfkbgapaaDoor
open Go.RowKit

variable {G : Nat → Prop} {b bx S n : Nat} {R : Int} {key : ByteArray} {X : PS} {D : PD} {Q : Pods}

/-! commit. -/
theorem qin_opRange {w : World} {F : Nat → Prop} (h : QIn w F b bx S R key D Q) {s : Nat} {u : Und2} (hu : D.ops[s]? = some u) : w.rangeAt b (6 + s * 4) u.cells := fun j v e => by
  have hj : j < 4 := (List.getElem?_eq_some_iff.1 e).1
  have := qin_op h hu hj
  rw [show 6 + (s * 4 + j) = 6 + s * 4 + j by omega] at this
  rw [this]; exact e
theorem JQ.setOp {w : World} (h : JQ w G b bx S R key X D Q) {s : Nat} (hs : s < 4) (u : Und2) : JQ (w.setCells b (6 + s * 4) u.cells) G b bx S R key X { D with ops := D.ops.set s u } Q ∧ Kept (fun k => ¬ G k) w (w.setCells b (6 + s * 4) u.cells) :=
  h.write (fun Fq q _ => by
    obtain ⟨a, c, _⟩ := qin_setOp q hs u
    exact ⟨Fq, a, c, fun _ f => Or.inl f⟩)
theorem JQ.there {w : World} (h : JQ w G b bx S R key X D Q) {s : Nat} (hs : s < 4) : w.there b (6 + s * 4) 4 := by
  obtain ⟨Fq, q, _⟩ := h.q
  exact (qin_setOp q hs Und2.zero).2.2
/-- What commit leaves. -/
def CommitPost (N : ByteArray → Prop) (n : Nat) (X' : PS) (D D' : PD) (S : Nat) (R : Int) (s : Nat) : Prop :=
  Kn N (n + 1) X' D' S R ∧ ∃ v, D.ops[s]? = some v ∧ (D' = { D with ops := D.ops.set s Und2.zero } ∨ (v.on = true ∧ D' = { D with ops := D.ops.set s Und2.zero, deeds := D.deeds ++ [v.deed] }))
/-- A commit that cannot be refused. -/
def CommitSure (X : PS) (D : PD) (s : Nat) : Prop := (∃ p, X.servers[s]? = some p ∧ p.busy = true ∧ p.epoch = X.epoch ∧ p.rev = -1 ∧ p.e.gone = false ∧ (X.entries.length : Int) < X.room) ∧ ∃ v, D.ops[s]? = some v ∧ v.on = true
set_option maxRecDepth 100000 in
set_option maxHeartbeats 2000000 in
theorem commitQ (w : World) (h : JQ w G b bx S R key X D Q) (k : Kn IsName n X D S R) (hn : n ≤ 40000000) {s : Nat} (hs : s < S) (hS : S ≤ 4) (hd : D.deeds.length ≤ 100000000) :
    Calls Tryd.prog 24 #[.pointer (some ⟨b, 0, none⟩), .int .i64 (s : Int)] w fun e w' => e = .returned (.bool true) ∧ ∃ X' D', JQ w' G b bx S R key X' D' Q ∧ CommitPost IsName n X' D D' S R s ∧ Kept (fun k => ¬ G k) w w' ∧
      SeenKept X X' ∧ (CommitSure X D s → D'.deeds.length = D.deeds.length + 1) := by
  obtain ⟨m, er, X', hP, hsk, hfr, v, hv, hcases⟩ := kn_commit k (by omega) hs
  obtain ⟨Fq, hq, _⟩ := h.q
  have c0 := qin_ptr hq
  have lb := hq.lt
  have HJ := hid h
  have HP := hid hP
  have HV := hid hv
  have HC := hid hcases
  have HFR := hid hfr
  have HSK := hid hsk
  have s4 : s < 4 := by omega
  have s4i : (s : Int) < 4 := by omega
  clear h k hP hcases hfr hsk hq hv
  go_enter Tryd.func24, Tryd.ntmps24
  go_upto_region 2 with (go_at_call 50; refine (HJ.out.callX HP.out).mono ?_; rintro e y1 ⟨rfl, j1, k1⟩; have J1 := hid j1; have K1 := hid k1; clear j1 k1)
  obtain ⟨Fq1, hq1, hG1⟩ := J1.out.q
  have HRG : Hid (y1.rangeAt b (6 + s * 4) v.cells) := qin_opRange hq1 HV.out
  have lb1 := hq1.lt
  clear c0 lb
  go_upto_region 3 with (first | ((with_reducible refine ldU (.tmp 21) b (6 + s * 4) v ?_ HRG.out ?_); rfl) | ((with_reducible refine stUB (.tmp 7) (.tmp 22) y1.heap.size Und2.zero v ?_ ?_ ?_ ?_); rfl; rfl; exact (Blk.new y1 45 Und2.zero.cells); intro W b2 k2 s2; have B2 := hid b2; have LW : Hid (Low y1.heap.size y1 W) := low_set ((Low.refl _ y1).alloc (Nat.le_refl _) _) k2 (Nat.le_refl _) (by simp); clear b2 k2 s2))
  have JW : Hid (JQ W G b bx S R key X' D Q) := J1.out.low LW.out
  have HT : Hid (W.there b (6 + s * 4) 4) := JW.out.there s4
  have lbW : b < W.heap.size := Nat.lt_of_lt_of_le lb1 LW.out.size
  go_upto_region 4 with ((with_reducible refine stU (.tmp 28) (.tmp 25) b (6 + s * 4) Und2.zero ?_ ?_ HT.out ?_); rfl; rfl)
  go_name_world V hV
  have JV : Hid (JQ V G b bx S R key X' { D with ops := D.ops.set s Und2.zero } Q) := by
    show JQ V _ _ _ _ _ _ _ _ _
    rw [← hV]; exact (JW.out.setOp s4 Und2.zero).1
  have KV : Hid (Kept (fun k => ¬ G k) w V) := by
    show Kept _ w V
    rw [← hV]
    exact ((K1.out.trans LW.out.kept (H := fun k => ¬ G k) (fun _ f => f) (fun _ _ f => f.elim)).trans (JW.out.setOp s4 Und2.zero).2 (fun _ f => f) (fun _ _ f => f))
  have nb : y1.heap.size ≠ b := by omega
  have BV : Hid (Blk V y1.heap.size 45 v.cells) := by
    show Blk V _ _ _
    rw [← hV]; exact B2.out.kept (setCells_kept b Und2.zero.cells (6 + s * 4) W) nb
  have u0 : V.cell? ⟨y1.heap.size, 0, none⟩ = some (.bool v.on) := BV.out.cell 0
  have u1 : V.cell? ⟨y1.heap.size, 1, none⟩ = some (.string v.deed.path) := BV.out.cell 1
  have u2 : V.cell? ⟨y1.heap.size, 2, none⟩ = some (.string v.deed.text) := BV.out.cell 2
  have u3 : V.cell? ⟨y1.heap.size, 3, none⟩ = some (.bool v.deed.gone) := BV.out.cell 3
  have lN := BV.out.lt
  clear hV
  rcases HC.out with ⟨on, rfl, rfl, hk⟩ | ⟨on, rfl, rfl, hk⟩ | ⟨on, rfl, her, hk⟩
  · rw [on] at u0
    have HK := hid hk
    clear hk HC
    go_wp2_with fail
    go_ret
    refine ⟨rfl, X', _, JV.out, ⟨HK.out, v, HV.out, Or.inl rfl⟩, KV.out, HSK.out, fun hv2 => ?_⟩
    obtain ⟨_, v2, a, c⟩ := hv2
    obtain rfl := Option.some.inj (a.symm.trans HV.out)
    rw [on] at c
    cases c
  · rw [on] at u0
    have HK := hid hk
    obtain ⟨Fq2, hq2, hG2⟩ := JV.out.q
    obtain ⟨a4, cap4, d4, o4, n4, f4⟩ := qin_rowD hq2
    have d4 : V.cell? ⟨b, 4, none⟩ = some (.slice a4 D.deeds.length cap4) := d4
    have o4 : V.ownsRow 0 43 3 (.slice a4 D.deeds.length cap4) D.deeds.length (D.deeds.flatMap Dd.cells) := o4
    have lbV := hq2.lt
    have O4 := hid o4
    have N4 := hid n4
    have C4 := hid d4
    have F4 := hid (hq2.frozen 4)
    have LB := hid lbV
    have HQ2 := hid hq2
    clear hk HC o4 n4 hq2
    go_upto_region 7 with fail
    go_region_law ((refine step_append_mine _ rfl (.tmp 44) (.tmp 47) 41 rfl 43 _ 3 40 Tryd.underlying41 infoD rfl (by omega) (.slice a4 D.deeds.length cap4) D.deeds.length (D.deeds.flatMap Dd.cells) ?_ ?_ ⟨V.heap.size, 0, none⟩ 1 1 v.deed.cells ?_ rfl ?_ (Dd.one _) ⟨by omega, by omega⟩ ?_; rfl; exact (World.ownsRow.alloc (w := V) O4.out _); rfl; exact (news_new V v.deed.cells 43); intro v' w1 o1 k1 p1; obtain ⟨a', cap', rfl, _, _⟩ := ownsRow_view o1; have O1 := hid o1; have K2 := hid k1.of_drew; have P1 := hid p1; have c4w := kept_cell K2.out LB.out N4.out C4.out; have f4w := kept_frozen K2.out LB.out N4.out F4.out; clear o1 k1 p1))
    all_goals go_wp2_with fail
    all_goals go_ret
    all_goals
      obtain ⟨r1, r2⟩ := JV.out.write (D' := { D with ops := D.ops.set s Und2.zero, deeds := D.deeds ++ [v.deed] }) (Q' := Q) (fun Fq q _ => by
        obtain ⟨a, c⟩ := qin_appD q C4.out K2.out v.deed O1.out P1.out
        exact ⟨_, a, c, fun k hk => hk.imp id (fun z => z.1)⟩)
      refine ⟨by simp, X', _, r1, ⟨HK.out, v, HV.out, Or.inr ⟨on, rfl⟩⟩, KV.out.trans r2 (fun _ f => f) (fun _ _ f => f), HSK.out, fun _ => ?_⟩
      show (D.deeds ++ [v.deed]).length = _
      simp
  · rw [on] at u0
    have HK := hid hk
    clear hk HC
    rcases her with rfl | rfl | rfl | rfl
    all_goals
      go_wp2_with fail
      go_ret
      refine ⟨rfl, X', _, JV.out, ⟨HK.out, v, HV.out, Or.inl rfl⟩, KV.out, HSK.out, fun hf => ?_⟩
      have := HFR.out hf.1
      cases this
end Go.Proofs.YtphapknfkbgapaaDoor
