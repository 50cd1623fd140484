import Derived.Test.YtphapknfkbgapabDoorPlFToPZ
import Derived.Test.YtphapknfkbgapabDoorPGToPW
import Derived.Test.YtphapknfkbgapabDoorPPToTelJ
import Derived.Test.YtphapknfkbgapabDoorPRToPlA
namespace Go.Proofs.YtphapknfkbgapabDoor
open Go.RowKit

variable {F : Nat → Prop} {b : Nat} {X : PS}
/-! Fetch. -/
theorem isNode_bad {node : Int} (h : badNode node = true) : isNodeB node = false := by
  unfold badNode at h; unfold isNodeB
  rw [Bool.and_eq_false_iff]
  simp at h ⊢
  omega
theorem isNode_good {node : Int} (h : badNode node = false) : isNodeB node = true := by
  unfold badNode at h; unfold isNodeB
  simp at h ⊢
  omega
theorem pFetch_srv (w : World) (s node : Int) (p : ByteArray) (h : XIn w F b X) (hs : isSrv X.servers.length s = false) :
    Calls Tryd.prog 8 #[.pointer (some ⟨b, 0, none⟩), .int .i64 s, .int .i64 node, .string p] w fun e w' => e = .returned (.tuple #[.string ⟨#[]⟩, .int .i64 4]) ∧ w' = w := by
  have HR := hid h
  have HS := hid hs
  clear h hs
  go_enter Tryd.func8, Tryd.ntmps8
  go_wp2_with (go_at_call 23; refine (isServer_any _ _ HR.out).mono ?_; rw [HS.out]; rintro e y1 ⟨rfl, hy⟩; obtain rfl := hy.symm)
  go_ret2
  exact ⟨rfl, rfl⟩
theorem pFetch_arg (w : World) (s node : Int) (p : ByteArray) (h : XIn w F b X) (hs : isSrv X.servers.length s = true) (hb : badNode node = true) :
    Calls Tryd.prog 8 #[.pointer (some ⟨b, 0, none⟩), .int .i64 s, .int .i64 node, .string p] w fun e w' => e = .returned (.tuple #[.string ⟨#[]⟩, .int .i64 2]) ∧ w' = w := by
  have HR := hid h
  have HS := hid hs
  have HB := hid (isNode_bad hb)
  clear h hs hb
  go_enter Tryd.func8, Tryd.ntmps8
  go_wp2_with (first | (go_at_call 23; refine (isServer_any _ _ HR.out).mono ?_; rw [HS.out]; rintro e y1 ⟨rfl, hy⟩; obtain rfl := hy.symm) | (go_at_call 24; refine (isNode_any _ _).mono ?_; rw [HB.out]; rintro e y1 ⟨rfl, hy⟩; obtain rfl := hy.symm))
  go_ret2
  exact ⟨rfl, rfl⟩
theorem pFetch_denied (w : World) (s node : Int) (p : ByteArray) (h : XIn w F b X) (hs : isSrv X.servers.length s = true) (hb : badNode node = false) (hn : ∀ i, i < 8 → (X.pods i).needs.length ≤ 8) (hd : neededOf X.pods node p = false) :
    Calls Tryd.prog 8 #[.pointer (some ⟨b, 0, none⟩), .int .i64 s, .int .i64 node, .string p] w fun e w' => e = .returned (.tuple #[.string ⟨#[]⟩, .int .i64 21]) ∧ Low w.heap.size w w' := by
  have HR := hid h
  have HS := hid hs
  have HB := hid (isNode_good hb)
  have HN := hid hn
  have HD := hid hd
  clear h hs hb hn hd
  go_enter Tryd.func8, Tryd.ntmps8
  go_wp2_with (first | (go_at_call 23; refine (isServer_any _ _ HR.out).mono ?_; rw [HS.out]; rintro e y1 ⟨rfl, hy⟩; obtain rfl := hy.symm) | (go_at_call 24; refine (isNode_any _ _).mono ?_; rw [HB.out]; rintro e y1 ⟨rfl, hy⟩; obtain rfl := hy.symm) | (go_at_call 25; refine (isNeeded_any _ _ _ HR.out HN.out).mono ?_; rw [HD.out]; rintro e y1 ⟨rfl, l1⟩; have L1 := hid l1; clear l1))
  go_ret2
  exact ⟨rfl, L1.out⟩
theorem pFetch_blind (w : World) (i : Nat) (s : PSrv) (node : Int) (p : ByteArray) (h : XIn w F b X) (ha : X.servers[i]? = some s) (hs : isSrv X.servers.length (i : Int) = true) (hz : (s.seen == 0) = true) (hb : badNode node = false) (hn : ∀ i, i < 8 → (X.pods i).needs.length ≤ 8) (hd : neededOf X.pods node p = true) :
    Calls Tryd.prog 8 #[.pointer (some ⟨b, 0, none⟩), .int .i64 (i : Int), .int .i64 node, .string p] w fun e w' => e = .returned (.tuple #[.string ⟨#[]⟩, .int .i64 6]) ∧ Low w.heap.size w w' := by
  have HR := hid h
  have HA := hid ha
  have HS := hid hs
  have HB := hid (isNode_good hb)
  have HN := hid hn
  have HD := hid hd
  have HE : Hid (readErr s = 6) := by show _ = _; unfold readErr; rw [hz]; rfl
  clear h hs hb hn hd ha hz
  go_enter Tryd.func8, Tryd.ntmps8
  go_wp2_with (first | (go_at_call 23; refine (isServer_any _ _ HR.out).mono ?_; rw [HS.out]; rintro e y1 ⟨rfl, hy⟩; obtain rfl := hy.symm) | (go_at_call 24; refine (isNode_any _ _).mono ?_; rw [HB.out]; rintro e y1 ⟨rfl, hy⟩; obtain rfl := hy.symm) | (go_at_call 25; refine (isNeeded_any _ _ _ HR.out HN.out).mono ?_; rw [HD.out]; rintro e y1 ⟨rfl, l1⟩; have L1 := hid l1; clear l1) | (go_at_call 26; refine (mayRead_any _ _ _ (HR.out.low L1.out) HA.out).mono ?_; rw [HE.out]; rintro e y2 ⟨rfl, hy⟩; obtain rfl := hy.symm))
  go_ret2
  exact ⟨rfl, L1.out⟩
set_option maxRecDepth 100000 in
set_option maxHeartbeats 1000000 in
theorem pFetch_ok (w : World) (i : Nat) (s : PSrv) (node : Int) (p : ByteArray) (E : Ent) (A : ByteArray) (C : Int) (h : XIn w F b X) (ha : X.servers[i]? = some s) (hs : isSrv X.servers.length (i : Int) = true) (hz : (s.seen == 0) = false) (hb : badNode node = false) (hn : ∀ i, i < 8 → (X.pods i).needs.length ≤ 8) (hd : neededOf X.pods node p = true) (he : X.entries.length ≤ 1000) (hE : newestOf X.entries p X.rev = E)
    (hO : ∀ (V : World), Low w.heap.size w V → Calls Tryd.prog 28 #[.pointer (some ⟨b, 0, none⟩), .int .i64 (i : Int), .agg #[.string E.path, .int .i64 E.rev, .int .i64 E.key, .int .i64 E.draw, .string E.sealed, .bool E.gone]] V fun e w' => e = .returned (.tuple #[.string A, .int .i64 C]) ∧ Low V.heap.size V w') :
    Calls Tryd.prog 8 #[.pointer (some ⟨b, 0, none⟩), .int .i64 (i : Int), .int .i64 node, .string p] w fun e w' => e = .returned (.tuple #[.string A, .int .i64 C]) ∧ Low w.heap.size w w' := by
  have HR := hid h
  have HA := hid ha
  have HS := hid hs
  have HB := hid (isNode_good hb)
  have HN := hid hn
  have HD := hid hd
  have HEN := hid hE
  have HO := hid hO
  have HE : Hid (readErr s = 0) := by show _ = _; unfold readErr; rw [hz]; rfl
  clear h hs hb hn hd ha hz hE hO
  go_enter Tryd.func8, Tryd.ntmps8
  go_upto_region 10 with (first | (go_at_call 23; refine (isServer_any _ _ HR.out).mono ?_; rw [HS.out]; rintro e y1 ⟨rfl, hy⟩; obtain rfl := hy.symm) | (go_at_call 24; refine (isNode_any _ _).mono ?_; rw [HB.out]; rintro e y1 ⟨rfl, hy⟩; obtain rfl := hy.symm) | (go_at_call 25; refine (isNeeded_any _ _ _ HR.out HN.out).mono ?_; rw [HD.out]; rintro e y1 ⟨rfl, l1⟩; have L1 := hid l1; clear l1) | (go_at_call 26; refine (mayRead_any _ _ _ (HR.out.low L1.out) HA.out).mono ?_; rw [HE.out]; rintro e y2 ⟨rfl, hy⟩; obtain rfl := hy.symm))
  have X1 : Hid (XIn y1 F b X) := HR.out.low L1.out
  have c0 := xin_rev X1.out
  go_wp2_with (first | (go_at_call 27; refine (newest_any _ _ _ X1.out he).mono ?_; rw [HEN.out]; rintro e y3 ⟨rfl, l3⟩; have L3 : Hid (Low w.heap.size w y3) := L1.out.trans (l3.mono L1.out.size); clear l3) | ((with_reducible refine st50 (.tmp 11) (.tmp 37) y3.heap.size Ent.zero E ?_ ?_ ?_ ?_); rfl; rfl; exact (Blk.new y3 65 Ent.zero.cells); intro W b2 k2 s2; have BM := hid b2; have LW : Hid (Low w.heap.size w W) := low_set (L3.out.alloc L3.out.size _) k2 L3.out.size (by have := L3.out.size; simp; omega); clear b2 k2 s2) | ((with_reducible refine ld50 (.tmp 11) y3.heap.size 0 E ?_ BM.out.whole ?_); rfl) | (go_at_call 28; refine (HO.out _ LW.out).mono ?_; rintro e y4 ⟨rfl, l4⟩; have L4 : Hid (Low w.heap.size w y4) := LW.out.trans (l4.mono LW.out.size); clear l4))
  go_ret2
  exact ⟨rfl, L4.out⟩
end Go.Proofs.YtphapknfkbgapabDoor
namespace Go.Proofs.YtphapknfkbgapabDoor
open Go.RowKit

/-! Meddling and pods: plain data. -/

variable {X : PS} {Y : RS} {n : Nat}
theorem kept_iff {all : List RKept} {e : Ent} : e ∈ keptOf all ↔ ∃ k ∈ all, k.out = false ∧ k.e = e := by
  unfold keptOf
  simp only [List.mem_map, List.mem_filter]
  constructor
  · rintro ⟨k, ⟨hk, ho⟩, rfl⟩; exact ⟨k, hk, by simpa using ho, rfl⟩
  · rintro ⟨k, hk, ho, rfl⟩; exact ⟨k, ⟨hk, by simp [ho]⟩, rfl⟩
theorem keptE_some {all : List RKept} (h : Revs all) {r : Nat} {k : RKept} (hk : all[r]? = some k) (ho : k.out = false) : keptE (keptOf all) ((r : Int) + 1) = k.e := by
  unfold keptE
  cases hf : (keptOf all).find? (fun e => e.rev == (r : Int) + 1) with
  | none =>
    have := List.find?_eq_none.1 hf k.e (kept_iff.2 ⟨k, List.mem_of_getElem? hk, ho, rfl⟩)
    rw [h r k hk] at this
    simp at this
  | some e =>
    have h1 := List.find?_some hf
    obtain ⟨k2, hk2, _, rfl⟩ := kept_iff.1 (List.mem_of_find?_eq_some hf)
    obtain ⟨i, hi⟩ := List.getElem?_of_mem hk2
    have h2 := h i k2 hi
    have h3 : k2.e.rev = (r : Int) + 1 := by simpa using h1
    obtain rfl : i = r := by omega
    obtain rfl : k2 = k := Option.some.inj (hi.symm.trans hk)
    rfl
theorem keptE_none {all : List RKept} (h : Revs all) {rev : Int} (hn : ∀ (r : Nat) (k : RKept), all[r]? = some k → k.out = false → rev ≠ (r : Int) + 1) : keptE (keptOf all) rev = Ent.zero := by
  unfold keptE
  cases hf : (keptOf all).find? (fun e => e.rev == rev) with
  | none => rfl
  | some e =>
    exfalso
    have h1 := List.find?_some hf
    obtain ⟨k2, hk2, ho, rfl⟩ := kept_iff.1 (List.mem_of_find?_eq_some hf)
    obtain ⟨i, hi⟩ := List.getElem?_of_mem hk2
    have h2 := h i k2 hi
    have h3 : k2.e.rev = rev := by simpa using h1
    exact hn i k2 hi ho (by omega)
theorem Keys2.ungate {ks : List PKey} {rs : List RKey} {ep t : Int} (h : Keys2 ks rs ep t) : Keys2 ks rs ep (if t == 3 then 2 else t) := by
  by_cases e : t = 3
  · subst e
    exact ⟨h.len, h.few, h.same, h.first, h.came, h.wr, fun i k hk hz => absurd (h.zero i k hk hz).2 (by decide), h.rise, fun q => (by cases q), h.fresh⟩
  · have : (t == 3) = false := by simpa using e
    rw [this]
    exact h
theorem rel_plant (h : Rel2 n X Y) (name : ByteArray) (hp : isPath name = true) {r : Nat} {k : RKept} (hk : Y.all[r]? = some k) (ho : k.out = false) (hg : k.e.gone = false) (hf : fullOf Y = false) : Rel2 (n + 1) (X.plant name k.e) (Y.plant name k) := by
  have hlen : ((keptOf Y.all).length : Int) < Y.room := by unfold fullOf at hf; simp at hf; exact hf
  have hrev : X.rev + 1 = (Y.all.length : Int) + 1 := by rw [h.rev]
  obtain ⟨p1, p2⟩ : 1 ≤ name.size ∧ name.size ≤ 16 := by
    unfold isPath at hp; simp at hp; omega
  have ht : (if X.turn == 3 then (2 : Int) else X.turn) = (if Y.turn == 3 then 2 else Y.turn) := by rw [h.turn]
  refine ⟨h.keys.ungate, h.live, ⟨h.ep.1, h.ep.2.1, h.ep.2.2.1, fun q => ?_⟩, h.write, ht, h.room, h.rooms, ?_, h.floor, h.floor0, h.up.draws, h.len, h.srv, ?_, ?_, ?_, ?_, ?_, ?_, h.pods⟩
  · replace q : (if Y.turn == 3 then (2 : Int) else Y.turn) = 1 := q
    refine h.ep.2.2.2 ?_
    by_cases e : (Y.turn == 3) = true
    · rw [if_pos e] at q; cases q
    · rw [if_neg e] at q; exact q
  · show X.rev + 1 = ((Y.all ++ [_]).length : Int)
    rw [h.rev, List.length_append]; rfl
  · show X.entries ++ [{ k.e with path := name, rev := X.rev + 1 }] = keptOf (Y.all ++ [⟨{ k.e with path := name, rev := (Y.all.length : Int) + 1 }, false⟩])
    rw [keptOf_snoc, h.ent, hrev]
    rfl
  · show ((X.entries ++ [{ k.e with path := name, rev := X.rev + 1 }]).length : Int) ≤ Y.room
    rw [h.ent, List.length_append]
    show (((keptOf Y.all).length + 1 : Nat) : Int) ≤ Y.room
    omega
  · exact revs_snoc h.revs ⟨{ k.e with path := name, rev := (Y.all.length : Int) + 1 }, false⟩ rfl
  · show ∀ q ∈ Y.all ++ [⟨{ k.e with path := name, rev := (Y.all.length : Int) + 1 }, false⟩], q.e.gone = false → EntOk q.e ∧ ∃ j K, q.e.key = ((j : Nat) : Int) + 1 ∧ Y.keys[j]? = some K ∧ (q.out = false → K.gone = false)
    intro q hq hqg
    rcases List.mem_append.1 hq with hq | hq
    · exact h.eok q hq hqg
    · obtain rfl := List.mem_singleton.1 hq
      obtain ⟨o1, j, K, o2, o3, o4⟩ := h.eok k (List.mem_of_getElem? hk) hg
      exact ⟨⟨⟨p1, p2⟩, o1.draw, o1.sealed⟩, j, K, o2, o3, fun _ => o4 ho⟩
  · show (Y.all ++ [_]).length ≤ n + 1
    rw [List.length_append]
    show Y.all.length + 1 ≤ n + 1
    have := h.all
    omega
  · intro q
    exfalso
    replace q : (if Y.turn == 3 then (2 : Int) else Y.turn) = 3 := q
    by_cases e : (Y.turn == 3) = true
    · rw [if_pos e] at q; cases q
    · rw [if_neg e] at q
      exact e (by rw [q]; rfl)
/-! Pods. -/
theorem pods_place {p : Nat → PPod} {node : List Int} {needs : List (ByteArray × ByteArray)} (h : Pods2 p node needs) {pod : Nat} (hp : pod < 8) (v : Int) : Pods2 (setPod p pod { p pod with node := v }) (node.set pod v) needs := by
  have hs : ∀ i, (setPod p pod { p pod with node := v } i).needs = (p i).needs := fun i => by
    unfold setPod
    split
    · rename_i e; rw [e]
    · rfl
  refine ⟨fun i hi => ?_, h.ok, fun i hi => by rw [hs]; exact h.same i hi, fun i hi => by rw [hs]; exact h.few i hi⟩
  by_cases e : i = pod
  · subst e
    rw [List.getElem?_set_self (List.getElem?_eq_some_iff.1 (h.node i hi)).1, setPod_same]
  · rw [List.getElem?_set_ne (fun q => e q.symm), setPod_ne e]
    exact h.node i hi
theorem digit_inj {i j : Nat} (hi : i < 8) (hj : j < 8) (h : digitOf i = digitOf j) : i = j := by
  rw [← podOf_digit i hi, ← podOf_digit j hj, h]
theorem mine_iff {pod : Nat} {q : ByteArray × ByteArray} : mineOf pod q = true ↔ q.1 = digitOf pod := by
  unfold mineOf
  constructor
  · intro h; exact toList_inj (by simpa using h)
  · intro h; rw [h]; simp
theorem mine_rest (l : List (ByteArray × ByteArray)) (pod : Nat) (name : ByteArray) : ((restOf l pod name).filter (mineOf pod)).map (·.2) = withoutOf ((l.filter (mineOf pod)).map (·.2)) name := by
  unfold restOf withoutOf
  induction l with
  | nil => rfl
  | cons q r ih =>
    cases h1 : mineOf pod q <;> cases h2 : (q.2.toList == name.toList) <;> simp [h1, h2] at ih ⊢ <;> exact ih
theorem other_rest (l : List (ByteArray × ByteArray)) {pod i : Nat} (name : ByteArray) (hp : pod < 8) (hi : i < 8) (hne : i ≠ pod) : (restOf l pod name).filter (mineOf i) = l.filter (mineOf i) := by
  unfold restOf
  rw [List.filter_filter]
  refine List.filter_congr (fun q _ => ?_)
  cases h1 : mineOf i q
  · rfl
  · have h2 : mineOf pod q = false := by
      cases h3 : mineOf pod q
      · rfl
      · exact absurd (digit_inj hi hp ((mine_iff.1 h1).symm.trans (mine_iff.1 h3))) hne
    rw [h2]; rfl
theorem others_same {p : Nat → PPod} {node : List Int} {needs : List (ByteArray × ByteArray)} (h : Pods2 p node needs) {pod : Nat} (hp : pod < 8) (name : ByteArray) : othersOf needs pod name = (withoutOf (p pod).needs name).length := by
  rw [h.same pod hp, ← mine_rest]
  unfold othersOf
  rw [List.length_map, List.countP_eq_length_filter]
theorem pods_refer {p : Nat → PPod} {node : List Int} {needs : List (ByteArray × ByteArray)} (h : Pods2 p node needs) {pod : Nat} (hp : pod < 8) (name : ByteArray) (on : Bool) (hf : (on && decide (8 ≤ othersOf needs pod name)) = false) :
    Pods2 (setPod p pod { p pod with needs := withoutOf (p pod).needs name ++ (if on then [name] else []) }) node (restOf needs pod name ++ (if on then [(digitOf pod, name)] else [])) := by
  have hmine : mineOf pod (digitOf pod, name) = true := mine_iff.2 rfl
  have e1 : ∀ i, i < 8 → ((restOf needs pod name ++ (if on then [(digitOf pod, name)] else [])).filter (mineOf i)).map (·.2) = if i = pod then withoutOf (p pod).needs name ++ (if on then [name] else []) else (p i).needs := by
    intro i hi
    rw [List.filter_append, List.map_append]
    by_cases e : i = pod
    · subst e
      rw [if_pos rfl, mine_rest, ← h.same i hi]
      cases on
      · rfl
      · simp [hmine]
    · rw [if_neg e, other_rest needs name hp hi e, ← h.same i hi]
      cases on
      · simp
      · have : mineOf i (digitOf pod, name) = false := by
          cases h3 : mineOf i (digitOf pod, name)
          · rfl
          · exact absurd (digit_inj hi hp (mine_iff.1 h3).symm) e
        simp [this]
  refine ⟨fun i hi => ?_, fun q hq => ?_, fun i hi => ?_, fun i hi => ?_⟩
  · by_cases e : i = pod
    · subst e; rw [setPod_same]; exact h.node i hi
    · rw [setPod_ne e]; exact h.node i hi
  · rcases List.mem_append.1 hq with hq | hq
    · exact h.ok q (List.mem_filter.1 hq).1
    · cases on
      · simp at hq
      · obtain rfl : q = (digitOf pod, name) := by simpa using hq
        exact ⟨pod, hp, rfl⟩
  · rw [e1 i hi]
    by_cases e : i = pod
    · subst e; rw [setPod_same, if_pos rfl]
    · rw [setPod_ne e, if_neg e]
  · by_cases e : i = pod
    · subst e
      rw [setPod_same]
      show (withoutOf (p i).needs name ++ (if on then [name] else [])).length ≤ 8
      have h1 : (withoutOf (p i).needs name).length ≤ (p i).needs.length := List.length_filter_le _ _
      have h2 := h.few i hi
      rw [List.length_append]
      cases on
      · simp; omega
      · rw [others_same h hi] at hf
        simp at hf
        simp
        omega
    · rw [setPod_ne e]; exact h.few i hi
theorem needs_count (l : List (ByteArray × ByteArray)) (h : ∀ q ∈ l, ∃ i, i < 8 ∧ q.1 = digitOf i) (hf : ∀ i, i < 8 → (l.filter (mineOf i)).length ≤ 8) : l.length ≤ 64 := by
  have key : ∀ l : List (ByteArray × ByteArray), (∀ q ∈ l, ∃ i, i < 8 ∧ q.1 = digitOf i) → l.length ≤ (l.filter (mineOf 0)).length + (l.filter (mineOf 1)).length + (l.filter (mineOf 2)).length + (l.filter (mineOf 3)).length + (l.filter (mineOf 4)).length + (l.filter (mineOf 5)).length + (l.filter (mineOf 6)).length + (l.filter (mineOf 7)).length := by
    intro l
    induction l with
    | nil => intro _; simp
    | cons q r ih =>
      intro hq
      have ih := ih (fun x hx => hq x (List.mem_cons_of_mem _ hx))
      obtain ⟨i, hi, e⟩ := hq q List.mem_cons_self
      have mono : ∀ j, (r.filter (mineOf j)).length ≤ ((q :: r).filter (mineOf j)).length := fun j => by
        rw [List.filter_cons]; split <;> simp
      have here : ((q :: r).filter (mineOf i)).length = (r.filter (mineOf i)).length + 1 := by
        rw [List.filter_cons, mine_iff.2 e]; simp
      have m0 := mono 0; have m1 := mono 1; have m2 := mono 2; have m3 := mono 3; have m4 := mono 4; have m5 := mono 5; have m6 := mono 6; have m7 := mono 7
      rw [List.length_cons]
      rcases eight hi with rfl | rfl | rfl | rfl | rfl | rfl | rfl | rfl <;> omega
  have k := key l h
  have h0 := hf 0 (by omega); have h1 := hf 1 (by omega); have h2 := hf 2 (by omega); have h3 := hf 3 (by omega); have h4 := hf 4 (by omega); have h5 := hf 5 (by omega); have h6 := hf 6 (by omega); have h7 := hf 7 (by omega)
  omega
theorem Pods2.small {p : Nat → PPod} {node : List Int} {needs : List (ByteArray × ByteArray)} (h : Pods2 p node needs) : needs.length ≤ 64 :=
  needs_count needs h.ok (fun i hi => by have := h.few i hi; rw [h.same i hi, List.length_map] at this; exact this)
theorem needed_same (h : Pods2 X.pods Y.node Y.needs) (node : Int) (name : ByteArray) : neededOf X.pods node name = allowedOf Y node name := by
  rw [Bool.eq_iff_iff]
  unfold neededOf allowedOf
  rw [List.any_eq_true, List.any_eq_true]
  constructor
  · rintro ⟨i, hi, hp⟩
    have hi8 : i < 8 := List.mem_range.1 hi
    unfold podNeeds at hp
    rw [Bool.and_eq_true, List.any_eq_true] at hp
    obtain ⟨h1, a, ha, h2⟩ := hp
    rw [h.same i hi8] at ha
    obtain ⟨q, hq, rfl⟩ := List.mem_map.1 ha
    obtain ⟨hq1, hq2⟩ := List.mem_filter.1 hq
    refine ⟨q, hq1, ?_⟩
    unfold wants
    rw [mine_iff.1 hq2, podOf_digit i hi8, h.node i hi8, Bool.and_eq_true]
    exact ⟨h1, h2⟩
  · rintro ⟨q, hq, hw⟩
    obtain ⟨i, hi8, e⟩ := h.ok q hq
    unfold wants at hw
    rw [e, podOf_digit i hi8, h.node i hi8, Bool.and_eq_true] at hw
    refine ⟨i, List.mem_range.2 hi8, ?_⟩
    unfold podNeeds
    rw [Bool.and_eq_true, List.any_eq_true]
    exact ⟨hw.1, q.2, by rw [h.same i hi8]; exact List.mem_map.2 ⟨q, List.mem_filter.2 ⟨hq, mine_iff.2 e⟩, rfl⟩, hw.2⟩
end Go.Proofs.YtphapknfkbgapabDoor
namespace Go.Proofs.YtphapknfkbgapabDoor
open Go.RowKit

/-! The player's pods. -/
variable {N : ByteArray → Prop} {X : PS} {D : PD} {n S : Nat} {R : Int} {p q : Nat → PPod} {Q : Pods}

theorem PodsK.congr (h : PodsK p Q) (e : ∀ i, i < 8 → q i = p i) : PodsK q Q :=
  ⟨h.len, fun i hi => by rw [e i hi]; exact h.node i hi, fun i k hi hk => by rw [e i hi]; exact h.need i k hi hk, fun i hi => by rw [e i hi]; exact h.names i hi, fun i hi => by rw [e i hi]; exact h.once i hi⟩
theorem podsOf_eq {Y : RS} (h : Pods2 X.pods Y.node Y.needs) {i : Nat} (hi : i < 8) : podsOf Y.node Y.needs i = X.pods i := by
  unfold podsOf
  rw [h.node i hi, ← h.same i hi]
  rfl
theorem Kn.pods (h : Kn N n X D S R) : PodsK X.pods D.pods := by
  obtain ⟨Y, mm, h, k, _, _⟩ := h
  exact k.pods.congr (fun i hi => (podsOf_eq h.pods hi).symm)
theorem podsK_place (h : PodsK p Q) {pod : Nat} (hp : pod < 8) (v : Int) : PodsK (setPod p pod { p pod with node := v }) { Q with node := Q.node.set pod v } := by
  have hs : ∀ i, (setPod p pod { p pod with node := v } i).needs = (p i).needs := fun i => by
    unfold setPod
    split
    · rename_i e; rw [e]
    · rfl
  refine ⟨⟨by simp [h.len.1], h.len.2.1, h.len.2.2⟩, fun i hi => ?_, fun i k hi hk => by rw [hs]; exact h.need i k hi hk, fun i hi => by rw [hs]; exact h.names i hi, fun i hi => by rw [hs]; exact h.once i hi⟩
  show (Q.node.set pod v)[i]? = _
  by_cases e : i = pod
  · subst e
    rw [List.getElem?_set_self (by rw [h.len.1]; exact hi), setPod_same]
  · rw [List.getElem?_set_ne (fun q => e q.symm), setPod_ne e]
    exact h.node i hi
theorem kn_place (h : Kn N n X D S R) {pod : Nat} (hp : pod < 8) {node : Int} (h1 : -1 ≤ node) (h2 : node < 4) :
    PUni 46 [.int .i64 (pod : Int), .int .i64 node] X (.int .i64 0) (X.place pod node) ∧ Kn N (n + 1) (X.place pod node) { D with pods := { D.pods with node := D.pods.node.set pod node } } S R := by
  have hk := podsK_place h.pods hp node
  obtain ⟨Y, mm, h, k, rfl, r0, sl, od⟩ := h
  have h2' := pods_place h.pods hp node
  refine ⟨p_kept (fun w F b hX _ _ => pPlace_yes w pod node hX hp h1 h2), Y.place pod node, mm + 1, { h.up with pods := h2' }, ⟨k.all, k.out, k.floor, k.floor1, k.names, k.keys, k.dest, k.opl, k.ops, k.draws, k.came, k.told, ?_, k.left⟩, rfl, r0, sl.step (Nat.le_refl _), od⟩
  exact hk.congr (fun i hi => podsOf_eq (X := X.place pod node) (Y := Y.place pod node) h2' hi)
theorem mem_without {l : List ByteArray} {a x : ByteArray} : x ∈ withoutOf l a ↔ x ∈ l ∧ x ≠ a := by
  unfold withoutOf
  rw [List.mem_filter]
  constructor
  · rintro ⟨h1, h2⟩
    refine ⟨h1, fun e => ?_⟩
    subst e
    simp at h2
  · rintro ⟨h1, h2⟩
    exact ⟨h1, by rw [path_bne h2]; rfl⟩
theorem needAt_set {Q : Pods} (hl : Q.needs.length = 8) (h6 : ∀ l ∈ Q.needs, l.length = 6) {pod k : Nat} (hp : pod < 8) (hk : k < 6) {l : List Bool} (hpl : Q.needs[pod]? = some l) (v : Bool) (i j : Nat) :
    needAt { Q with needs := Q.needs.set pod (l.set k v) } i j = if i = pod then (if j = k then v else needAt Q i j) else needAt Q i j := by
  unfold needAt
  show (((Q.needs.set pod (l.set k v))[i]?.getD [])[j]?).getD false = _
  by_cases e : i = pod
  · subst e
    rw [if_pos rfl, List.getElem?_set_self (by rw [hl]; exact hp), hpl]
    simp only [Option.getD_some]
    by_cases e2 : j = k
    · subst e2
      rw [if_pos rfl, List.getElem?_set_self (by rw [h6 l (List.mem_of_getElem? hpl)]; exact hk)]
      rfl
    · rw [if_neg e2, List.getElem?_set_ne (fun q => e2 q.symm)]
  · rw [if_neg e, List.getElem?_set_ne (fun q => e q.symm)]
theorem podsK_refer (h : PodsK p Q) {pod k : Nat} (hp : pod < 8) (hk : k < 6) {l : List Bool} (hl : Q.needs[pod]? = some l) (on : Bool) :
    PodsK (setPod p pod { p pod with needs := withoutOf (p pod).needs (nameOf k) ++ (if on then [nameOf k] else []) }) { Q with needs := Q.needs.set pod (l.set k on) } := by
  have hno : nameOf k ∉ withoutOf (p pod).needs (nameOf k) := fun hx => (mem_without.1 hx).2 rfl
  refine ⟨⟨h.len.1, by simp [h.len.2.1], fun x hx => ?_⟩, fun i hi => ?_, fun i j hi hj => ?_, fun i hi x hx => ?_, fun i hi => ?_⟩
  · obtain ⟨i, hi⟩ := List.getElem?_of_mem hx
    rcases set_at hi with ⟨_, hi⟩ | ⟨_, rfl⟩
    · exact h.len.2.2 x (List.mem_of_getElem? hi)
    · rw [List.length_set]; exact h.len.2.2 l (List.mem_of_getElem? hl)
  · by_cases e : i = pod
    · subst e; rw [setPod_same]; exact h.node i hi
    · rw [setPod_ne e]; exact h.node i hi
  · rw [needAt_set h.len.2.1 h.len.2.2 hp hk hl]
    by_cases e : i = pod
    · subst e
      rw [if_pos rfl, setPod_same]
      show _ ↔ nameOf j ∈ withoutOf (p i).needs (nameOf k) ++ (if on then [nameOf k] else [])
      rw [List.mem_append, mem_without]
      by_cases e2 : j = k
      · subst e2
        rw [if_pos rfl]
        cases on
        · simp
        · simp
      · rw [if_neg e2, h.need i j hi hj]
        have hne : nameOf j ≠ nameOf k := fun q => e2 (nameOf_inj hj hk q)
        cases on
        · simp [hne]
        · simp [hne]
    · rw [if_neg e, setPod_ne e]
      exact h.need i j hi hj
  · by_cases e : i = pod
    · subst e
      rw [setPod_same] at hx
      rcases List.mem_append.1 hx with hx | hx
      · exact h.names i hi x (mem_without.1 hx).1
      · cases on
        · cases hx
        · obtain rfl := List.mem_singleton.1 hx
          exact ⟨k, hk, rfl⟩
    · rw [setPod_ne e] at hx
      exact h.names i hi x hx
  · by_cases e : i = pod
    · subst e
      rw [setPod_same]
      show (withoutOf (p i).needs (nameOf k) ++ (if on then [nameOf k] else [])).Nodup
      have h1 : (withoutOf (p i).needs (nameOf k)).Nodup := (h.once i hi).filter _
      cases on
      · simpa using h1
      · rw [List.nodup_append]
        refine ⟨h1, by simp, fun a ha c hc => ?_⟩
        have hc2 : c = nameOf k := by simpa using hc
        rw [hc2]
        exact fun q => hno (q ▸ ha)
    · rw [setPod_ne e]
      exact h.once i hi
theorem kn_refer (h : Kn N n X D S R) {pod k : Nat} (hp : pod < 8) (hk : k < 6) {l : List Bool} (hl : D.pods.needs[pod]? = some l) (on : Bool) :
    PUni 47 [.int .i64 (pod : Int), .string (nameOf k), .bool on] X (.int .i64 0) (X.refer pod (nameOf k) on) ∧ Kn N (n + 1) (X.refer pod (nameOf k) on) { D with pods := { D.pods with needs := D.pods.needs.set pod (l.set k on) } } S R := by
  have hK := h.pods
  have h6 := names_six (hK.once pod hp) (hK.names pod hp)
  have hkk := podsK_refer hK hp hk hl on
  obtain ⟨s1, s2⟩ := isName_size ⟨k, hk, rfl⟩
  have hq : isPath (nameOf k) = true := by unfold isPath; simp; omega
  have hm : (nameOf k).size ≤ maxLen := by unfold maxLen; omega
  obtain ⟨Y, mm, h, kk, rfl, r0, sl, od⟩ := h
  have hw : (withoutOf (X.pods pod).needs (nameOf k)).length ≤ 6 := Nat.le_trans (without_le _ _) h6
  have ho := others_same h.pods hp (nameOf k)
  have hf : (on && decide (8 ≤ othersOf Y.needs pod (nameOf k))) = false := by
    rw [ho, decide_eq_false (by omega), Bool.and_false]
  have h2' := pods_refer h.pods hp (nameOf k) on hf
  refine ⟨fun w F b hX hF h1 => (pRefer_any w pod (nameOf k) on hX (by omega) hm hq hp).mono ?_, Y.refer pod (nameOf k) on, mm + 1, { h.up with pods := h2' }, ⟨kk.all, kk.out, kk.floor, kk.floor1, kk.names, kk.keys, kk.dest, kk.opl, kk.ops, kk.draws, kk.came, kk.told, ?_, kk.left⟩, rfl, r0, sl.step (Nat.le_refl _), od⟩
  · rintro e w' (⟨q, _⟩ | ⟨_, q1, q2, q3⟩)
    · rw [← ho, hf] at q; cases q
    · exact ⟨q1, _, q2, q3, fun _ hk => hk.imp id (fun q => q.1)⟩
  · exact hkk.congr (fun i hi => podsOf_eq (X := X.refer pod (nameOf k) on) (Y := Y.refer pod (nameOf k) on) h2' hi)
/-! Fetch: refused, or as Get. -/
theorem openedFor_ex {Y : RS} (h : Rel2 n X Y) {i : Nat} {s : PSrv} (hs : X.servers[i]? = some s) (name : ByteArray) {E : Ent} (hE : newestOf X.entries name X.rev = E) :
    ∃ O : ByteArray × Int, O.2 ≠ 21 ∧ (O.2 ≠ 0 → O.1 = ⟨#[]⟩) ∧ ∀ (w : World) (F : Nat → Prop) (b : Nat), XIn w F b X → Fours w → 1 ≤ w.heap.size → Calls Tryd.prog 28 #[.pointer (some ⟨b, 0, none⟩), .int .i64 (i : Int), .agg #[.string E.path, .int .i64 E.rev, .int .i64 E.key, .int .i64 E.draw, .string E.sealed, .bool E.gone]] w fun e w' => e = .returned (.tuple #[.string O.1, .int .i64 O.2]) ∧ Low w.heap.size w w' := by
  cases hz : (E.rev == 0 || E.gone)
  · rw [Bool.or_eq_false_iff] at hz
    have hm : E ∈ X.entries := by
      unfold newestOf at hE
      cases hf : X.entries.reverse.find? (fun e => decide (e.rev ≤ X.rev) && (e.path.toList == name.toList)) with
      | none =>
        rw [hf] at hE
        rw [← hE] at hz
        exact absurd hz.1 (by decide)
      | some e =>
        rw [hf] at hE
        have hE : e = E := hE
        rw [← hE]
        exact List.mem_reverse.1 (List.mem_of_find?_eq_some hf)
    obtain ⟨j, P, ek, _⟩ := h.ekey hm hz.2
    refine ⟨pRead P E s.seen, ?_, pRead_zero P E s.seen, fun w F b hX hF h1 => openedFor_some w i s E P j hX hs hz.1 hz.2 ek.at_ ek.key ek.six ek.size ek.ok hF h1⟩
    unfold pRead pOpened
    (repeat' split) <;> simp
  · exact ⟨(⟨#[]⟩, 12), by decide, fun _ => rfl, fun w F b _ _ _ => openedFor_none w i E hz⟩
theorem kn_fetch (h : Kn N n X D S R) {s : Nat} (hs : s < S) {node : Nat} (hn : node < 4) (name : ByteArray) :
    (neededOf X.pods (node : Int) name = false → PUni 8 [.int .i64 (s : Int), .int .i64 (node : Int), .string name] X (.tuple #[.string ⟨#[]⟩, .int .i64 21]) X) ∧
    (neededOf X.pods (node : Int) name = true → ∃ (A : ByteArray) (B C : Int), C ≠ 21 ∧ PUni 8 [.int .i64 (s : Int), .int .i64 (node : Int), .string name] X (.tuple #[.string A, .int .i64 C]) X ∧ PUni 11 [.int .i64 (s : Int), .string name] X (.tuple #[.string A, .int .i64 B, .int .i64 C]) X) := by
  obtain ⟨Y, mm, h, k, rfl, r0, sl, od⟩ := h
  obtain ⟨p, sn, u, hp, ha, hS⟩ := h.srvAt hs
  have hfew := h.pods.few
  have hent : X.entries.length ≤ 1000 := by have := h.few; have := h.rooms; omega
  have hx : isSrv X.servers.length (s : Int) = true := by
    have := h.len.1
    unfold isSrv
    simp
    omega
  have hb : badNode (node : Int) = false := by unfold badNode; simp; omega
  constructor
  · intro hd
    exact p_low (fun w F b hX _ _ => pFetch_denied w (s : Int) (node : Int) name hX hx hb hfew hd)
  · intro hd
    cases hz : (p.seen == 0)
    · obtain ⟨E, hE⟩ : ∃ E, newestOf X.entries name X.rev = E := ⟨_, rfl⟩
      obtain ⟨O, o1, o2, o3⟩ := openedFor_ex h hp name hE
      refine ⟨O.1, pRevOr O E.rev, O.2, o1, p_low (fun w F b hX hF h1 => pFetch_ok w s p (node : Int) name E O.1 O.2 hX hp hx hz hb hfew hd hent hE (fun V l => o3 V F b (hX.low l) (fours_low hF h1 l) (Nat.le_trans h1 l.size))), p_low (fun w F b hX hF h1 => pGet_ok w s p name hX hp hz _ _ _ (read_via w s name X.rev E O hX hent hE o2 (fun V l => o3 V F b (hX.low l) (fours_low hF h1 l) (Nat.le_trans h1 l.size))))⟩
    · exact ⟨⟨#[]⟩, 0, 6, by decide, p_low (fun w F b hX _ _ => pFetch_blind w s p (node : Int) name hX hp hx hz hb hfew hd), p_same (fun w F b hX => pGet_blind w s p name hX hp hz)⟩
/-- What the player knows of who needs what. -/
def allowedQ (Q : Pods) (node : Int) (k : Nat) : Bool := (List.range 8).any (fun i => ((Q.node[i]?).getD 0 == node) && needAt Q i k)
theorem allowed_same (h : PodsK p Q) (node : Int) {k : Nat} (hk : k < 6) : allowedQ Q node k = neededOf p node (nameOf k) := by
  unfold allowedQ neededOf
  rw [Bool.eq_iff_iff, List.any_eq_true, List.any_eq_true]
  have key : ∀ i, i < 8 → ((((Q.node[i]?).getD 0 == node) && needAt Q i k) = true ↔ podNeeds (p i) node (nameOf k) = true) := fun i hi => by
    rw [h.node i hi]
    unfold podNeeds
    rw [Bool.and_eq_true, Bool.and_eq_true, h.need i k hi hk, List.any_eq_true]
    simp only [Option.getD_some]
    constructor
    · rintro ⟨a, c⟩; exact ⟨a, _, c, path_beq.2 rfl⟩
    · rintro ⟨a, x, c, e⟩; exact ⟨a, by rw [← path_beq.1 e]; exact c⟩
  constructor
  · rintro ⟨i, hi, hp⟩; exact ⟨i, hi, (key i (List.mem_range.1 hi)).1 hp⟩
  · rintro ⟨i, hi, hp⟩; exact ⟨i, hi, (key i (List.mem_range.1 hi)).2 hp⟩
end Go.Proofs.YtphapknfkbgapabDoor
namespace Go.Proofs.YtphapknfkbgapabDoor
open Go.RowKit

/-! The player in memory. -/

def Dd.cells (d : Dd) : List Value := [.string d.path, .string d.text, .bool d.gone]
def Und2.cells (u : Und2) : List Value := [.bool u.on, .string u.deed.path, .string u.deed.text, .bool u.deed.gone]
def bools (l : List Bool) : List Value := l.map Value.bool
def strs (t : ByteArray) : List Value := [.string t]
theorem Dd.len (d : Dd) : d.cells.length = 3 := rfl
theorem Und2.len (d : Und2) : d.cells.length = 4 := rfl
theorem strs_len (t : ByteArray) : (strs t).length = 1 := rfl
theorem Dd.one (e : Dd) : ∀ v ∈ e.cells, v.oneCell' = true := by simp [Dd.cells, Value.oneCell']
theorem Und2.one (e : Und2) : ∀ v ∈ e.cells, v.oneCell' = true := by simp [Und2.cells, Value.oneCell']
def qrest (D : PD) (Q : Pods) : List Value := bools D.dest ++ (Q.node.map (Value.int .i64) ++ Q.needs.flatMap bools)
def midOf (D : PD) (Q : Pods) : List Value := D.ops.flatMap Und2.cells ++ qrest D Q
def headOf (bx S : Nat) (R : Int) (key : ByteArray) (D : PD) (vD : Value) : List Value := [.pointer (some ⟨bx, 0, none⟩), .int .i64 (S : Int), .int .i64 R, .string key, vD, .int .i64 D.floor]
def qcells (bx S : Nat) (R : Int) (key : ByteArray) (D : PD) (Q : Pods) (vD vS vK : Value) : List Value := headOf bx S R key D vD ++ (midOf D Q ++ [vS, vK])
def PD.rows (D : PD) : List Row := [⟨4, 38, 3, D.deeds.length, D.deeds.flatMap Dd.cells⟩, ⟨85, 65, 6, D.seen.length, D.seen.flatMap Ent.cells⟩, ⟨86, 9, 1, D.keys.length, D.keys.flatMap strs⟩]
structure PLen (D : PD) (Q : Pods) : Prop where
  ops : D.ops.length = 4
  dest : D.dest.length = 7
  node : Q.node.length = 8
  needs : Q.needs.length = 8
  need : ∀ l ∈ Q.needs, l.length = 6
/-- The player lies at block b, in blocks of F; its coffer at bx. -/
def QIn (w : World) (F : Nat → Prop) (b bx S : Nat) (R : Int) (key : ByteArray) (D : PD) (Q : Pods) : Prop := PLen D Q ∧ ∃ vD vS vK, Own w F b 49 (qcells bx S R key D Q vD vS vK) D.rows
theorem bools_flat (l : List (List Bool)) (h : ∀ x ∈ l, x.length = 6) : (l.flatMap bools).length = l.length * 6 := by
  induction l with
  | nil => rfl
  | cons x r ih =>
    rw [List.flatMap_cons, List.length_append, ih (fun y hy => h y (List.mem_cons_of_mem _ hy)), List.length_cons]
    have := h x List.mem_cons_self
    unfold bools
    rw [List.length_map, this]
    omega
variable {w w' : World} {F G : Nat → Prop} {b bx S : Nat} {R : Int} {key : ByteArray} {D : PD} {Q : Pods}
theorem PLen.restLen (h : PLen D Q) : (qrest D Q).length = 63 := by
  have e1 : (bools D.dest).length = 7 := by unfold bools; rw [List.length_map, h.dest]
  unfold qrest
  rw [List.length_append, List.length_append, bools_flat Q.needs h.need, h.needs, List.length_map, h.node, e1]
theorem PLen.mid (h : PLen D Q) : (midOf D Q).length = 79 := by
  unfold midOf
  rw [List.length_append, flat_length 4 Und2.cells Und2.len, h.ops, h.restLen]
theorem qc_mid (h : PLen D Q) {vD vS vK : Value} {i : Nat} (hi : i < 79) : (qcells bx S R key D Q vD vS vK)[6 + i]? = (midOf D Q)[i]? := by
  unfold qcells
  rw [List.getElem?_append_right (by simp [headOf])]
  have e : 6 + i - (headOf bx S R key D vD).length = i := by simp [headOf]
  rw [e, List.getElem?_append_left (by rw [h.mid]; exact hi)]
theorem qc_seen (h : PLen D Q) {vD vS vK : Value} : (qcells bx S R key D Q vD vS vK)[85]? = some vS := by
  unfold qcells
  rw [List.getElem?_append_right (by simp [headOf])]
  have e : 85 - (headOf bx S R key D vD).length = 79 := by simp [headOf]
  rw [e, List.getElem?_append_right (by rw [h.mid]; exact Nat.le_refl _), h.mid]
  rfl
theorem qc_keys (h : PLen D Q) {vD vS vK : Value} : (qcells bx S R key D Q vD vS vK)[86]? = some vK := by
  unfold qcells
  rw [List.getElem?_append_right (by simp [headOf])]
  have e : 86 - (headOf bx S R key D vD).length = 80 := by simp [headOf]
  rw [e, List.getElem?_append_right (by rw [h.mid]; omega), h.mid]
  rfl
theorem QIn.kept (h : QIn w F b bx S R key D Q) (k : Kept G w w') (hd : ∀ i, F i → ¬ G i) : QIn w' F b bx S R key D Q := by
  obtain ⟨hl, vD, vS, vK, h⟩ := h
  exact ⟨hl, vD, vS, vK, h.kept k hd⟩
theorem QIn.low (h : QIn w F b bx S R key D Q) (k : Low w.heap.size w w') : QIn w' F b bx S R key D Q := h.kept k.kept (fun _ _ f => f)
theorem QIn.lt (h : QIn w F b bx S R key D Q) : b < w.heap.size := by
  obtain ⟨hl, vD, vS, vK, h⟩ := h
  exact h.lt
theorem QIn.below (h : QIn w F b bx S R key D Q) : ∀ k, F k → k < w.heap.size := by
  obtain ⟨hl, vD, vS, vK, h⟩ := h
  exact h.below
theorem QIn.inF (h : QIn w F b bx S R key D Q) : F b := by
  obtain ⟨hl, vD, vS, vK, h⟩ := h
  exact h.inF
theorem QIn.frozen (h : QIn w F b bx S R key D Q) (i : Nat) : w.frozen? ⟨b, i, none⟩ = false := by
  obtain ⟨hl, vD, vS, vK, h⟩ := h
  exact h.frozen i
theorem QIn.more (h : QIn w F b bx S R key D Q) (hs : ∀ k, F k → G k) (hb : ∀ k, G k → k < w.heap.size) : QIn w G b bx S R key D Q := by
  obtain ⟨hl, vD, vS, vK, h⟩ := h
  exact ⟨hl, vD, vS, vK, h.more hs hb⟩
theorem qin_ptr (h : QIn w F b bx S R key D Q) : w.cell? ⟨b, 0, none⟩ = some (.pointer (some ⟨bx, 0, none⟩)) := by
  obtain ⟨hl, vD, vS, vK, h⟩ := h
  exact h.cell 0
theorem qin_srv (h : QIn w F b bx S R key D Q) : w.cell? ⟨b, 1, none⟩ = some (.int .i64 (S : Int)) := by
  obtain ⟨hl, vD, vS, vK, h⟩ := h
  exact h.cell 1
theorem qin_floor (h : QIn w F b bx S R key D Q) : w.cell? ⟨b, 5, none⟩ = some (.int .i64 D.floor) := by
  obtain ⟨hl, vD, vS, vK, h⟩ := h
  exact h.cell 5
theorem qin_deeds (h : QIn w F b bx S R key D Q) : Sl w b 4 3 (D.deeds.map Dd.cells) := by
  obtain ⟨hl, vD, vS, vK, h⟩ := h
  exact h.sl 0 Dd.len rfl
theorem qin_seen (h : QIn w F b bx S R key D Q) : Sl w b 85 6 (D.seen.map Ent.cells) := by
  obtain ⟨hl, vD, vS, vK, h⟩ := h
  exact h.sl 1 Ent.len rfl
theorem qin_keys (h : QIn w F b bx S R key D Q) : Sl w b 86 1 (D.keys.map strs) := by
  obtain ⟨hl, vD, vS, vK, h⟩ := h
  exact h.sl 2 strs_len rfl
theorem qin_mid (h : QIn w F b bx S R key D Q) {i : Nat} (hi : i < 79) : w.cell? ⟨b, 6 + i, none⟩ = (midOf D Q)[i]? := by
  obtain ⟨hl, vD, vS, vK, h⟩ := h
  rw [h.cell, qc_mid hl hi]
theorem qin_op (h : QIn w F b bx S R key D Q) {s : Nat} {u : Und2} (hu : D.ops[s]? = some u) {j : Nat} (hj : j < 4) : w.cell? ⟨b, 6 + (s * 4 + j), none⟩ = u.cells[j]? := by
  have hs : s < 4 := by have := (List.getElem?_eq_some_iff.1 hu).1; rw [h.1.ops] at this; exact this
  rw [qin_mid h (by omega)]
  unfold midOf
  rw [List.getElem?_append_left (by rw [flat_length 4 Und2.cells Und2.len, h.1.ops]; omega)]
  exact flat_at 4 Und2.cells Und2.len D.ops s j u hu hj
theorem qin_dest (h : QIn w F b bx S R key D Q) {k : Nat} {v : Bool} (hv : D.dest[k]? = some v) : w.cell? ⟨b, 22 + k, none⟩ = some (.bool v) := by
  have hk : k < 7 := by have := (List.getElem?_eq_some_iff.1 hv).1; rw [h.1.dest] at this; exact this
  have e := qin_mid h (i := 16 + k) (by omega)
  rw [show 6 + (16 + k) = 22 + k by omega] at e
  rw [e]
  unfold midOf qrest bools
  rw [List.getElem?_append_right (by rw [flat_length 4 Und2.cells Und2.len, h.1.ops]; omega), flat_length 4 Und2.cells Und2.len, h.1.ops, show 16 + k - 4 * 4 = k by omega, List.getElem?_append_left (by rw [List.length_map, h.1.dest]; exact hk), List.getElem?_map, hv]
  rfl
theorem qin_node (h : QIn w F b bx S R key D Q) {p : Nat} {v : Int} (hv : Q.node[p]? = some v) : w.cell? ⟨b, 29 + p, none⟩ = some (.int .i64 v) := by
  have hk : p < 8 := by have := (List.getElem?_eq_some_iff.1 hv).1; rw [h.1.node] at this; exact this
  have e := qin_mid h (i := 23 + p) (by omega)
  rw [show 6 + (23 + p) = 29 + p by omega] at e
  rw [e]
  unfold midOf qrest bools
  rw [List.getElem?_append_right (by rw [flat_length 4 Und2.cells Und2.len, h.1.ops]; omega), flat_length 4 Und2.cells Und2.len, h.1.ops, List.getElem?_append_right (by rw [List.length_map, h.1.dest]; omega), List.length_map, h.1.dest, show 23 + p - 4 * 4 - 7 = p by omega, List.getElem?_append_left (by rw [List.length_map, h.1.node]; exact hk), List.getElem?_map, hv]
  rfl
theorem bools_at (l : List (List Bool)) (h : ∀ x ∈ l, x.length = 6) : ∀ (p k : Nat) (x : List Bool), l[p]? = some x → k < 6 → (l.flatMap bools)[p * 6 + k]? = (x[k]?).map Value.bool := by
  induction l with
  | nil => intro p k x hx; simp at hx
  | cons y r ih =>
    intro p k x hx hk
    have hy : (bools y).length = 6 := by unfold bools; rw [List.length_map]; exact h y List.mem_cons_self
    rw [List.flatMap_cons]
    cases p with
    | zero =>
      obtain rfl := (Option.some.inj hx).symm
      rw [List.getElem?_append_left (by omega)]
      unfold bools
      rw [List.getElem?_map, Nat.zero_mul, Nat.zero_add]
    | succ p =>
      rw [List.getElem?_append_right (by omega), hy, show (p + 1) * 6 + k - 6 = p * 6 + k by omega]
      exact ih (fun z hz => h z (List.mem_cons_of_mem _ hz)) p k x hx hk
theorem qin_need (h : QIn w F b bx S R key D Q) {p k : Nat} {l : List Bool} {v : Bool} (hl : Q.needs[p]? = some l) (hv : l[k]? = some v) : w.cell? ⟨b, 37 + (p * 6 + k), none⟩ = some (.bool v) := by
  have hp : p < 8 := by have := (List.getElem?_eq_some_iff.1 hl).1; rw [h.1.needs] at this; exact this
  have hk : k < 6 := by have := (List.getElem?_eq_some_iff.1 hv).1; rw [h.1.need l (List.mem_of_getElem? hl)] at this; exact this
  have e := qin_mid h (i := 31 + (p * 6 + k)) (by omega)
  rw [show 6 + (31 + (p * 6 + k)) = 37 + (p * 6 + k) by omega] at e
  rw [e]
  unfold midOf qrest
  rw [List.getElem?_append_right (by rw [flat_length 4 Und2.cells Und2.len, h.1.ops]; omega), flat_length 4 Und2.cells Und2.len, h.1.ops, List.getElem?_append_right (by unfold bools; rw [List.length_map, h.1.dest]; omega)]
  have e1 : (bools D.dest).length = 7 := by unfold bools; rw [List.length_map, h.1.dest]
  rw [e1, List.getElem?_append_right (by rw [List.length_map, h.1.node]; omega), List.length_map, h.1.node, show 31 + (p * 6 + k) - 4 * 4 - 7 - 8 = p * 6 + k by omega, bools_at Q.needs h.1.need p k l hl hk, hv]
  rfl
/-! What is written. -/
theorem PD.offs (D : PD) {i : Nat} (hi : i < 79) : ∀ r ∈ D.rows, r.off ≠ 6 + i := by
  intro r hr
  simp [PD.rows] at hr
  rcases hr with rfl | rfl | rfl
  · show 4 ≠ _; omega
  · show 85 ≠ _; omega
  · show 86 ≠ _; omega
theorem qc_set (h : PLen D Q) {vD vS vK v : Value} {i : Nat} (hi : i < 79) {D' : PD} {Q' : Pods} (hh : headOf bx S R key D vD = headOf bx S R key D' vD) (hm : (midOf D Q).set i v = midOf D' Q') : (qcells bx S R key D Q vD vS vK).set (6 + i) v = qcells bx S R key D' Q' vD vS vK := by
  unfold qcells
  rw [List.set_append_right _ _ (by simp [headOf])]
  have e : 6 + i - (headOf bx S R key D vD).length = i := by simp [headOf]
  rw [e, List.set_append_left _ _ (by rw [h.mid]; exact hi), hm, hh]
theorem qin_set (h : QIn w F b bx S R key D Q) {i : Nat} (hi : i < 79) (v : Value) {D' : PD} {Q' : Pods} (hl : PLen D' Q') (hh : D'.floor = D.floor) (hm : (midOf D Q).set i v = midOf D' Q') (hr : D'.rows = D.rows) : QIn (w.setCell ⟨b, 6 + i, none⟩ v) F b bx S R key D' Q' := by
  obtain ⟨hl0, vD, vS, vK, h⟩ := h
  refine ⟨hl, vD, vS, vK, (h.set (6 + i) v (D.offs hi)).cast (qc_set hl0 hi ?_ hm) hr.symm⟩
  unfold headOf
  rw [hh]
theorem qset_kept (h : QIn w F b bx S R key D Q) (i : Nat) (v : Value) : Kept F w (w.setCell ⟨b, i, none⟩ v) := (setCell_kept w ⟨b, i, none⟩ v).mono (fun q _ e => by rw [show q = b from e]; exact h.inF)
theorem qin_setFloor (h : QIn w F b bx S R key D Q) (n : Int) : QIn (w.setCell ⟨b, 5, none⟩ (.int .i64 n)) F b bx S R key { D with floor := n } Q := by
  obtain ⟨hl, vD, vS, vK, h⟩ := h
  exact ⟨⟨hl.ops, hl.dest, hl.node, hl.needs, hl.need⟩, vD, vS, vK, (h.set 5 (.int .i64 n) (by simp [PD.rows])).cast rfl rfl⟩
theorem qin_setDest (h : QIn w F b bx S R key D Q) {k : Nat} (hk : k < 7) (v : Bool) : QIn (w.setCell ⟨b, 22 + k, none⟩ (.bool v)) F b bx S R key { D with dest := D.dest.set k v } Q := by
  have hl := h.1
  have q := qin_set h (i := 16 + k) (by omega) (.bool v) (D' := { D with dest := D.dest.set k v }) (Q' := Q) ⟨hl.ops, by simp [hl.dest], hl.node, hl.needs, hl.need⟩ rfl (by
    unfold midOf qrest bools
    rw [List.set_append_right _ _ (by rw [flat_length 4 Und2.cells Und2.len, hl.ops]; omega), flat_length 4 Und2.cells Und2.len, hl.ops, show 16 + k - 4 * 4 = k by omega, List.set_append_left _ _ (by rw [List.length_map, hl.dest]; exact hk), List.map_set]) rfl
  rw [show 6 + (16 + k) = 22 + k by omega] at q
  exact q
theorem qin_setNode (h : QIn w F b bx S R key D Q) {p : Nat} (hp : p < 8) (v : Int) : QIn (w.setCell ⟨b, 29 + p, none⟩ (.int .i64 v)) F b bx S R key D { Q with node := Q.node.set p v } := by
  have hl := h.1
  have q := qin_set h (i := 23 + p) (by omega) (.int .i64 v) (D' := D) (Q' := { Q with node := Q.node.set p v }) ⟨hl.ops, hl.dest, by simp [hl.node], hl.needs, hl.need⟩ rfl (by
    unfold midOf qrest bools
    rw [List.set_append_right _ _ (by rw [flat_length 4 Und2.cells Und2.len, hl.ops]; omega), flat_length 4 Und2.cells Und2.len, hl.ops, List.set_append_right _ _ (by rw [List.length_map, hl.dest]; omega), List.length_map, hl.dest, show 23 + p - 4 * 4 - 7 = p by omega, List.set_append_left _ _ (by rw [List.length_map, hl.node]; exact hp), List.map_set]) rfl
  rw [show 6 + (23 + p) = 29 + p by omega] at q
  exact q
theorem bools_set (l : List (List Bool)) (h : ∀ x ∈ l, x.length = 6) : ∀ (p k : Nat) (x : List Bool) (v : Bool), l[p]? = some x → k < 6 → (l.flatMap bools).set (p * 6 + k) (.bool v) = (l.set p (x.set k v)).flatMap bools := by
  induction l with
  | nil => intro p k x v hx; simp at hx
  | cons y r ih =>
    intro p k x v hx hk
    have hy : (bools y).length = 6 := by unfold bools; rw [List.length_map]; exact h y List.mem_cons_self
    rw [List.flatMap_cons]
    cases p with
    | zero =>
      obtain rfl := (Option.some.inj hx).symm
      rw [List.set_append_left _ _ (by omega), List.set_cons_zero, List.flatMap_cons, Nat.zero_mul, Nat.zero_add]
      unfold bools
      rw [List.map_set]
    | succ p =>
      rw [List.set_append_right _ _ (by omega), hy, show (p + 1) * 6 + k - 6 = p * 6 + k by omega, List.set_cons_succ, List.flatMap_cons, ih (fun z hz => h z (List.mem_cons_of_mem _ hz)) p k x v hx hk]
theorem qin_setNeed (h : QIn w F b bx S R key D Q) {p k : Nat} {l : List Bool} (hp : Q.needs[p]? = some l) (hk : k < 6) (v : Bool) : QIn (w.setCell ⟨b, 37 + (p * 6 + k), none⟩ (.bool v)) F b bx S R key D { Q with needs := Q.needs.set p (l.set k v) } := by
  have hl := h.1
  have hp8 : p < 8 := by have := (List.getElem?_eq_some_iff.1 hp).1; rw [hl.needs] at this; exact this
  have e1 : (bools D.dest).length = 7 := by unfold bools; rw [List.length_map, hl.dest]
  have q := qin_set h (i := 31 + (p * 6 + k)) (by omega) (.bool v) (D' := D) (Q' := { Q with needs := Q.needs.set p (l.set k v) }) ⟨hl.ops, hl.dest, hl.node, by simp [hl.needs], fun x hx => by
      obtain ⟨i, hi⟩ := List.getElem?_of_mem hx
      rcases set_at hi with ⟨_, hi⟩ | ⟨_, rfl⟩
      · exact hl.need x (List.mem_of_getElem? hi)
      · rw [List.length_set]; exact hl.need l (List.mem_of_getElem? hp)⟩ rfl (by
    unfold midOf qrest
    rw [List.set_append_right _ _ (by rw [flat_length 4 Und2.cells Und2.len, hl.ops]; omega), flat_length 4 Und2.cells Und2.len, hl.ops, List.set_append_right _ _ (by rw [e1]; omega), e1, List.set_append_right _ _ (by rw [List.length_map, hl.node]; omega), List.length_map, hl.node, show 31 + (p * 6 + k) - 4 * 4 - 7 - 8 = p * 6 + k by omega, bools_set Q.needs hl.need p k l v hp hk]) rfl
  rw [show 6 + (31 + (p * 6 + k)) = 37 + (p * 6 + k) by omega] at q
  exact q
end Go.Proofs.YtphapknfkbgapabDoor
namespace Go.Proofs.YtphapknfkbgapabDoor
open Go.RowKit

/-! The coffer and the player, side by side; G: blocks that neither has. -/

structure SQ (w : World) (G : Nat → Prop) (b bx S : Nat) (R : Int) (key : ByteArray) (X : PS) (D : PD) (Q : Pods) (Fx Fq : Nat → Prop) : Prop where
  x : XIn w Fx bx X
  q : QIn w Fq b bx S R key D Q
  gb : ∀ k, G k → k < w.heap.size
  gx : ∀ k, Fx k → ¬ G k
  gq : ∀ k, Fq k → ¬ G k
  xq : ∀ k, Fx k → ¬ Fq k
  g0 : G 0
  f : Fours w
def JQ (w : World) (G : Nat → Prop) (b bx S : Nat) (R : Int) (key : ByteArray) (X : PS) (D : PD) (Q : Pods) : Prop := ∃ Fx Fq, SQ w G b bx S R key X D Q Fx Fq
theorem fours_of {w w' : World} (h : Fours w) (e : w'.heap[0]? = w.heap[0]?) (os : w'.os = w.os) (out : w'.output = w.output) (sz : w.heap.size ≤ w'.heap.size) : Fours w' :=
  h.later ⟨os, out, sz, fun k hk => by obtain rfl : k = 0 := by omega
                                       exact e⟩
variable {w w' : World} {G : Nat → Prop} {b bx S : Nat} {R : Int} {key : ByteArray} {X X' : PS} {D D' : PD} {Q Q' : Pods}
theorem JQ.low (h : JQ w G b bx S R key X D Q) (k : Low w.heap.size w w') : JQ w' G b bx S R key X D Q := by
  obtain ⟨Fx, Fq, h⟩ := h
  exact ⟨Fx, Fq, h.x.low k, h.q.low k, fun g hg => Nat.lt_of_lt_of_le (h.gb g hg) k.size, h.gx, h.gq, h.xq, h.g0, fours_of h.f (k.block 0 (h.gb 0 h.g0)) k.os k.output k.size⟩
theorem JQ.weak (h : JQ w G b bx S R key X D Q) {G' : Nat → Prop} (hs : ∀ k, G' k → G k) (g0 : G' 0) : JQ w G' b bx S R key X D Q := by
  obtain ⟨Fx, Fq, h⟩ := h
  exact ⟨Fx, Fq, h.x, h.q, fun k hk => h.gb k (hs k hk), fun k hk g => h.gx k hk (hs k g), fun k hk g => h.gq k hk (hs k g), h.xq, g0, h.f⟩
/-- What has come behind the two may be taken among those that they leave alone. -/
theorem JQ.wide (h : JQ w G b bx S R key X D Q) (k : Low w.heap.size w w') : JQ w' (fun i => G i ∨ (w.heap.size ≤ i ∧ i < w'.heap.size)) b bx S R key X D Q := by
  obtain ⟨Fx, Fq, h⟩ := h
  have hx := h.x.below
  have hq := h.q.below
  refine ⟨Fx, Fq, h.x.low k, h.q.low k, fun g hg => ?_, fun i f g => ?_, fun i f g => ?_, h.xq, Or.inl h.g0, fours_of h.f (k.block 0 (h.gb 0 h.g0)) k.os k.output k.size⟩
  · rcases hg with hg | hg
    · exact Nat.lt_of_lt_of_le (h.gb g hg) k.size
    · exact hg.2
  · rcases g with g | g
    · exact h.gx i f g
    · have := hx i f; omega
  · rcases g with g | g
    · exact h.gq i f g
    · have := hq i f; omega
theorem JQ.gb (h : JQ w G b bx S R key X D Q) : ∀ k, G k → k < w.heap.size := by
  obtain ⟨Fx, Fq, h⟩ := h
  exact h.gb
theorem JQ.pos (h : JQ w G b bx S R key X D Q) : 1 ≤ w.heap.size := by
  obtain ⟨Fx, Fq, h⟩ := h
  have := h.gb 0 h.g0
  omega
theorem JQ.f4 (h : JQ w G b bx S R key X D Q) : Fours w := by
  obtain ⟨Fx, Fq, h⟩ := h
  exact h.f
theorem JQ.q (h : JQ w G b bx S R key X D Q) : ∃ Fq, QIn w Fq b bx S R key D Q ∧ (∀ k, Fq k → ¬ G k) := by
  obtain ⟨Fx, Fq, h⟩ := h
  exact ⟨Fq, h.q, h.gq⟩
theorem JQ.callX {f : Nat} {args : List Value} {v : Value} (h : JQ w G b bx S R key X D Q) (hp : PUni f args X v X') :
    Calls Tryd.prog f (.pointer (some ⟨bx, 0, none⟩) :: args).toArray w fun e w' => e = .returned v ∧ JQ w' G b bx S R key X' D Q ∧ Kept (fun k => ¬ G k) w w' := by
  obtain ⟨Fx, Fq, h⟩ := h
  refine (hp w Fx bx h.x h.f (Nat.lt_of_le_of_lt (Nat.zero_le 0) (h.gb 0 h.g0))).mono ?_
  rintro e w' ⟨rfl, F', x', k, hF⟩
  have hq := h.q.below
  have hg := h.gb
  refine ⟨rfl, ⟨F', Fq, x', h.q.kept k (fun i hi g => h.xq i g hi), fun g hg => Nat.lt_of_lt_of_le (h.gb g hg) k.size, fun q f g => ?_, h.gq, fun q f g => ?_, h.g0, fours_of h.f (k.block 0 (h.gb 0 h.g0) (fun f => h.gx 0 f h.g0)) k.os k.output k.size⟩, k.mono (fun i _ f g => h.gx i f g)⟩
  · rcases hF q f with e | e
    · exact h.gx q e g
    · have := hg q g; omega
  · rcases hF q f with e | e
    · exact h.xq q e g
    · have := hq q g; omega
/-- Nothing of pods, nothing of what was told. -/
def Still (D D' : PD) : Prop := D'.pods = D.pods ∧ D'.seen = D.seen
/-- The player's own cells are written. -/
theorem JQ.write (h : JQ w G b bx S R key X D Q) (hw : ∀ Fq, QIn w Fq b bx S R key D Q → (∀ k, Fq k → ¬ G k) → ∃ Fq', QIn w' Fq' b bx S R key D' Q' ∧ Kept Fq w w' ∧ ∀ k, Fq' k → Fq k ∨ w.heap.size ≤ k) : JQ w' G b bx S R key X D' Q' ∧ Kept (fun k => ¬ G k) w w' := by
  obtain ⟨Fx, Fq, h⟩ := h
  obtain ⟨Fq', q', k, hF⟩ := hw Fq h.q h.gq
  have hx := h.x.below
  have hg := h.gb
  refine ⟨⟨Fx, Fq', h.x.kept k (fun i hi g => h.xq i hi g), q', fun g hg => Nat.lt_of_lt_of_le (h.gb g hg) k.size, h.gx, fun i f g => ?_, fun i f g => ?_, h.g0, fours_of h.f (k.block 0 (h.gb 0 h.g0) (fun f => h.gq 0 f h.g0)) k.os k.output k.size⟩, k.mono (fun i _ f g => h.gq i f g)⟩
  · rcases hF i f with e | e
    · exact h.gq i e g
    · have := hg i g; omega
  · rcases hF i g with e | e
    · exact h.xq i f e
    · have := hx i f; omega
/-! Lists of the player's grow; an operation is written whole. -/
theorem qin_rowD {F : Nat → Prop} (h : QIn w F b bx S R key D Q) : ∃ a cap, w.cell? ⟨b, 4, none⟩ = some (.slice a D.deeds.length cap) ∧ w.ownsRow 0 38 3 (.slice a D.deeds.length cap) D.deeds.length (D.deeds.flatMap Dd.cells) ∧ (Value.slice a D.deeds.length cap).ownBlock ≠ some b ∧ ∀ k, (Value.slice a D.deeds.length cap).ownBlock = some k → F k := by
  obtain ⟨hl, vD, vS, vK, hO⟩ := h
  obtain ⟨v, hv, ho, hF⟩ := hO.row 0 rfl
  have hn := hO.apart 0 rfl hv
  obtain ⟨a, cap, rfl, _, _⟩ := ownsRow_view ho
  exact ⟨a, cap, by rw [hO.cell]; exact hv, ho, hn, hF⟩
theorem qoffs (D : PD) (j : Nat) {r : Row} (hj : D.rows[j]? = some r) : ∀ i s, D.rows[i]? = some s → i ≠ j → s.off ≠ r.off := by
  intro i s hi hne e
  have hm : D.rows.map Row.off = [4, 85, 86] := rfl
  have a1 : ([4, 85, 86] : List Nat)[i]? = some s.off := by rw [← hm, List.getElem?_map, hi]; rfl
  have a2 : ([4, 85, 86] : List Nat)[j]? = some r.off := by rw [← hm, List.getElem?_map, hj]; rfl
  rw [e] at a1
  exact hne ((List.getElem?_inj (List.getElem?_eq_some_iff.1 a1).1 (by decide)).1 (a1.trans a2.symm))
theorem qin_appD {F : Nat → Prop} {w1 : World} {v v' : Value} {o : Obj} (h : QIn w F b bx S R key D Q) (hv : w.cell? ⟨b, 4, none⟩ = some v) (k : Kept (fun q => v.ownBlock = some q) (w.alloc o) w1) (d : Dd) (ho : w1.ownsRow 0 38 3 v' (D.deeds.length + 1) (D.deeds.flatMap Dd.cells ++ d.cells)) (P : v'.ownBlock = v.ownBlock ∨ v'.ownBlock = some (w.alloc o).heap.size) :
    QIn (w1.setCell ⟨b, 4, none⟩ v') (grow F w (w1.setCell ⟨b, 4, none⟩ v')) b bx S R key { D with deeds := D.deeds ++ [d] } Q ∧ Kept F w (w1.setCell ⟨b, 4, none⟩ v') := by
  obtain ⟨hl, vD, vS, vK, hO⟩ := h
  obtain rfl : vD = v := Option.some.inj ((hO.cell 4).symm.trans hv)
  obtain ⟨q1, q2⟩ := hO.appended (Low.refl _ w) 0 rfl rfl k ho P (qoffs D 0 rfl)
  exact ⟨⟨⟨hl.ops, hl.dest, hl.node, hl.needs, hl.need⟩, v', vS, vK, q1.cast rfl (by simp [PD.rows])⟩, q2⟩
theorem Own.sets {F : Nat → Prop} {t : TypeId} {R : List Row} : ∀ (vs : List Value) (o : Nat) {w : World} {C : List Value}, Own w F b t C R → (∀ r ∈ R, r.off < o ∨ o + vs.length ≤ r.off) → Own (w.setCells b o vs) F b t (over C o vs) R
  | [], _, _, _, h, _ => h
  | v :: r, o, _, _, h, hr => Own.sets r (o + 1) (h.set o v (fun x hx e => by have := hr x hx; simp at this; omega)) (fun x hx => by have := hr x hx; simp at this; omega)
theorem over_right (hd cs : List Value) : ∀ (vs : List Value) (o : Nat), over (hd ++ cs) (hd.length + o) vs = hd ++ over cs o vs := by
  intro vs
  induction vs generalizing cs with
  | nil => intro o; rfl
  | cons v r ih =>
    intro o
    show over ((hd ++ cs).set (hd.length + o) v) (hd.length + o + 1) r = hd ++ over (cs.set o v) (o + 1) r
    rw [List.set_append_right _ _ (by omega), show hd.length + o - hd.length = o by omega, show hd.length + o + 1 = hd.length + (o + 1) by omega]
    exact ih (cs.set o v) (o + 1)
theorem over_left (cs tl : List Value) : ∀ (vs : List Value) (o : Nat), o + vs.length ≤ cs.length → over (cs ++ tl) o vs = over cs o vs ++ tl := by
  intro vs
  induction vs generalizing cs with
  | nil => intro o _; rfl
  | cons v r ih =>
    intro o ho
    show over ((cs ++ tl).set o v) (o + 1) r = over (cs.set o v) (o + 1) r ++ tl
    simp at ho
    rw [List.set_append_left _ _ (by omega)]
    exact ih (cs.set o v) (o + 1) (by simp; omega)
theorem qin_setOp {F : Nat → Prop} (h : QIn w F b bx S R key D Q) {s : Nat} (hs : s < 4) (u : Und2) : QIn (w.setCells b (6 + s * 4) u.cells) F b bx S R key { D with ops := D.ops.set s u } Q ∧ Kept F w (w.setCells b (6 + s * 4) u.cells) ∧ w.there b (6 + s * 4) 4 := by
  obtain ⟨hl, vD, vS, vK, hO⟩ := h
  have hk : Kept F w (w.setCells b (6 + s * 4) u.cells) := (setCells_kept b u.cells (6 + s * 4) w).mono (fun q _ e => by rw [show q = b from e]; exact hO.inF)
  have e : over (qcells bx S R key D Q vD vS vK) (6 + s * 4) u.cells = qcells bx S R key { D with ops := D.ops.set s u } Q vD vS vK := by
    unfold qcells
    have e1 := over_right (headOf bx S R key D vD) (midOf D Q ++ [vS, vK]) u.cells (s * 4)
    have e2 : (headOf bx S R key D vD).length = 6 := rfl
    rw [e2] at e1
    rw [e1, over_left (midOf D Q) [vS, vK] u.cells (s * 4) (by rw [hl.mid, Und2.len]; omega)]
    have e3 : over (midOf D Q) (s * 4) u.cells = midOf { D with ops := D.ops.set s u } Q := by
      unfold midOf
      rw [over_left _ _ u.cells (s * 4) (by rw [flat_length 4 Und2.cells Und2.len, hl.ops, Und2.len]; omega), flat_set 4 Und2.cells Und2.len D.ops s u (by rw [hl.ops]; exact hs)]
      rfl
    rw [e3]
    rfl
  refine ⟨⟨⟨by simp [hl.ops], hl.dest, hl.node, hl.needs, hl.need⟩, vD, vS, vK, (Own.sets u.cells (6 + s * 4) hO ?_).cast e rfl⟩, hk, ?_⟩
  · intro r hr
    simp [PD.rows] at hr
    rw [Und2.len]
    rcases hr with rfl | rfl | rfl
    · left; show 4 < _; omega
    · right; show _ ≤ 85; omega
    · right; show _ ≤ 86; omega
  · refine hO.blk.there ?_
    unfold qcells
    rw [List.length_append, List.length_append, hl.mid]
    show 6 + s * 4 + 4 ≤ 6 + (79 + 2)
    omega
end Go.Proofs.YtphapknfkbgapabDoor
