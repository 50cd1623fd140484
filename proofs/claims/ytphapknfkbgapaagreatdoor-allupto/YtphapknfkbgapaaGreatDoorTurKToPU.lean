import Derived.Test.YtphapknfkbgapaaGreatDoorTurGToTelB
import Derived.Test.YtphapknfkbgapaaGreatDoorLawEToRefK
import Derived.Test.YtphapknfkbgapaaGreatDoorPIToPK
import Derived.Deep.DeepCutAuto
import Derived.Laws.Cover1
namespace Go.Proofs.YtphapknfkbgapaaGreatDoor
open Go.RowKit

variable {F : Nat → Prop} {b : Nat} {Y : RS}

/-! Fetch. -/
/-- Every need is a pod's. -/
def NeedsOk (Y : RS) : Prop := ∀ q ∈ Y.needs, ∃ p, p < 8 ∧ q.1 = digitOf p
def podOf (s : ByteArray) : Nat := (s.data.toList.headD 48).toNat - 48
def wants (Y : RS) (node : Int) (name : ByteArray) (q : ByteArray × ByteArray) : Bool := (Y.node[podOf q.1]?.getD 0 == node) && (q.2.toList == name.toList)
def allowedOf (Y : RS) (node : Int) (name : ByteArray) : Bool := Y.needs.any (wants Y node name)
theorem podOf_digit (p : Nat) (hp : p < 8) : podOf (digitOf p) = p := by
  unfold podOf digitOf
  show (UInt8.ofNat (48 + p)).toNat - 48 = p
  rw [UInt8.toNat_ofNat']
  omega
theorem Fetch_srv (w : World) (s node : Int) (name : ByteArray) (h : RIn w F b Y) (hs : isSrv Y.seen.length s = false) :
    Calls Tryz.prog 36 #[.pointer (some ⟨b, 0, none⟩), .int .i64 s, .int .i64 node, .string name] w fun e w' => e = .returned (.tuple #[.string ⟨#[]⟩, .int .i64 4]) ∧ w' = w := by
  have HR := hid h
  have HS := hid hs
  clear h hs
  go_enter Tryz.func36, Tryz.ntmps36
  go_wp2_with (go_at_call 61; refine (server_any _ _ HR.out).mono ?_; rw [HS.out]; rintro e y1 ⟨rfl, hy⟩; obtain rfl := hy.symm)
  go_ret2
  exact ⟨rfl, rfl⟩
def badNode (node : Int) : Bool := decide (node < 0) || decide (4 ≤ node)
theorem Fetch_arg (w : World) (s node : Int) (name : ByteArray) (h : RIn w F b Y) (hs : isSrv Y.seen.length s = true) (hb : badNode node = true) :
    Calls Tryz.prog 36 #[.pointer (some ⟨b, 0, none⟩), .int .i64 s, .int .i64 node, .string name] w fun e w' => e = .returned (.tuple #[.string ⟨#[]⟩, .int .i64 2]) ∧ w' = w := by
  have HR := hid h
  have HS := hid hs
  unfold badNode at hb
  clear h hs
  cases q1 : decide (node < 0)
  · rw [q1, Bool.false_or] at hb
    go_enter Tryz.func36, Tryz.ntmps36
    go_wp2_with (go_at_call 61; refine (server_any _ _ HR.out).mono ?_; rw [HS.out]; rintro e y1 ⟨rfl, hy⟩; obtain rfl := hy.symm)
    go_ret2
    exact ⟨rfl, rfl⟩
  · clear hb
    go_enter Tryz.func36, Tryz.ntmps36
    go_wp2_with (go_at_call 61; refine (server_any _ _ HR.out).mono ?_; rw [HS.out]; rintro e y1 ⟨rfl, hy⟩; obtain rfl := hy.symm)
    go_ret2
    exact ⟨rfl, rfl⟩
set_option maxRecDepth 100000 in
set_option maxHeartbeats 1000000 in
theorem Fetch_any (w : World) (s node : Int) (name : ByteArray) (h : RIn w F b Y) (hs : isSrv Y.seen.length s = true) (hb : badNode node = false) (hn : Y.needs.length ≤ 1000) (hN : NeedsOk Y) (A : ByteArray) (B C : Int)
    (hG : Calls Tryz.prog 32 #[.pointer (some ⟨b, 0, none⟩), .int .i64 s, .string name] w fun e w' => e = .returned (.tuple #[.string A, .int .i64 B, .int .i64 C]) ∧ Low w.heap.size w w') :
    Calls Tryz.prog 36 #[.pointer (some ⟨b, 0, none⟩), .int .i64 s, .int .i64 node, .string name] w fun e w' => (allowedOf Y node name = false ∧ e = .returned (.tuple #[.string ⟨#[]⟩, .int .i64 21]) ∧ w' = w) ∨ (allowedOf Y node name = true ∧ e = .returned (.tuple #[.string A, .int .i64 C]) ∧ Low w.heap.size w w') := by
  have HR := hid h
  have HS := hid hs
  have HN := hid hN
  have HGE := hid hG
  unfold badNode at hb
  rw [Bool.or_eq_false_iff] at hb
  obtain ⟨q1, q2⟩ := hb
  obtain ⟨a5, cap5, hc5, _⟩ := h.needs
  rw [List.length_map] at hc5
  clear h hs hN hG
  go_enter Tryz.func36, Tryz.ntmps36
  go_wp2_with (go_at_call 61; refine (server_any _ _ HR.out).mono ?_; rw [HS.out]; rintro e y1 ⟨rfl, hy⟩; obtain rfl := hy.symm)
  go_loopg [11, 12] Y.needs.length (fun left av iv wr => ∃ i : Nat, left = Y.needs.length - i ∧ i ≤ Y.needs.length ∧ av = .bool ((Y.needs.take i).any (wants Y node name)) ∧ iv = .int .i64 (i : Int) ∧ w = wr)
  case atStart => exact ⟨0, rfl, Nat.zero_le _, rfl, rfl, rfl⟩
  case round =>
    obtain ⟨i, hgk, hi, rfl, rfl, rfl⟩ := hrel
    have HGK := hid hgk
    clear hgk
    obtain ⟨al, hal⟩ : ∃ al, al = (Y.needs.take i).any (wants Y node name) := ⟨_, rfl⟩
    rw [← hal]
    have HAL := hid hal
    clear hal
    by_cases h3 : i < Y.needs.length
    · have q3 : decide ((i : Int) < (Y.needs.length : Int)) = true := by simp; omega
      have il : (i : Int) < (Y.needs.length : Int) := by omega
      obtain ⟨q, hq2⟩ : ∃ q, Y.needs[i]? = some q := ⟨_, List.getElem?_eq_getElem h3⟩
      obtain ⟨p, hp8, hpq⟩ := HN.out q (List.mem_of_getElem? hq2)
      obtain ⟨g, cap, hc, hg, p0, p1, _⟩ := HR.out.needCell i q hq2
      obtain ⟨x, hx⟩ : ∃ x, Y.node[p]? = some x := ⟨_, List.getElem?_eq_getElem (by rw [HR.out.1]; exact hp8)⟩
      have cx := HR.out.nodeCell p x hx
      have HST : Hid ((Y.needs.take (i + 1)).any (wants Y node name) = (al || ((x == node) && (q.2.toList == name.toList)))) := by
        show _ = _
        rw [any_snoc _ i q _ hq2, ← HAL.out]
        unfold wants
        rw [hpq, podOf_digit p hp8, hx]; rfl
      obtain ⟨s0, hs0⟩ : ∃ s0, s0 = q.1 := ⟨_, rfl⟩
      rw [← hs0] at p0
      have hsz : s0.size = 1 := by rw [hs0, hpq]; rfl
      have hlt : 0 < s0.size := by omega
      have hby : ((s0[0]'hlt).toNat : Int) = 48 + (p : Int) := by
        subst hs0
        have : ∀ (t : ByteArray) (ht : t = digitOf p) (hh : 0 < t.size), ((t[0]'hh).toNat : Int) = 48 + (p : Int) := by
          intro t ht hh
          subst ht
          show ((UInt8.ofNat (48 + p)).toNat : Int) = _
          rw [UInt8.toNat_ofNat']
          omega
        exact this _ hpq hlt
      have pl : (p : Int) < 8 := by omega
      clear hq2 hpq hx hs0 hc5
      cases qa : al
      · cases qx : (x == node)
        · go_wp2_with fail
          go_roundg (Y.needs.length - (i + 1))
          case rel => exact ⟨i + 1, rfl, by omega, by rw [HST.out, qa, qx]; rfl, by simp, rfl⟩
          case measure => have := HGK.out; omega
        · go_wp2_with fail
          go_roundg (Y.needs.length - (i + 1))
          case rel => exact ⟨i + 1, rfl, by omega, by rw [HST.out, qa, qx, Bool.false_or, Bool.true_and], by simp, rfl⟩
          case measure => have := HGK.out; omega
      · go_wp2_with fail
        go_roundg (Y.needs.length - (i + 1))
        case rel => exact ⟨i + 1, rfl, by omega, by rw [HST.out, qa]; rfl, by simp, rfl⟩
        case measure => have := HGK.out; omega
    · have q3 : decide ((i : Int) < (Y.needs.length : Int)) = false := by simp; omega
      have HAA : Hid (allowedOf Y node name = al) := by
        show _ = _
        unfold allowedOf
        rw [HAL.out, List.take_of_length_le (by omega)]
      cases qa : al
      · go_wp2_with fail
        go_ret2
        exact Or.inl ⟨by rw [HAA.out]; exact qa, rfl, rfl⟩
      · go_wp2_with (go_at_call 32; refine HGE.out.mono ?_; rintro e y2 ⟨rfl, l2⟩; have L2 := hid l2; clear l2)
        go_ret2
        exact Or.inr ⟨by rw [HAA.out]; exact qa, rfl, L2.out⟩
end Go.Proofs.YtphapknfkbgapaaGreatDoor
namespace Go.Proofs.YtphapknfkbgapaaGreatDoor
open Go.RowKit

/-! The order of paths is that of Go's strings. -/
theorem before_less : ∀ (a c : List UInt8), beforeL a c = Op.bytesLess a c
  | [], [] => rfl
  | _ :: _, [] => rfl
  | [], _ :: _ => rfl
  | x :: xs, y :: ys => by
    have ih := before_less xs ys
    show (if x != y then decide (x < y) else beforeL xs ys) = (decide (x < y) || (x == y && Op.bytesLess xs ys))
    rw [ih]
    by_cases e : x = y
    · subst e
      have : ¬ x < x := by rw [UInt8.lt_iff_toNat_lt]; omega
      simp [this]
    · simp [e]
theorem before_string (a c : ByteArray) : beforeOf a c = Op.bytesLess a.toList c.toList := by
  unfold beforeOf
  rw [before_less, ByteArray.toList_eq, ByteArray.toList_eq]
end Go.Proofs.YtphapknfkbgapaaGreatDoor
namespace Go.Proofs.YtphapknfkbgapaaGreatDoor
open Go.RowKit

/-! What Migrate moves next: the least path that is due. -/
theorem u8_eq {x y : UInt8} (h : x.toNat = y.toNat) : x = y := UInt8.toNat_inj.1 h
theorem before_step (x y : UInt8) (xs ys : List UInt8) : beforeL (x :: xs) (y :: ys) = (decide (x.toNat < y.toNat) || (decide (x.toNat = y.toNat) && beforeL xs ys)) := by
  rw [before_cons]
  by_cases e : x.toNat = y.toNat
  · have h1 : ((x.toNat : Int) != (y.toNat : Int)) = false := by rw [bne_eq_false_iff_eq]; omega
    have h2 : decide (x.toNat < y.toNat) = false := by simp; omega
    rw [h1, h2, decide_eq_true e]
    simp
  · have h1 : ((x.toNat : Int) != (y.toNat : Int)) = true := by rw [bne_iff_ne]; omega
    rw [h1, decide_eq_false e]
    simp
theorem before_trans : ∀ (a b c : List UInt8), beforeL a b = true → beforeL b c = true → beforeL a c = true
  | [], [], _, h1, _ => by cases h1
  | _ :: _, [], _, h1, _ => by cases h1
  | [], _ :: _, [], _, h2 => by cases h2
  | _ :: _, _ :: _, [], _, h2 => by cases h2
  | [], _ :: _, _ :: _, _, _ => rfl
  | x :: xs, y :: ys, z :: zs, h1, h2 => by
    have ih := before_trans xs ys zs
    rw [before_step, Bool.or_eq_true, Bool.and_eq_true, decide_eq_true_eq, decide_eq_true_eq] at h1 h2 ⊢
    rcases h1 with h1 | h1
    · rcases h2 with h2 | h2
      · left; omega
      · left; omega
    · rcases h2 with h2 | h2
      · left; omega
      · right; exact ⟨by omega, ih h1.2 h2.2⟩
theorem before_irrefl : ∀ (a : List UInt8), beforeL a a = false
  | [] => rfl
  | x :: xs => by
    rw [before_step, before_irrefl xs]
    simp
theorem before_total : ∀ (a b : List UInt8), beforeL a b = false → beforeL b a = false → a = b
  | [], [], _, _ => rfl
  | [], _ :: _, h, _ => by cases h
  | _ :: _, [], _, h => by cases h
  | x :: xs, y :: ys, h1, h2 => by
    rw [before_step, Bool.or_eq_false_iff, decide_eq_false_iff_not] at h1 h2
    have e : x.toNat = y.toNat := by omega
    have a1 := h1.2
    have a2 := h2.2
    rw [decide_eq_true e, Bool.true_and] at a1
    rw [decide_eq_true e.symm, Bool.true_and] at a2
    rw [u8_eq e, before_total xs ys a1 a2]
/-- The newest entry of x's path may be moved; its secret is s. -/
structure Moves (Y : RS) (m : Int) (x : Ent) (E : Ent) (s : ByteArray) : Prop where
  newest : E = (lastOf Y.all x.path).getD Ent.zero
  there : E.gone = false
  old : E.key ≠ m
  opens : openedOf (keyAt Y.keys E.key) E Y.epoch = (s, 0)
structure DueSpec (Y : RS) (m : Int) (l : List Ent) (d : Due) : Prop where
  no : d.found = false → ∀ x ∈ l, ∀ E s, ¬ Moves Y m x E s
  yes : d.found = true → ∃ x ∈ l, ∃ E, Moves Y m x E d.text ∧ E.path = d.name
  least : d.found = true → ∀ x ∈ l, ∀ E s, Moves Y m x E s → beforeOf E.path d.name = false
theorem due_spec (Y : RS) (m : Int) (l : List Ent) : DueSpec Y m l (l.foldl (dueStep Y m) due0) := by
  refine snoc_ind (P := fun l => DueSpec Y m l (l.foldl (dueStep Y m) due0)) ?_ ?_ l
  · exact ⟨fun _ x hx => (by simp at hx), fun h => (by cases h), fun h => (by cases h)⟩
  · intro l x ih
    rw [List.foldl_append]
    show DueSpec Y m (l ++ [x]) (dueStep Y m (l.foldl (dueStep Y m) due0) x)
    obtain ⟨d, hd⟩ : ∃ d, d = l.foldl (dueStep Y m) due0 := ⟨_, rfl⟩
    rw [← hd] at ih ⊢
    obtain ⟨E, hE⟩ : ∃ E, E = (lastOf Y.all x.path).getD Ent.zero := ⟨_, rfl⟩
    unfold dueStep
    rw [← hE]
    -- where x does not move, nothing changes
    have same : (∀ s, ¬ Moves Y m x E s) → DueSpec Y m (l ++ [x]) d := fun hno => by
      have hx : ∀ E' s, ¬ Moves Y m x E' s := fun E' s q => by
        have e : E' = E := q.newest.trans hE.symm
        subst e
        exact hno s q
      refine ⟨fun h y hy E' s q => ?_, fun h => ?_, fun h y hy E' s q => ?_⟩
      · rcases List.mem_append.1 hy with hy | hy
        · exact ih.no h y hy E' s q
        · obtain rfl := List.mem_singleton.1 hy; exact hx E' s q
      · obtain ⟨y, hy, r⟩ := ih.yes h
        exact ⟨y, List.mem_append_left _ hy, r⟩
      · rcases List.mem_append.1 hy with hy | hy
        · exact ih.least h y hy E' s q
        · obtain rfl := List.mem_singleton.1 hy; exact absurd q (hx E' s)
    by_cases hskip : (E.gone || (E.key == m)) = true
    · rw [if_pos hskip]
      refine same (fun s q => ?_)
      rw [Bool.or_eq_true] at hskip
      rcases hskip with r | r
      · rw [q.there] at r; cases r
      · exact q.old (by simpa using r)
    · rw [if_neg hskip]
      have hs1 : E.gone = false ∧ E.key ≠ m := by
        rw [Bool.not_eq_true, Bool.or_eq_false_iff] at hskip
        exact ⟨hskip.1, by simpa using hskip.2⟩
      obtain ⟨O, hO⟩ : ∃ O, O = openedOf (keyAt Y.keys E.key) E Y.epoch := ⟨_, rfl⟩
      rw [← hO]
      unfold dueNew
      by_cases h0 : O.2 = 0
      · have hm : Moves Y m x E O.1 := ⟨hE, hs1.1, hs1.2, by rw [← hO, ← h0]⟩
        have hz : (O.2 == 0) = true := by rw [h0]; rfl
        rw [hz, Bool.true_and]
        by_cases hn : (!d.found || beforeOf E.path d.name) = true
        · rw [if_pos hn]
          refine ⟨fun h => (by cases h), fun _ => ⟨x, by simp, E, hm, rfl⟩, fun _ y hy E' s q => ?_⟩
          show beforeOf E'.path E.path = false
          rcases List.mem_append.1 hy with hy | hy
          · cases hf : d.found
            · exact absurd q (ih.no hf y hy E' s)
            · rw [hf] at hn
              have hb : beforeOf E.path d.name = true := by simpa using hn
              have hl := ih.least hf y hy E' s q
              cases hq : beforeOf E'.path E.path
              · rfl
              · have := before_trans _ _ _ hq hb
                unfold beforeOf at hl
                rw [this] at hl
                cases hl
          · obtain rfl := List.mem_singleton.1 hy
            have e : E' = E := q.newest.trans hE.symm
            subst e
            exact before_irrefl _
        · rw [if_neg hn]
          rw [Bool.not_eq_true, Bool.or_eq_false_iff] at hn
          have hf : d.found = true := by simpa using hn.1
          refine ⟨fun h => (by rw [hf] at h; cases h), fun h => ?_, fun h y hy E' s q => ?_⟩
          · obtain ⟨y, hy, r⟩ := ih.yes h
            exact ⟨y, List.mem_append_left _ hy, r⟩
          · rcases List.mem_append.1 hy with hy | hy
            · exact ih.least h y hy E' s q
            · obtain rfl := List.mem_singleton.1 hy
              have e : E' = E := q.newest.trans hE.symm
              subst e
              exact hn.2
      · have hz : (O.2 == 0) = false := by rw [beq_eq_false_iff_ne]; exact h0
        rw [hz, Bool.false_and, if_neg (by simp)]
        refine same (fun s q => ?_)
        have := q.opens
        rw [← hO] at this
        exact h0 (by rw [this])
/-- Two that fit are one. -/
theorem due_unique {Y : RS} {m : Int} {l : List Ent} {d d' : Due} (h : DueSpec Y m l d) (h' : DueSpec Y m l d') (hf : d.found = true) (hf' : d'.found = true) : d.name = d'.name := by
  obtain ⟨x, hx, E, q, e⟩ := h.yes hf
  obtain ⟨x', hx', E', q', e'⟩ := h'.yes hf'
  have a1 := h.least hf x' hx' E' _ q'
  have a2 := h'.least hf' x hx E _ q
  rw [e'] at a1
  rw [e] at a2
  have := before_total _ _ a2 a1
  exact bytes_ext this
theorem last_path {l : List RKept} {p q : ByteArray} (h : p.toList = q.toList) : lastOf l p = lastOf l q := by
  unfold lastOf
  rw [h]
/-- So there is but one answer: the document's due is any that fits. -/
theorem due_only {Y : RS} {m : Int} {d d' : Due} (h : DueSpec Y m (keptOf Y.all) d) (h' : DueSpec Y m (keptOf Y.all) d') (hf : d.found = true) (hf' : d'.found = true) : d.name = d'.name ∧ d.text = d'.text := by
  have hn := due_unique h h' hf hf'
  refine ⟨hn, ?_⟩
  obtain ⟨x, hx, E, q, e⟩ := h.yes hf
  obtain ⟨x', hx', E', q', e'⟩ := h'.yes hf'
  obtain ⟨k, _, hk⟩ := last_some hx
  obtain ⟨k', _, hk'⟩ := last_some hx'
  have a : E = k.e := by rw [q.newest, hk]; rfl
  have a' : E' = k'.e := by rw [q'.newest, hk']; rfl
  obtain ⟨_, _, _, _, p1⟩ := lastOf_mem hk
  obtain ⟨_, _, _, _, p2⟩ := lastOf_mem hk'
  have b : x.path.toList = x'.path.toList := by
    rw [← p1, ← p2, ← a, ← a', e, e', hn]
  have c : E = E' := by rw [q.newest, q'.newest, last_path b]
  have o := q.opens
  rw [c, q'.opens] at o
  exact (congrArg Prod.fst o).symm
theorem dueOf_spec (Y : RS) : DueSpec Y (writesOf Y.keys Y.epoch) (keptOf Y.all) (dueOf Y) := due_spec Y _ _
end Go.Proofs.YtphapknfkbgapaaGreatDoor
namespace Go.Proofs.YtphapknfkbgapaaGreatDoor
open Go.RowKit

variable {F : Nat → Prop} {b : Nat} {X : PS}

/-! Turning the key: the program's small functions. -/
theorem info56 : (Tryz.prog.info? 56).map (fun i => (i.zero, i.size, i.bytes)) = some (some (.agg #[.string ⟨#[]⟩, .int .i64 0, .int .i64 0]), 3, 32) := by kernel_rfl
theorem xin_rowK {w : World} (h : XIn w F b X) : ∃ a cap, w.cell? ⟨b, 7, none⟩ = some (.slice a X.keys.length cap) ∧ w.ownsRow 0 56 3 (.slice a X.keys.length cap) X.keys.length (X.keys.flatMap PKey.cells) ∧ (Value.slice a X.keys.length cap).ownBlock ≠ some b := by
  obtain ⟨vK, vS, vE, vN, hN, hO⟩ := h
  obtain ⟨v, hv, ho, _⟩ := hO.row 0 rfl
  have hn := hO.apart 0 rfl hv
  obtain ⟨a, cap, rfl, _, _⟩ := ownsRow_view ho
  exact ⟨a, cap, by rw [hO.cell]; exact hv, ho, hn⟩
theorem xin_appK {w w1 : World} {v v' : Value} {o : Obj} (h : XIn w F b X) (hv : w.cell? ⟨b, 7, none⟩ = some v) (k : Kept (fun q => v.ownBlock = some q) (w.alloc o) w1) (K : PKey) (ho : w1.ownsRow 0 56 3 v' (X.keys.length + 1) (X.keys.flatMap PKey.cells ++ K.cells)) (P : v'.ownBlock = v.ownBlock ∨ v'.ownBlock = some (w.alloc o).heap.size) :
    XIn (w1.setCell ⟨b, 7, none⟩ v') (grow F w (w1.setCell ⟨b, 7, none⟩ v')) b { X with keys := X.keys ++ [K] } ∧ Kept F w (w1.setCell ⟨b, 7, none⟩ v') := by
  obtain ⟨vK, vS, vE, vN, hN, hO⟩ := h
  obtain rfl : vK = v := Option.some.inj ((hO.cell 7).symm.trans hv)
  obtain ⟨q1, q2⟩ := hO.appended (Low.refl _ w) 0 rfl rfl k ho P (X.offs 0 rfl)
  exact ⟨⟨v', vS, vE, vN, hN, q1.cast rfl (by simp [PS.rows])⟩, q2⟩
theorem xin_keyFull {w : World} {i : Nat} {K : PKey} (h : XIn w F b X) (hk : X.keys[i]? = some K) : ∃ g cap, w.cell? ⟨b, 7, none⟩ = some (.slice (some ⟨g, 0, none⟩) X.keys.length cap) ∧ g < w.heap.size ∧ (∀ j, j < 3 → w.cell? ⟨g, i * 3 + j, none⟩ = K.cells[j]?) ∧ ∀ j, w.frozen? ⟨g, j, none⟩ = false := by
  obtain ⟨a, cap, hc, hel⟩ := xin_keys h
  rw [List.length_map] at hc
  obtain ⟨g, rfl, hg, hcs, hf⟩ := hel i K.cells (by rw [List.getElem?_map, hk]; rfl)
  exact ⟨g, cap, hc, hg, hcs, hf⟩
theorem xin_setWrote {w : World} (h : XIn w F b X) {g cap : Nat} (hc : w.cell? ⟨b, 7, none⟩ = some (.slice (some ⟨g, 0, none⟩) X.keys.length cap)) (i : Nat) (P : PKey) (hP : X.keys[i]? = some P) (v : Int) :
    XIn (w.setCell ⟨g, i * 3 + 2, none⟩ (.int .i64 v)) F b { X with keys := X.keys.set i { P with wrote := v } } ∧ Kept F w (w.setCell ⟨g, i * 3 + 2, none⟩ (.int .i64 v)) := by
  obtain ⟨vK, vS, vE, vN, hN, hO⟩ := h
  obtain rfl : vK = _ := Option.some.inj ((hO.cell 7).symm.trans hc)
  obtain ⟨q1, q2⟩ := own_cellSet hO 0 PKey.len rfl rfl i P { P with wrote := v } hP 2 (by omega) (.int .i64 v) rfl
  exact ⟨⟨_, vS, vE, vN, hN, q1.cast rfl (by simp [PS.rows])⟩, q2⟩
theorem xin_setText {w : World} (h : XIn w F b X) {g cap : Nat} (hc : w.cell? ⟨b, 7, none⟩ = some (.slice (some ⟨g, 0, none⟩) X.keys.length cap)) (i : Nat) (P : PKey) (hP : X.keys[i]? = some P) (v : ByteArray) :
    XIn (w.setCell ⟨g, i * 3, none⟩ (.string v)) F b { X with keys := X.keys.set i { P with text := v } } ∧ Kept F w (w.setCell ⟨g, i * 3, none⟩ (.string v)) := by
  obtain ⟨vK, vS, vE, vN, hN, hO⟩ := h
  obtain rfl : vK = _ := Option.some.inj ((hO.cell 7).symm.trans hc)
  obtain ⟨q1, q2⟩ := own_cellSet hO 0 PKey.len rfl rfl i P { P with text := v } hP 0 (by omega) (.string v) rfl
  exact ⟨⟨_, vS, vE, vN, hN, q1.cast rfl (by simp [PS.rows])⟩, q2⟩
theorem xset_kept {w : World} (h : XIn w F b X) (i : Nat) (v : Value) : Kept F w (w.setCell ⟨b, i, none⟩ v) := (setCell_kept w ⟨b, i, none⟩ v).mono (fun q _ e => by rw [show q = b from e]; exact h.inF)
/-- The table of package seal is none of a coffer's blocks. -/
theorem xin_apart0 {w : World} (h : XIn w F b X) (hF : Fours w) (hk : 1 ≤ X.keys.length) (hs : 1 ≤ X.servers.length) (he : 1 ≤ X.entries.length) : XIn w (fun k => F k ∧ k ≠ 0) b X := by
  obtain ⟨vK, vS, vE, vN, hN, hO⟩ := h
  have hb0 : b ≠ 0 := by
    rintro rfl
    have c := hO.cell 7
    rw [hF.t7] at c
    obtain ⟨v, hv, ho, _⟩ := hO.row 0 rfl
    obtain ⟨a, cap, rfl, _, _⟩ := ownsRow_view ho
    have e : (X.cells vK vS vE vN)[7]? = some (.slice a X.keys.length cap) := hv
    rw [e] at c
    cases c
  obtain ⟨τ, t0, hr⟩ := hO.rows
  have no : ∀ (j : Nat) (r : Row), X.rows[j]? = some r → ∀ v, (X.cells vK vS vE vN)[r.off]? = some v → w.ownsRow 0 r.e r.size v r.n r.xs → v.ownBlock ≠ some 0 := by
    intro j r hj v hv ho e
    have hcases : j = 0 ∨ j = 1 ∨ j = 2 ∨ j = 3 ∨ j = 4 ∨ j = 5 ∨ j = 6 ∨ j = 7 ∨ j = 8 ∨ j = 9 ∨ j = 10 := by have := (List.getElem?_eq_some_iff.1 hj).1; simp [PS.rows] at this; omega
    have hpod : ∀ i, (X.cells vK vS vE vN)[r.off]? = some (vN i) → False := fun i q => hN i (by rw [Option.some.inj (q.symm.trans hv)]; exact e)
    rcases hcases with hc | hc | hc | hc | hc | hc | hc | hc | hc | hc | hc
    · subst hc
      obtain ⟨a, cap, rfl, hcap, hg⟩ := ownsRow_view ho
      obtain rfl := (Option.some.inj hj).symm
      obtain ⟨g, rfl, _, hcs, _⟩ := hg (by show 0 < X.keys.length; omega)
      obtain rfl : g = 0 := Option.some.inj e
      obtain ⟨k, r, hkr⟩ : ∃ k r, X.keys = k :: r := by cases hq : X.keys with
        | nil => rw [hq] at hk; cases hk
        | cons k r => exact ⟨k, r, rfl⟩
      have c := hcs 0 (by show 0 < X.keys.length * 3; omega)
      rw [hF.t0] at c
      have c2 : some (Value.int .i64 0) = (X.keys.flatMap PKey.cells)[0]? := c
      rw [hkr] at c2
      cases c2
    · subst hc
      obtain ⟨a, cap, rfl, hcap, hg⟩ := ownsRow_view ho
      obtain rfl := (Option.some.inj hj).symm
      obtain ⟨g, rfl, _, hcs, _⟩ := hg (by show 0 < X.servers.length; omega)
      obtain rfl : g = 0 := Option.some.inj e
      obtain ⟨k, r, hkr⟩ : ∃ k r, X.servers = k :: r := by cases hq : X.servers with
        | nil => rw [hq] at hs; cases hs
        | cons k r => exact ⟨k, r, rfl⟩
      have c := hcs 1 (by show 1 < X.servers.length * 10; omega)
      rw [hF.t1] at c
      have c2 : some (Value.int .i64 4) = (X.servers.flatMap PSrv.cells)[1]? := c
      rw [hkr] at c2
      cases c2
    · subst hc
      obtain ⟨a, cap, rfl, hcap, hg⟩ := ownsRow_view ho
      obtain rfl := (Option.some.inj hj).symm
      obtain ⟨g, rfl, _, hcs, _⟩ := hg (by show 0 < X.entries.length; omega)
      obtain rfl : g = 0 := Option.some.inj e
      obtain ⟨k, r, hkr⟩ : ∃ k r, X.entries = k :: r := by cases hq : X.entries with
        | nil => rw [hq] at he; cases he
        | cons k r => exact ⟨k, r, rfl⟩
      have c := hcs 0 (by show 0 < X.entries.length * 6; omega)
      rw [hF.t0] at c
      have c2 : some (Value.int .i64 0) = (X.entries.flatMap Ent.cells)[0]? := c
      rw [hkr] at c2
      cases c2
    · subst hc; obtain rfl := (Option.some.inj hj).symm; exact hpod 0 rfl
    · subst hc; obtain rfl := (Option.some.inj hj).symm; exact hpod 1 rfl
    · subst hc; obtain rfl := (Option.some.inj hj).symm; exact hpod 2 rfl
    · subst hc; obtain rfl := (Option.some.inj hj).symm; exact hpod 3 rfl
    · subst hc; obtain rfl := (Option.some.inj hj).symm; exact hpod 4 rfl
    · subst hc; obtain rfl := (Option.some.inj hj).symm; exact hpod 5 rfl
    · subst hc; obtain rfl := (Option.some.inj hj).symm; exact hpod 6 rfl
    · subst hc; obtain rfl := (Option.some.inj hj).symm; exact hpod 7 rfl
  refine ⟨vK, vS, vE, vN, hN, hO.blk, ⟨hO.inF, hb0⟩, fun k hk => hO.below k hk.1, τ, t0, fun j r hj => ?_⟩
  obtain ⟨v, hv, ho, hq⟩ := hr j r hj
  exact ⟨v, hv, ho, fun k e => ⟨⟨(hq k e).1, fun e0 => no j r hj v hv ho (by rw [e, e0])⟩, (hq k e).2⟩⟩
theorem Fours.kept {w w' : World} {G : Nat → Prop} (h : Fours w) (h1 : 1 ≤ w.heap.size) (k : Kept G w w') (h0 : ¬ G 0) : Fours w' :=
  h.later ⟨k.os, k.output, k.size, fun i hi => by
    obtain rfl : i = 0 := by omega
    exact k.block 0 (by omega) h0⟩
def pProm (X : PS) : Bool := (X.turn == 2) || (X.turn == 3)
theorem isPromoted_any (w : World) (h : XIn w F b X) :
    Calls Tryz.prog 84 #[.pointer (some ⟨b, 0, none⟩)] w fun e w' => e = .returned (.bool (pProm X)) ∧ w' = w := by
  have c := xin_turn h
  clear h
  cases q : (X.turn == 2)
  all_goals
    go_enter Tryz.func84, Tryz.ntmps84
    go_wp2
    go_ret
    exact ⟨by simp [pProm, q], rfl⟩
def pOld (X : PS) (e : Ent) : Bool := !e.gone && (e.key != X.write)
set_option maxRecDepth 100000 in
theorem isOld_any (w : World) (e : Ent) (h : XIn w F b X) :
    Calls Tryz.prog 90 #[.pointer (some ⟨b, 0, none⟩), .agg #[.string e.path, .int .i64 e.rev, .int .i64 e.key, .int .i64 e.draw, .string e.sealed, .bool e.gone]] w fun r w' => r = .returned (.bool (pOld X e)) ∧ Low w.heap.size w w' := by
  have HR := hid h
  clear h
  go_enter Tryz.func90, Tryz.ntmps90
  go_upto_region 1 with fail
  go_name_world W hW
  have hB : Blk W w.heap.size 50 e.cells := by rw [← hW]; exact Blk.new w 50 e.cells
  have hX : XIn W F b X := by rw [← hW]; exact HR.out.alloc _
  have LW : Hid (Low w.heap.size w W) := by
    show Low _ _ _
    rw [← hW]; exact (Low.refl _ w).alloc (Nat.le_refl _) _
  have e2 : W.cell? ⟨w.heap.size, 2, none⟩ = some (.int .i64 e.key) := hB.cell 2
  have e5 : W.cell? ⟨w.heap.size, 5, none⟩ = some (.bool e.gone) := hB.cell 5
  have c3 := xin_write hX
  have lb := hX.lt
  have lN := hB.lt
  clear hW hB hX
  cases qg : e.gone
  all_goals
    rw [qg] at e5
    go_region
    all_goals go_wp2_with fail
    all_goals go_ret
    all_goals exact ⟨by simp [pOld, qg], LW.out.drew⟩
def pSeen (X : PS) : Bool := X.servers.all (fun s => !decide (s.seen < X.epoch))
theorem pall_snoc {α : Type} (l : List α) (i : Nat) (x : α) (p : α → Bool) (h : l[i]? = some x) : (l.take (i + 1)).all p = ((l.take i).all p && p x) := by
  rw [take_snoc h, List.all_append]; simp
set_option maxRecDepth 100000 in
set_option maxHeartbeats 1000000 in
theorem allHaveSeen_any (w : World) (h : XIn w F b X) (hs : X.servers.length ≤ 4) :
    Calls Tryz.prog 82 #[.pointer (some ⟨b, 0, none⟩)] w fun e w' => e = .returned (.bool (pSeen X)) ∧ Low w.heap.size w w' := by
  have HR := hid h
  clear h
  go_enter Tryz.func82, Tryz.ntmps82
  go_wp2_with fail
  go_loopg [3] X.servers.length (fun left iv wr => ∃ i : Nat, left = X.servers.length - i ∧ i ≤ X.servers.length ∧ iv = .int .i64 (i : Int) ∧ Hid ((X.servers.take i).all (fun s => !decide (s.seen < X.epoch)) = true) ∧ Hid (Low w.heap.size w wr))
  case atStart => exact ⟨0, rfl, Nat.zero_le _, rfl, by show _ = _; simp, Low.refl _ _⟩
  case round =>
    obtain ⟨i, hgk, hi, rfl, HI, HL⟩ := hrel
    have HGK := hid hgk
    have R1 : Hid (XIn wr F b X) := HR.out.low HL.out
    clear hgk
    have lb := R1.out.lt
    have c2 := xin_epoch R1.out
    by_cases h3 : i < X.servers.length
    · have q1 : decide ((i : Int) < (X.servers.length : Int)) = true := by simp; omega
      have il : (i : Int) < (X.servers.length : Int) := by omega
      obtain ⟨x, hx⟩ : ∃ x, X.servers[i]? = some x := ⟨_, List.getElem?_eq_getElem h3⟩
      obtain ⟨g, cap, hc, hg, hcs, _⟩ := xin_srvAt R1.out hx
      have c0 : wr.cell? ⟨g, i * 10, none⟩ = some (.int .i64 x.seen) := hcs 0 (by omega)
      have HX := hid hx
      clear hx hcs
      cases qx : decide (x.seen < X.epoch)
      · go_upto_region 4 with fail
        go_region
        all_goals go_wp2_with fail
        all_goals
          go_roundg (X.servers.length - (i + 1))
          case rel => exact ⟨i + 1, rfl, by omega, by simp, by show _ = _; rw [pall_snoc _ i _ _ HX.out, HI.out, qx]; rfl, HL.out.drew⟩
          case measure => have := HGK.out; omega
      · go_upto_region 4 with fail
        go_region
        all_goals go_wp2_with fail
        all_goals
          go_ret
          refine ⟨?_, HL.out.drew⟩
          have : pSeen X = false := List.all_eq_false.2 ⟨x, List.mem_of_getElem? HX.out, by rw [qx]; simp⟩
          rw [this]
          rfl
    · have q1 : decide ((i : Int) < (X.servers.length : Int)) = false := by simp; omega
      obtain ⟨a5, cap5, hc5, _⟩ := xin_servers R1.out
      rw [List.length_map] at hc5
      have hall : Hid (pSeen X = true) := by
        show pSeen X = true
        unfold pSeen
        have := HI.out
        rwa [List.take_of_length_le (by omega)] at this
      go_wp2_with fail
      go_ret
      exact ⟨by rw [hall.out]; rfl, HL.out⟩
def PS.takeOver (X : PS) (n : Nat) (P : PKey) : PS := { X with keys := X.keys.set n { P with wrote := X.epoch }, write := (n : Int) + 1 }
set_option maxRecDepth 100000 in
set_option maxHeartbeats 1000000 in
theorem takeOver_any (w : World) (n : Nat) (P : PKey) (h : XIn w F b X) (hn : X.keys.length = n + 1) (hn6 : n ≤ 6) (hP : X.keys[n]? = some P) :
    Calls Tryz.prog 83 #[.pointer (some ⟨b, 0, none⟩)] w fun e w' => e = .returned (.tuple #[]) ∧ XIn w' F b (X.takeOver n P) ∧ Kept F w w' := by
  obtain ⟨g, cap, hc, hg, hcs, hf⟩ := xin_keyFull h hP
  obtain ⟨r1, k1⟩ := xin_setWrote h hc n P hP X.epoch
  have e2 : w.cell? ⟨g, n * 3 + 2, none⟩ = some (.int .i64 P.wrote) := hcs 2 (by omega)
  have f2 := hf (n * 3 + 2)
  have d2 := xin_epoch h
  have lb := h.lt
  have d3 := xin_write r1
  have f3 := r1.frozen 3
  have R1 := hid r1
  have K1 := hid k1
  have hc2 : w.cell? ⟨b, 7, none⟩ = some (.slice (some ⟨g, 0, none⟩) ((n : Int) + 1).toNat cap) := by rw [hc, hn]; rfl
  have ix : wrap64 ((X.keys.length : Int) - 1) = (n : Int) := by unfold wrap64; omega
  have ix2 : IntKind.i64.wrap ((X.keys.length : Int) - 1) = (n : Int) := by rw [IntKind.wrap_i64]; omega
  have nl : (n : Int) < (X.keys.length : Int) := by omega
  have HN : Hid ((X.keys.length : Int) = (n : Int) + 1) := by show _ = _; omega
  clear h hcs hf r1 k1 hP hc2 hn
  go_enter Tryz.func83, Tryz.ntmps83
  go_upto_region 1 with fail
  go_region
  all_goals go_wp2_with fail
  all_goals
    go_end0
    refine ⟨rfl, ?_, ?_⟩
    · have := (xin_set_write R1.out (X.keys.length : Int)).drew
      unfold PS.takeOver
      rw [← HN.out]
      exact this
    · exact (K1.out.trans (xset_kept R1.out 3 _) (fun _ f => f) (fun _ _ f => f)).drew
set_option maxRecDepth 100000 in
set_option maxHeartbeats 1000000 in
theorem come_any (w : World) (text : ByteArray) (h : XIn w F b X) (hk : X.keys.length < 6) :
    Calls Tryz.prog 81 #[.pointer (some ⟨b, 0, none⟩), .string text] w fun e w' => e = .returned (.int .i64 ((X.keys.length : Int) + 1)) ∧ XIn w' (grow F w w') b { X with keys := X.keys ++ [⟨text, X.epoch, 0⟩] } ∧ Kept F w w' := by
  obtain ⟨a, cap, c7, o7, n7⟩ := xin_rowK h
  have c2 := xin_epoch h
  have lb := h.lt
  have HR := hid h
  have O7 := hid o7
  have N7 := hid n7
  have C7 := hid c7
  have F7 := hid (h.frozen 7)
  have LB := hid lb
  clear h o7 n7
  go_enter Tryz.func81, Tryz.ntmps81
  go_upto_region 1 with fail
  go_region_law ((refine step_append_mine _ rfl (.tmp 9) (.tmp 17) 57 rfl 56 _ 3 32 Tryz.underlying57 info56 rfl (by omega) (.slice a X.keys.length cap) X.keys.length (X.keys.flatMap PKey.cells) ?_ ?_ ⟨w.heap.size, 0, none⟩ 1 1 (PKey.mk text X.epoch 0).cells ?_ rfl ?_ (PKey.one _) ⟨by omega, by omega⟩ ?_; rfl; exact (World.ownsRow.alloc (w := w) O7.out _); rfl; exact (news_new w (PKey.mk text X.epoch 0).cells 56); intro v' w1 o1 k1 p1; obtain ⟨a', cap', rfl, _, _⟩ := ownsRow_view o1; have O1 := hid o1; have K1 := hid k1.of_drew; have P1 := hid p1; have c7w := kept_cell K1.out LB.out N7.out C7.out; have f7w := kept_frozen K1.out LB.out N7.out F7.out; clear o1 k1 p1))
  all_goals go_wp2_with fail
  all_goals go_ret
  all_goals
    obtain ⟨r1, r2⟩ := xin_appK HR.out C7.out K1.out (PKey.mk text X.epoch 0) O1.out P1.out
    exact ⟨by simp, r1, r2⟩
end Go.Proofs.YtphapknfkbgapaaGreatDoor
namespace Go.Proofs.YtphapknfkbgapaaGreatDoor
open Go.RowKit

variable {F : Nat → Prop} {b : Nat} {X : PS}

/-! firstOld: what Migrate moves next. -/
def pKeyAt (ks : List PKey) (k : Int) : PKey := (ks[(k - 1).toNat]?).getD ⟨⟨#[]⟩, 0, 0⟩
structure Fst where
  e : Ent
  text : ByteArray
def fst0 : Fst := ⟨Ent.zero, ⟨#[]⟩⟩
def pSkip (f : Fst) (x : Ent) : Bool := (f.e.rev != 0) && !(Op.bytesLess x.path.toList f.e.path.toList)
def pPass (X : PS) (x : Ent) : Bool := (x.rev != (newestOf X.entries x.path X.rev).rev) || !(pOld X x)
def pTake (f : Fst) (x : Ent) (O : ByteArray × Int) : Fst := if O.2 == 0 then ⟨x, O.1⟩ else f
def pStep (X : PS) (f : Fst) (x : Ent) : Fst := if pSkip f x then f else if pPass X x then f else pTake f x (pOpened (pKeyAt X.keys x.key) x)
def pFirst (X : PS) : Fst := X.entries.foldl (pStep X) fst0
theorem pKeyAt_eq {ks : List PKey} {j : Nat} {K : PKey} {k : Int} (h : ks[j]? = some K) (hk : k = (j : Int) + 1) : pKeyAt ks k = K := by
  unfold pKeyAt
  rw [hk, show ((j : Int) + 1 - 1).toNat = j by omega, h]
  rfl
/-- What is kept and not gone has a key that is there. -/
structure EKey (X : PS) (x : Ent) (j : Nat) (P : PKey) : Prop where
  ok : EntOk x
  key : x.key = (j : Int) + 1
  at_ : X.keys[j]? = some P
  six : j ≤ 6
  size : P.text.size = 48
theorem newest_lit (w : World) (p : ByteArray) (rev : Int) (h : XIn w F b X) (hn : X.entries.length ≤ 1000) (E : Ent) (hE : newestOf X.entries p rev = E) :
    Calls Tryz.prog 78 #[.pointer (some ⟨b, 0, none⟩), .string p, .int .i64 rev] w fun e w' => e = .returned (.agg #[.string E.path, .int .i64 E.rev, .int .i64 E.key, .int .i64 E.draw, .string E.sealed, .bool E.gone]) ∧ Low w.heap.size w w' := by
  subst hE
  exact newest_any w p rev h hn
theorem metA1 {W y2 : World} {X : Ent} (l : Low W.heap.size W y2) : ∃ M, Value.pointer (some ⟨y2.heap.size, 0, none⟩) = Value.pointer (some ⟨M, 0, none⟩) ∧
    Hid (Low W.heap.size W (y2.alloc (Obj.cells #[Value.string X.path, Value.int .i64 X.rev, Value.int .i64 X.key, Value.int .i64 X.draw, Value.string X.sealed, Value.bool X.gone] 50)) ∧ W.heap.size ≤ M ∧ Blk (y2.alloc (Obj.cells #[Value.string X.path, Value.int .i64 X.rev, Value.int .i64 X.key, Value.int .i64 X.draw, Value.string X.sealed, Value.bool X.gone] 50)) M 50 X.cells) :=
  ⟨_, rfl, l.alloc l.size _, l.size, Blk.new y2 50 X.cells⟩
theorem metB1 {W y2 : World} {X : Ent} (l : Low W.heap.size W y2) (z : Blk y2 W.heap.size 50 Ent.zero.cells) : ∃ M, Value.pointer (some ⟨W.heap.size, 0, none⟩) = Value.pointer (some ⟨M, 0, none⟩) ∧
    Hid (Low W.heap.size W ((((((y2.setCell ⟨W.heap.size, 0, none⟩ (Value.string X.path)).setCell ⟨W.heap.size, 1, none⟩ (Value.int .i64 X.rev)).setCell ⟨W.heap.size, 2, none⟩ (Value.int .i64 X.key)).setCell ⟨W.heap.size, 3, none⟩ (Value.int .i64 X.draw)).setCell ⟨W.heap.size, 4, none⟩ (Value.string X.sealed)).setCell ⟨W.heap.size, 5, none⟩ (Value.bool X.gone)) ∧ W.heap.size ≤ M ∧ Blk ((((((y2.setCell ⟨W.heap.size, 0, none⟩ (Value.string X.path)).setCell ⟨W.heap.size, 1, none⟩ (Value.int .i64 X.rev)).setCell ⟨W.heap.size, 2, none⟩ (Value.int .i64 X.key)).setCell ⟨W.heap.size, 3, none⟩ (Value.int .i64 X.draw)).setCell ⟨W.heap.size, 4, none⟩ (Value.string X.sealed)).setCell ⟨W.heap.size, 5, none⟩ (Value.bool X.gone)) M 50 X.cells) :=
  ⟨_, rfl, (((((l.setCell (Nat.le_refl _) _).setCell (Nat.le_refl _) _).setCell (Nat.le_refl _) _).setCell (Nat.le_refl _) _).setCell (Nat.le_refl _) _).setCell (Nat.le_refl _) _, Nat.le_refl _, (((((z.set 0 _).set 1 _).set 2 _).set 3 _).set 4 _).set 5 _⟩
theorem pfold_snoc {α β : Type} (l : List α) (i : Nat) (x : α) (f : β → α → β) (d : β) (h : l[i]? = some x) : (l.take (i + 1)).foldl f d = f ((l.take i).foldl f d) x := by
  rw [take_snoc h, List.foldl_append]; rfl
/-- What lies in memory within firstOld: the answer's block, and the first one's. -/
structure FO (w wr : World) (f : Fst) : Prop where
  low : Low w.heap.size w wr
  size : w.heap.size + 2 ≤ wr.heap.size
  zero : Blk wr w.heap.size 50 Ent.zero.cells
  fst : Blk wr (w.heap.size + 1) 50 f.e.cells
theorem FO.later {w wr wr' : World} {f : Fst} (h : FO w wr f) (l : Low wr.heap.size wr wr') : FO w wr' f :=
  ⟨h.low.trans (l.mono h.low.size), Nat.le_trans h.size l.size, h.zero.low l h.zero.lt, h.fst.low l h.fst.lt⟩
set_option maxRecDepth 100000 in
set_option maxHeartbeats 4000000 in
theorem firstOld_any (w : World) (h : XIn w F b X) (hn : X.entries.length ≤ 1000) (hE : ∀ x ∈ X.entries, x.gone = false → ∃ j P, EKey X x j P) (hF : Fours w) (h1 : 1 ≤ w.heap.size) :
    Calls Tryz.prog 85 #[.pointer (some ⟨b, 0, none⟩)] w fun e w' => e = .returned (.tuple #[.agg (pFirst X).e.cells.toArray, .string (pFirst X).text]) ∧ Low w.heap.size w w' := by
  have HR := hid h
  have HE := hid hE
  have HF := hid hF
  obtain ⟨l, hl⟩ : ∃ l, l = X.entries := ⟨_, rfl⟩
  have HL := hid hl
  rw [← hl] at hn
  clear h hE hF hl
  go_enter Tryz.func85, Tryz.ntmps85
  go_wp2_with fail
  go_loopg [5, 6] l.length (fun left sv iv wr => ∃ (i : Nat) (f : Fst), left = l.length - i ∧ i ≤ l.length ∧ sv = .string f.text ∧ iv = .int .i64 (i : Int) ∧ Hid (f = (l.take i).foldl (pStep X) fst0) ∧ Hid (FO w wr f))
  case atStart =>
    refine ⟨0, fst0, rfl, Nat.zero_le _, rfl, rfl, rfl, ((Low.refl _ w).alloc (Nat.le_refl _) _).alloc (by simp) _, by simp, (Blk.new w 50 Ent.zero.cells).alloc _, ?_⟩
    have := Blk.new (w.alloc (.cells Ent.zero.cells.toArray 50)) 50 Ent.zero.cells
    rw [World.size_alloc] at this
    exact this
  case round =>
    obtain ⟨i, f, hgk, hi, rfl, rfl, HFI, HFO⟩ := hrel
    have HGK := hid hgk
    clear hgk
    have RR : Hid (XIn wr F b X) := HR.out.low HFO.out.low
    have lb := RR.out.lt
    obtain ⟨a9, cap9, hc9, hel⟩ := xin_entries RR.out
    rw [List.length_map, ← HL.out] at hc9
    by_cases h3 : i < l.length
    · have q1 : decide ((i : Int) < (l.length : Int)) = true := by simp; omega
      have il : (i : Int) < (l.length : Int) := by omega
      obtain ⟨x, hx⟩ : ∃ x, l[i]? = some x := ⟨_, List.getElem?_eq_getElem h3⟩
      obtain ⟨g, rfl, hg, hcs, _⟩ := hel i x.cells (by rw [List.getElem?_map, ← HL.out, hx]; rfl)
      have HC : Hid (wr.rangeAt g (i * 6) x.cells) := range_of hcs (fun _ _ e => ⟨(List.getElem?_eq_some_iff.1 e).1, e⟩)
      have HXM : Hid (x ∈ X.entries) := by show x ∈ X.entries; rw [← HL.out]; exact List.mem_of_getElem? hx
      have HST : Hid ((l.take (i + 1)).foldl (pStep X) fst0 = pStep X f x) := by
        show _ = _
        rw [pfold_snoc l i x _ _ hx, ← HFI.out]
      clear hx hcs hel
      go_upto_region 7 with (first | ((with_reducible refine ld50 (.tmp 26) g (i * 6) x ?_ HC.out ?_); rfl) | ((with_reducible refine st50 (.tmp 7) (.tmp 27) wr.heap.size Ent.zero x ?_ ?_ ?_ ?_); rfl; rfl; exact (Blk.new wr 50 Ent.zero.cells); intro W b2 k2 s2; have B2 := hid b2; have LW : Hid (Low wr.heap.size wr W) := low_set ((Low.refl _ wr).alloc (Nat.le_refl _) _) k2 (Nat.le_refl _) (by simp); clear b2 k2 s2))
      have FW : Hid (FO w W f) := HFO.out.later LW.out
      have RW : Hid (XIn W F b X) := RR.out.low LW.out
      have m0 : W.cell? ⟨wr.heap.size, 0, none⟩ = some (.string x.path) := B2.out.cell 0
      have m1 : W.cell? ⟨wr.heap.size, 1, none⟩ = some (.int .i64 x.rev) := B2.out.cell 1
      have n0 : W.cell? ⟨w.heap.size + 1, 0, none⟩ = some (.string f.e.path) := FW.out.fst.cell 0
      have n1 : W.cell? ⟨w.heap.size + 1, 1, none⟩ = some (.int .i64 f.e.rev) := FW.out.fst.cell 1
      have lM := B2.out.lt
      clear hc9 hg
      have hsplit : (pSkip f x = true ∧ (f.e.rev != 0) = true ∧ Op.bytesLess x.path.toList f.e.path.toList = false) ∨ (pSkip f x = false ∧ (f.e.rev != 0) = false) ∨ (pSkip f x = false ∧ (f.e.rev != 0) = true ∧ Op.bytesLess x.path.toList f.e.path.toList = true) := by
        unfold pSkip
        cases (f.e.rev != 0)
        · exact Or.inr (Or.inl ⟨rfl, rfl⟩)
        · cases Op.bytesLess x.path.toList f.e.path.toList
          · exact Or.inl ⟨rfl, rfl, rfl⟩
          · exact Or.inr (Or.inr ⟨rfl, rfl, rfl⟩)
      rcases hsplit with ⟨hsk, q0, ql⟩ | ⟨hsk, q0⟩ | ⟨hsk, q0, ql⟩
      · have HSK := hid hsk
        clear hsk
        go_wp2_with fail
        go_roundg (l.length - (i + 1))
        case rel => exact ⟨i + 1, f, rfl, by omega, rfl, by simp, by show _ = _; rw [HST.out]; unfold pStep; rw [HSK.out]; rfl, FW.out⟩
        case measure => have := HGK.out; omega
      all_goals
        have HSK := hid hsk
        clear hsk
        go_upto_region 8 with fail
        obtain ⟨N, hN⟩ : ∃ N, newestOf X.entries x.path X.rev = N := ⟨_, rfl⟩
        have HN := hid hN
        have HN1 : Hid (X.entries.length ≤ 1000) := by show _ ≤ _; rw [← HL.out]; exact hn
        have c0 := xin_rev RW.out
        have lbW := RW.out.lt
        clear n0 n1 hN
        go_cut [8] (fun mv wc => ∃ M, mv = .pointer (some ⟨M, 0, none⟩) ∧ Hid (Low W.heap.size W wc ∧ W.heap.size ≤ M ∧ Blk wc M 50 N.cells))
        case first =>
          go_region_with (first | (go_at_call 78; refine (newest_lit (X := X) _ x.path X.rev (by exact RW.out.drew) HN1.out N HN.out).mono ?_; rintro e y2 ⟨rfl, l2⟩; have LL2 : Hid (Low W.heap.size W y2) := (Low.refl _ W).drew.trans l2; clear l2) | (go_at_call 78; refine (newest_lit (X := X) _ x.path X.rev (by exact (RW.out.alloc _).drew) HN1.out N HN.out).mono ?_; rintro e y2 ⟨rfl, l2⟩; have LL2 : Hid (Low W.heap.size W y2) := ((Low.refl _ W).alloc (Nat.le_refl _) _).drew.trans (l2.mono (by simp)); have bz : Blk y2 W.heap.size 50 Ent.zero.cells := (Blk.new W 50 Ent.zero.cells).drew.low l2 (by simp); have z0 : y2.cell? ⟨W.heap.size, 0, none⟩ = some (.string ⟨#[]⟩) := bz.cell 0; have z1 : y2.cell? ⟨W.heap.size, 1, none⟩ = some (.int .i64 0) := bz.cell 1; have z2 : y2.cell? ⟨W.heap.size, 2, none⟩ = some (.int .i64 0) := bz.cell 2; have z3 : y2.cell? ⟨W.heap.size, 3, none⟩ = some (.int .i64 0) := bz.cell 3; have z4 : y2.cell? ⟨W.heap.size, 4, none⟩ = some (.string ⟨#[]⟩) := bz.cell 4; have z5 : y2.cell? ⟨W.heap.size, 5, none⟩ = some (.bool false) := bz.cell 5; have g0 := bz.frozen 0; have g1 := bz.frozen 1; have g2 := bz.frozen 2; have g3 := bz.frozen 3; have g4 := bz.frozen 4; have g5 := bz.frozen 5; have BZ := hid bz; clear l2 bz))
          all_goals
            go_wp2_with fail
            go_meet
          all_goals first | exact metB1 LL2.out BZ.out | exact metA1 LL2.out
        case rest =>
          obtain ⟨M, rfl, HMM⟩ := hcut
          have FC : Hid (FO w wc f) := FW.out.later HMM.out.1
          have RC : Hid (XIn wc F b X) := RW.out.low HMM.out.1
          have BX : Hid (Blk wc wr.heap.size 50 x.cells) := B2.out.low HMM.out.1 B2.out.lt
          have p0 : wc.cell? ⟨wr.heap.size, 0, none⟩ = some (.string x.path) := BX.out.cell 0
          have p1 : wc.cell? ⟨wr.heap.size, 1, none⟩ = some (.int .i64 x.rev) := BX.out.cell 1
          have p3 : wc.cell? ⟨wr.heap.size, 2, none⟩ = some (.int .i64 x.key) := BX.out.cell 2
          have p4 : wc.cell? ⟨wr.heap.size, 3, none⟩ = some (.int .i64 x.draw) := BX.out.cell 3
          have p5 : wc.cell? ⟨wr.heap.size, 4, none⟩ = some (.string x.sealed) := BX.out.cell 4
          have p6 : wc.cell? ⟨wr.heap.size, 5, none⟩ = some (.bool x.gone) := BX.out.cell 5
          have p2 : wc.cell? ⟨M, 1, none⟩ = some (.int .i64 N.rev) := HMM.out.2.2.cell 1
          clear m0 m1 c0 lbW
          cases qr : (x.rev != N.rev)
          · obtain ⟨o, ho⟩ : ∃ o, o = pOld X x := ⟨_, rfl⟩
            have HO := hid ho
            clear ho
            cases qo : o
            · go_wp2_with (go_at_call 90; refine (isOld_any _ x RC.out).mono ?_; rw [← HO.out, qo]; rintro e y3 ⟨rfl, l3⟩; have L3 := hid l3; clear l3)
              go_roundg (l.length - (i + 1))
              case rel => exact ⟨i + 1, f, rfl, by omega, rfl, by simp, by show _ = _; rw [HST.out]; unfold pStep; rw [HSK.out]; unfold pPass; rw [HN.out, qr, ← HO.out, qo]; rfl, FC.out.later L3.out⟩
              case measure => have := HGK.out; omega
            · have hgo : x.gone = false := by
                have := HO.out
                rw [qo] at this
                unfold pOld at this
                cases hg : x.gone
                · rfl
                · rw [hg] at this
                  cases this
              obtain ⟨jk, P, hEK⟩ := HE.out x HXM.out hgo
              have EK := hid hEK
              obtain ⟨O, hO⟩ : ∃ O, O = pOpened P x := ⟨_, rfl⟩
              have HOP := hid hO
              have HSO : Hid ((l.take (i + 1)).foldl (pStep X) fst0 = if O.2 == 0 then ⟨x, O.1⟩ else f) := by
                show _ = _
                rw [HST.out]
                unfold pStep
                rw [HSK.out]
                unfold pPass
                rw [HN.out, qr, ← HO.out, qo, pKeyAt_eq hEK.at_ hEK.key, ← hO]
                rfl
              have F4c : Hid (Fours wc) := HF.out.later (FC.out.low.mono h1)
              have hc1 : 1 ≤ wc.heap.size := Nat.le_trans h1 FC.out.low.size
              clear hEK hO hgo
              go_upto_region 11 with (first | (go_at_call 90; refine (isOld_any _ x RC.out).mono ?_; rw [← HO.out, qo]; rintro e y3 ⟨rfl, l3⟩; have L3 := hid l3; have B3 : Hid (Blk y3 wr.heap.size 50 x.cells) := BX.out.low l3 BX.out.lt; have F43 : Hid (Fours y3) := F4c.out.later (l3.mono hc1); have R3 : Hid (XIn y3 F b X) := RC.out.low l3; clear l3 p0 p1 p2 p3 p4 p5 p6) | ((with_reducible refine ld50 (.tmp 7) wr.heap.size 0 x ?_ B3.out.whole ?_); rfl) | (go_at_call 107; refine (popened_any _ x P jk R3.out EK.out.at_ EK.out.key EK.out.six EK.out.size EK.out.ok F43.out (by have := L3.out.size; omega)).mono ?_; rw [← HOP.out]; rintro e y4 ⟨rfl, l4⟩; have L4 : Hid (Low wc.heap.size wc y4) := L3.out.trans (l4.mono L3.out.size); have B4 : Hid (Blk y4 wr.heap.size 50 x.cells) := B3.out.low l4 B3.out.lt; clear l4))
              have FD : Hid (FO w y4 f) := FC.out.later L4.out
              cases qe : (O.2 == 0)
              · go_wp2_with fail
                go_roundg (l.length - (i + 1))
                case rel => exact ⟨i + 1, f, rfl, by omega, rfl, by simp, by show _ = _; rw [HSO.out, qe]; rfl, FD.out⟩
                case measure => have := HGK.out; omega
              · go_wp2_with (first | ((with_reducible refine ld50 (.tmp 7) wr.heap.size 0 x ?_ B4.out.whole ?_); rfl) | ((with_reducible refine st50 (.tmp 4) (.tmp 66) (w.heap.size + 1) f.e x ?_ ?_ FD.out.fst ?_); rfl; rfl; intro w5 b5 k5 s5; have B5 := hid b5; have K5 := hid k5; have S5 := hid s5; clear b5 k5 s5))
                go_roundg (l.length - (i + 1))
                case rel => exact ⟨i + 1, ⟨x, O.1⟩, rfl, by omega, rfl, by simp, by show _ = _; rw [HSO.out, qe]; rfl, low_set FD.out.low K5.out (by omega) FD.out.low.size, by rw [S5.out]; exact FD.out.size, FD.out.zero.kept K5.out (by omega), B5.out⟩
                case measure => have := HGK.out; omega
          · go_wp2_with fail
            go_roundg (l.length - (i + 1))
            case rel => exact ⟨i + 1, f, rfl, by omega, rfl, by simp, by show _ = _; rw [HST.out]; unfold pStep; rw [HSK.out]; unfold pPass; rw [HN.out, qr]; rfl, FC.out⟩
            case measure => have := HGK.out; omega
    · have q1 : decide ((i : Int) < (l.length : Int)) = false := by simp; omega
      have hfin : Hid (pFirst X = f) := by
        show _ = _
        rw [HFI.out, List.take_of_length_le (by omega)]
        unfold pFirst
        rw [← HL.out]
      clear hel
      go_wp2_with (first | ((with_reducible refine ld50 (.tmp 4) (w.heap.size + 1) 0 f.e ?_ HFO.out.fst.whole ?_); rfl) | ((with_reducible refine st50 (.tmp 2) (.tmp 68) w.heap.size Ent.zero f.e ?_ ?_ HFO.out.zero ?_); rfl; rfl; intro w1 b1 k1 s1; have B1 := hid b1; have K1 := hid k1; clear b1 k1 s1))
      (try simp only [Exit.inBlock, Exit.then])
      refine bodyPost_ret (results_cell_tmp rfl w.heap.size f.e.cells _ rfl B1.out.whole Tryz.underlying50 rfl (sz50 _)) rfl ?_
      refine ⟨by rw [hfin.out]; rfl, low_set HFO.out.low K1.out (Nat.le_refl _) HFO.out.low.size⟩
end Go.Proofs.YtphapknfkbgapaaGreatDoor
