import Derived.Test.YtggbjffmclpmgaaGreatDoorStoresOne
import Derived.Test.YtggbjffmclpmgaaGreatDoorLawOToLawQ
import Derived.Test.YtggbjffmclpmgaaGreatDoorPGToPL
import Derived.Test.YtggbjffmclpmgaaGreatDoorRefLToLawH
namespace Go.Proofs.YtggbjffmclpmgaaGreatDoor
open Go.ChangeShapes Go.WideShapes Go.ChangeAt Go.RowKit Go.Deep

/-! Turns, as far as the two sides are alike. -/

set_option maxRecDepth 100000 in
theorem turns_contract {R : Nat → PS → RS → Prop} (hS : Sides R) (hR : ∀ (m : Nat) (room : Int) (key : ByteArray), cfgOk (m : Int) room key = true → R 0 (PS.new m room key) (RS.new m room key)) (H : Type) (enc : TypeId × Value → H) (W : World) (base : Nat) (args : Array Value) (ds gs : List (DataW H)) (before : List MemPlace)
    (hval : ∀ (j : Nat) t v, Tryz.f4.params[j]? = some t → args[j]? = some v → Value.okWide Tryz.prog W .any base t v)
    (hW : DataW.Whole enc Tryz.prog Tryz.f4.params.toList Rows.turnsSpec.vars false W args.toList ds gs before) (hk : Rows.uptoSmall H (ds ++ gs) = true) (hL : laidMetH Tryz.prog [("coffer/seal.fours", Rows.laid_coffer_seal_fours)] W) :
    Calls Tryz.prog 4 args W fun e W' => ∃ v, e = .returned v ∧ Rows.turnsSpec.post enc Tryz.prog Tryz.f4 false true false false W args v W' := by
  have hW' := hW
  obtain ⟨p, q, hA0, hV, rfl, hfz, hnd⟩ := hW
  have hA : DataW.TrodAll enc Tryz.prog W 0 (fun _ => true) true Tryz.f4.params.toList args.toList ds p := hA0
  have hlt := hA.lt
  rw [Tryz.params4] at hA hval
  obtain ⟨v0, vs0, d0, ds0, p0, q0, hargs, rfl, rfl, h0, r0⟩ := trodAll_cons hA
  obtain ⟨v1, vs1, d1, ds1, p1, q1, rfl, rfl, rfl, h1, r1⟩ := trodAll_cons r0
  obtain ⟨rfl, rfl, rfl⟩ := trodAll_nil r1
  obtain rfl : args = #[v0, v1] := by cases args; simp_all
  obtain ⟨rfl, rfl⟩ := trodVars_none hV
  obtain ⟨c0, c1, c2, y0, y1, y2, n, rfl, _, _, t0, t1, t2⟩ := Joins.open_agg3 Tryz.underlying23 (by kernel_rfl) (by kernel_rfl) (hval 0 23 v0 rfl rfl) h0
  obtain ⟨servers, e0, _⟩ := DataW.trod_int Tryz.underlying3 t0
  obtain ⟨room, e1, _⟩ := DataW.trod_int Tryz.underlying3 t1
  obtain ⟨key, e2, _⟩ := DataW.trod_string Tryz.underlying9 t2
  cases e0
  cases e1
  cases e2
  obtain ⟨a, cap, acts, rfl, hs, hn⟩ := open_script (hval 1 24 v1 rfl rfl) h1
  clear hA0
  simp only [List.append_nil] at hW' hlt
  have hb := of_decide_eq_true hk
  simp only [List.cons_append, List.nil_append, Rows.uptoBulkAll] at hb
  obtain ⟨hF, hone⟩ := of_laid hL
  refine (turns_walk hS hR W servers room key a cap acts hs (by omega) hF hone).mono fun e W' ⟨he, hg⟩ => ?_
  subst he
  have same : ∀ x : MemPlace, x.block < W.heap.size → W.sameAt W' x := fun x hx => by
    cases x with
    | cell b o => exact World.cell?_of_block (w := W) (hg.block b hx)
    | map b => exact hg.block b hx
  have hl : laidOutB Tryz.prog = true := by kernel_rfl
  have a0 : DataW.Trod enc Tryz.prog W' 0 (fun b => decide (b < W.heap.size)) true 23 _ d0 p0 := WideElems.Trod_stays hl (by kernel_rfl) (of_decide_eq_true (by kernel_rfl)) h0 (fun x hx => same x (hlt x (List.mem_append_left _ hx))) (fun x hx => by simpa using hlt x (List.mem_append_left _ hx))
  have a1 : DataW.Trod enc Tryz.prog W' 0 (fun b => decide (b < W.heap.size)) true 24 _ d1 p1 := WideElems.Trod_stays hl (by kernel_rfl) (of_decide_eq_true (by kernel_rfl)) h1 (fun x hx => same x (hlt x (List.mem_append_right _ hx))) (fun x hx => by simpa using hlt x (List.mem_append_right _ hx))
  exact ⟨_, rfl, _, _, _, [], _, [], hW', (trodAll_cons_mk (shut_bool Tryz.underlying4 _) trodAll_mk0), (trodAll_cons_mk a0 (trodAll_cons_mk a1 trodAll_mk0)), rfl, hg.frame _, fun h => by cases h⟩

theorem turns_reads (os : Os) {H : Type} (enc : TypeId × Value → H) : ∃ places, DataW.whole enc Tryz.prog ((World.doorLaid Tryz.prog 400 os).forCall (fun _ _ => 0) ⟨#[], #[.agg #[.int .i64 0, .int .i64 0, .string ByteArray.empty], .slice none 0 0], []⟩).memory Tryz.f4.params.toList Rows.turnsSpec.vars false #[Value.agg #[.int .i64 0, .int .i64 0, .string ByteArray.empty], .slice none 0 0].toList 8 = some ([.agg [.lit (.int .i64 0), .lit (.int .i64 0), .lit (.string [])], .nil], [], places) :=
  ⟨[], by kernel_rfl⟩
set_option maxRecDepth 100000 in
theorem turns_lifted {R : Nat → PS → RS → Prop} (hS : Sides R) (hR : ∀ (m : Nat) (room : Int) (key : ByteArray), cfgOk (m : Int) room key = true → R 0 (PS.new m room key) (RS.new m room key)) (os : Os) (started : os.Started) (H : Type) (enc : TypeId × Value → H) (F : Stop.Interp) :
    ReturnsInHanded {} Tryz.checked os 4 .any ((Rows.OpenSpec.upto Rows.turnsSpec).preRow enc Tryz.prog Tryz.f4 Rows.turnsUptoRow.domain false Rows.turnsUptoRow.laid) (((Rows.OpenSpec.upto Rows.turnsSpec).at F).post enc Tryz.prog Tryz.f4 false true false false) := by
  obtain ⟨places, hx⟩ := turns_reads os enc
  refine returnsInHanded_of_row (C := Tryz.checked) (s := Rows.OpenSpec.upto Rows.turnsSpec) own started (by kernel_rfl) Tryz.func4
    (witness_row_at (enc := enc) (C := Tryz.checked) false (World.doorLaid Tryz.prog 400 os) #[.agg #[.int .i64 0, .int .i64 0, .string ByteArray.empty], .slice none 0 0] rfl (by kernel_rfl) (by kernel_rfl) (by kernel_rfl)
      (OpenSpec.preRow_of_cond 8 hx (by kernel_rfl) (fun k hk => by cases hk; kernel_rfl) (by kernel_rfl) (door_met os _))) ?_
  intro W base args ds gs before hval hW _ hcond _ hL _ _
  exact turns_contract hS hR H enc W base args ds gs before hval hW (hcond _ rfl) hL
theorem turns_row {R : Nat → PS → RS → Prop} (hS : Sides R) (hR : ∀ (m : Nat) (room : Int) (key : ByteArray), cfgOk (m : Int) room key = true → R 0 (PS.new m room key) (RS.new m room key)) : Rows.TurnsUptoSaid :=
  OpenClaim.holds_of_cond 4 Tryz.f4 rfl rfl rfl rfl rfl rfl rfl ⟨rfl, rfl, rfl, rfl, rfl⟩ rfl rfl rfl rfl rfl (by kernel_rfl) Tryz.func4 (by kernel_rfl)
    (of_decide_eq_true (by kernel_rfl)) (by unfold Func.isWrapper; first | (rw [if_pos (by decide +kernel)]; kernel_rfl) | (rw [if_neg (by decide +kernel)]; exact ⟨rfl, rfl⟩))
    (fun os started H enc _ F => by rw [OpenClaim.pre_eq_preRow]; exact turns_lifted hS hR os started H enc F)
theorem turns_plain (f : FuncId) (fn : Func) (hf : Tryz.pinned.checked.prog.funcNamed "coffer/cofferlaw.Turns" = some f) (hfn : Tryz.pinned.checked.prog.funcs[f]? = some fn) :
    false = Tryz.pinned.checked.prog.looks [] ∧ ∀ (j : Nat) t, fn.params[j]? = some t → Tryz.pinned.checked.prog.wantsStandIn t = false := by
  obtain rfl : f = 4 := Option.some.inj ((show Tryz.prog.funcNamed "coffer/cofferlaw.Turns" = some 4 by kernel_rfl).symm.trans hf) |>.symm
  obtain rfl : fn = Tryz.f4 := (Option.some.inj (Tryz.func4.symm.trans hfn)).symm
  refine ⟨by kernel_rfl, fun j t ht => ?_⟩
  rw [Tryz.params4] at ht
  have hm : t ∈ [23, 24] := by simpa using Array.mem_of_getElem? ht
  have hall : ([23, 24].all fun u => !Tryz.prog.wantsStandIn u) = true := by kernel_rfl
  exact (show Tryz.prog.wantsStandIn t = false by simpa using List.all_eq_true.1 hall t hm)
theorem turns_card {R : Nat → PS → RS → Prop} (hS : Sides R) (hR : ∀ (m : Nat) (room : Int) (key : ByteArray), cfgOk (m : Int) room key = true → R 0 (PS.new m room key) (RS.new m room key)) : Rows.TurnsUptoCardSaid :=
  Claim7.holds_tied_plain_at .later [] _ _ _ _ (turns_row hS hR) (fun _ h => by cases h) (by kernel_rfl) (fun _ h => by cases h) turnsUpto_row_tie rfl ⟨rfl, rfl⟩ (by kernel_rfl) rfl turns_plain (by kernel_rfl)
end Go.Proofs.YtggbjffmclpmgaaGreatDoor
namespace Go.Proofs.YtggbjffmclpmgaaGreatDoor
open Go.RowKit

/-! Many keys, on either side: plain data. -/

/-- A key on either side. -/
structure KSame (p : PKey) (k : RKey) : Prop where
  came : p.came = k.came
  wrote : p.wrote = k.writes
  size : k.text.size = 48
  text : k.gone = false → p.text = k.text
  gone : k.gone = true → p.text = ⟨#[]⟩
structure Keys2 (ks : List PKey) (rs : List RKey) (ep turn : Int) : Prop where
  len : ks.length = rs.length
  few : 1 ≤ rs.length ∧ rs.length ≤ 6
  same : ∀ (i : Nat) (p : PKey) (k : RKey), ks[i]? = some p → rs[i]? = some k → KSame p k
  first : ∀ k, rs[0]? = some k → k.came = 1 ∧ k.writes = 1
  came : ∀ (i : Nat) (k : RKey), rs[i]? = some k → 1 ≤ k.came ∧ k.came ≤ ep
  wr : ∀ (i : Nat) (k : RKey), rs[i]? = some k → 0 ≤ k.writes ∧ k.writes ≤ ep
  zero : ∀ (i : Nat) (k : RKey), rs[i]? = some k → k.writes = 0 → i + 1 = rs.length ∧ turn = 1
  rise : ∀ (i j : Nat) (a c : RKey), i < j → rs[i]? = some a → rs[j]? = some c → c.writes ≠ 0 → a.writes < c.writes
  staged : turn = 1 → ∀ k, rs[rs.length - 1]? = some k → k.writes = 0
  fresh : ∀ (i : Nat) (k : RKey), rs[i]? = some k → k.writes = 0 → k.gone = false
def writesAt (k : RKey) (e : Int) : Bool := decide (0 < k.writes) && decide (k.writes ≤ e)
/-- The key that wrote in an epoch is the last one that writes since then. -/
theorem writes_spec (e : Int) (rs : List RKey) : (writesOf rs e = 0 ∧ ∀ (i : Nat) (k : RKey), rs[i]? = some k → writesAt k e = false) ∨ ∃ (j : Nat) (K : RKey), writesOf rs e = (j : Int) + 1 ∧ rs[j]? = some K ∧ writesAt K e = true ∧ ∀ (i : Nat) (k : RKey), j < i → rs[i]? = some k → writesAt k e = false := by
  refine snoc_ind (P := fun rs => (writesOf rs e = 0 ∧ ∀ (i : Nat) (k : RKey), rs[i]? = some k → writesAt k e = false) ∨ ∃ (j : Nat) (K : RKey), writesOf rs e = (j : Int) + 1 ∧ rs[j]? = some K ∧ writesAt K e = true ∧ ∀ (i : Nat) (k : RKey), j < i → rs[i]? = some k → writesAt k e = false) ?_ ?_ rs
  · exact Or.inl ⟨rfl, fun i k h => by simp at h⟩
  · intro l x ih
    have last : ∀ (i : Nat) (k : RKey), (l ++ [x])[i]? = some k → l[i]? = some k ∨ (i = l.length ∧ k = x) := by
      intro i k hk
      by_cases hi : i < l.length
      · rw [List.getElem?_append_left hi] at hk; exact Or.inl hk
      · rw [List.getElem?_append_right (by omega)] at hk
        have : i - l.length < 1 := (List.getElem?_eq_some_iff.1 hk).1
        have hi2 : i = l.length := by omega
        subst hi2
        rw [Nat.sub_self] at hk
        exact Or.inr ⟨rfl, (Option.some.inj hk).symm⟩
    rw [writesOf_snoc]
    cases hx : writesAt x e
    · have hx' : (decide (0 < x.writes) && decide (x.writes ≤ e)) = false := hx
      rw [hx', if_neg (by simp)]
      rcases ih with ⟨h0, h1⟩ | ⟨j, K, h0, h1, h2, h3⟩
      · refine Or.inl ⟨h0, fun i k hk => ?_⟩
        rcases last i k hk with q | ⟨_, rfl⟩
        · exact h1 i k q
        · exact hx
      · have hj : j < l.length := (List.getElem?_eq_some_iff.1 h1).1
        refine Or.inr ⟨j, K, h0, by rw [List.getElem?_append_left hj]; exact h1, h2, fun i k hij hk => ?_⟩
        rcases last i k hk with q | ⟨_, rfl⟩
        · exact h3 i k hij q
        · exact hx
    · have hx' : (decide (0 < x.writes) && decide (x.writes ≤ e)) = true := hx
      rw [hx', if_pos rfl]
      refine Or.inr ⟨l.length, x, by simp, by rw [List.getElem?_append_right (Nat.le_refl _)]; simp, hx, fun i k hij hk => ?_⟩
      rcases last i k hk with q | ⟨rfl, _⟩
      · have := (List.getElem?_eq_some_iff.1 q).1; omega
      · omega
/-- Two that are the last ones are one. -/
theorem writes_unique {e : Int} {rs : List RKey} {j : Nat} {K : RKey} (h1 : rs[j]? = some K) (h2 : writesAt K e = true) (h3 : ∀ (i : Nat) (k : RKey), j < i → rs[i]? = some k → writesAt k e = false) : writesOf rs e = (j : Int) + 1 := by
  rcases writes_spec e rs with ⟨_, q⟩ | ⟨j', K', q0, q1, q2, q3⟩
  · rw [q j K h1] at h2; cases h2
  · rcases Nat.lt_trichotomy j j' with hlt | rfl | hlt
    · rw [h3 j' K' hlt q1] at q2; cases q2
    · exact q0
    · rw [q3 j K hlt h1] at h2; cases h2
theorem writer_tail (e : Int) (k0 : RKey) (h0 : writesAt k0 e = true) : ∀ (l : List PKey) (l' : List RKey), l.length = l'.length → (∀ (i : Nat) (p : PKey) (k : RKey), l[i]? = some p → l'[i]? = some k → p.wrote = k.writes ∧ 0 ≤ k.writes) → writerR l e = writesR (l' ++ [k0]) e
  | [], [], _, _ => by
    have h0' : (decide (0 < k0.writes) && decide (k0.writes ≤ e)) = true := h0
    simp only [List.nil_append, writerR, writesR, h0']
    rfl
  | p :: r, k :: r', hl, hs => by
    have hl' : r.length = r'.length := by simpa using hl
    obtain ⟨a1, a2⟩ := hs 0 p k rfl rfl
    have ih := writer_tail e k0 h0 r r' hl' (fun i p k hp hk => hs (i + 1) p k (by simpa using hp) (by simpa using hk))
    have hb : ((p.wrote != 0) && decide (p.wrote ≤ e)) = (decide (0 < k.writes) && decide (k.writes ≤ e)) := by
      rw [a1]
      congr 1
      rw [Bool.eq_iff_iff, bne_iff_ne, decide_eq_true_eq]
      omega
    show (if (p.wrote != 0) && decide (p.wrote ≤ e) then (r.length + 2 : Int) else writerR r e) = (if decide (0 < k.writes) && decide (k.writes ≤ e) then ((r' ++ [k0]).length + 1 : Int) else writesR (r' ++ [k0]) e)
    rw [hb, ih, hl']
    simp
    rfl
theorem Keys2.writer {ks : List PKey} {rs : List RKey} {ep turn : Int} (h : Keys2 ks rs ep turn) {e : Int} (he : 1 ≤ e) : writerOf ks e = writesOf rs e := by
  have hf := h.few.1
  have hl := h.len
  cases rs with
  | nil => simp at hf
  | cons k r' =>
    cases ks with
    | nil => simp at hl
    | cons p r =>
      have hl' : r.length = r'.length := by simpa using hl
      have h0 : writesAt k e = true := by
        obtain ⟨_, q⟩ := h.first k rfl
        simp [writesAt, q]
        omega
      unfold writerOf writesOf
      rw [List.reverse_cons]
      show writerR r.reverse e = _
      refine writer_tail e k h0 r.reverse r'.reverse (by simp [hl']) (fun i p2 k2 hp hk => ?_)
      have hi : i < r.length := by simpa using (List.getElem?_eq_some_iff.1 hp).1
      rw [List.getElem?_reverse hi] at hp
      rw [List.getElem?_reverse (by omega)] at hk
      have e1 : r.length - 1 - i = r'.length - 1 - i := by omega
      rw [e1] at hp
      have hs := h.same (r'.length - 1 - i + 1) p2 k2 (by simpa using hp) (by simpa using hk)
      exact ⟨hs.wrote, (h.wr (r'.length - 1 - i + 1) k2 (by simpa using hk)).1⟩
/-- There is one that writes. -/
theorem Keys2.writing {ks : List PKey} {rs : List RKey} {ep turn : Int} (h : Keys2 ks rs ep turn) {e : Int} (he : 1 ≤ e) : ∃ (j : Nat) (p : PKey) (K : RKey), writesOf rs e = (j : Int) + 1 ∧ ks[j]? = some p ∧ rs[j]? = some K ∧ KSame p K ∧ 0 < K.writes ∧ K.writes ≤ e ∧ ∀ (i : Nat) (k : RKey), j < i → rs[i]? = some k → writesAt k e = false := by
  rcases writes_spec e rs with ⟨_, q⟩ | ⟨j, K, q0, q1, q2, q3⟩
  · exfalso
    obtain ⟨k, hk⟩ : ∃ k, rs[0]? = some k := ⟨_, List.getElem?_eq_getElem (by have := h.few.1; omega)⟩
    have h1 := q 0 k hk
    have h2 := (h.first k hk).2
    simp [writesAt, h2] at h1
    omega
  · have hj : j < rs.length := (List.getElem?_eq_some_iff.1 q1).1
    obtain ⟨p, hp⟩ : ∃ p, ks[j]? = some p := ⟨_, List.getElem?_eq_getElem (by rw [h.len]; exact hj)⟩
    simp [writesAt] at q2
    exact ⟨j, p, K, q0, hp, q1, h.same j p K hp q1, q2.1, q2.2, q3⟩
theorem prom_snoc (l : List RKey) (x k0 : RKey) : promOf (k0 :: (l ++ [x])) = if decide (promOf (k0 :: l) < x.writes) then x.writes else promOf (k0 :: l) := by
  unfold promOf
  simp [promR]
theorem prom_spec (k0 : RKey) (t : List RKey) : 0 ≤ promOf (k0 :: t) ∧ (∀ k ∈ t, k.writes ≤ promOf (k0 :: t)) ∧ (promOf (k0 :: t) = 0 ∨ ∃ k ∈ t, promOf (k0 :: t) = k.writes) := by
  refine snoc_ind (P := fun t => 0 ≤ promOf (k0 :: t) ∧ (∀ k ∈ t, k.writes ≤ promOf (k0 :: t)) ∧ (promOf (k0 :: t) = 0 ∨ ∃ k ∈ t, promOf (k0 :: t) = k.writes)) ?_ ?_ t
  · exact ⟨Int.le_refl 0, fun k hk => by simp at hk, Or.inl rfl⟩
  · intro l x ⟨h1, h2, h3⟩
    rw [prom_snoc]
    by_cases hx : promOf (k0 :: l) < x.writes
    · rw [decide_eq_true hx, if_pos rfl]
      refine ⟨by omega, fun k hk => ?_, Or.inr ⟨x, by simp, rfl⟩⟩
      rcases List.mem_append.1 hk with q | q
      · have := h2 k q; omega
      · obtain rfl := List.mem_singleton.1 q; omega
    · rw [decide_eq_false hx, if_neg (by simp)]
      refine ⟨h1, fun k hk => ?_, ?_⟩
      · rcases List.mem_append.1 hk with q | q
        · exact h2 k q
        · obtain rfl := List.mem_singleton.1 q; omega
      · rcases h3 with q | ⟨k, hk, q⟩
        · exact Or.inl q
        · exact Or.inr ⟨k, by simp [hk], q⟩
/-- The last Promote: that of the key that writes now, if it is not the first. -/
theorem Keys2.prom {ks : List PKey} {rs : List RKey} {ep turn : Int} (h : Keys2 ks rs ep turn) {j : Nat} {K : RKey} (hj : writesOf rs ep = (j : Int) + 1) (hK : rs[j]? = some K) : promOf rs = if j = 0 then 0 else K.writes := by
  have hf := h.few.1
  have hW : ∀ (i : Nat) (k : RKey), j < i → rs[i]? = some k → k.writes = 0 := by
    intro i k hi hk
    rcases writes_spec ep rs with ⟨q, _⟩ | ⟨j', K', q0, q1, q2, q3⟩
    · omega
    · have : j' = j := by omega
      subst this
      have q := q3 i k hi hk
      have := h.wr i k hk
      simp [writesAt] at q
      omega
  cases rs with
  | nil => simp at hf
  | cons k0 t =>
    obtain ⟨s1, s2, s3⟩ := prom_spec k0 t
    by_cases hz : j = 0
    · subst hz
      rw [if_pos rfl]
      rcases s3 with q | ⟨k, hk, q⟩
      · exact q
      · obtain ⟨i, hi⟩ := List.getElem?_of_mem hk
        rw [q]
        exact hW (i + 1) k (by omega) (by simpa using hi)
    · rw [if_neg hz]
      obtain ⟨i, rfl⟩ : ∃ i, j = i + 1 := ⟨j - 1, by omega⟩
      have hKt : t[i]? = some K := by simpa using hK
      have hKm := s2 K (List.mem_of_getElem? hKt)
      have hK0 : 0 < K.writes := by
        rcases writes_spec ep (k0 :: t) with ⟨q, _⟩ | ⟨j', K', q0, q1, q2, q3⟩
        · omega
        · have : j' = i + 1 := by omega
          subst this
          obtain rfl := Option.some.inj (q1.symm.trans hK)
          simp [writesAt] at q2
          exact q2.1
      rcases s3 with q | ⟨k, hk, q⟩
      · omega
      · obtain ⟨x, hx⟩ := List.getElem?_of_mem hk
        have hx' : (k0 :: t)[x + 1]? = some k := by simpa using hx
        rcases Nat.lt_trichotomy x i with hlt | rfl | hlt
        · have := h.rise (x + 1) (i + 1) k K (by omega) hx' hK (by omega)
          omega
        · obtain rfl := Option.some.inj (hx.symm.trans hKt)
          exact q
        · have := hW (x + 1) k (by omega) hx'
          omega
/-- Since the last Promote the same key has written. -/
theorem Keys2.still {ks : List PKey} {rs : List RKey} {ep turn : Int} (h : Keys2 ks rs ep turn) {e : Int} (he : 1 ≤ e) (he2 : e ≤ ep) (hp : promOf rs ≤ e) : writesOf rs e = writesOf rs ep := by
  obtain ⟨j, p, K, q0, _, q1, _, q2, q3, q4⟩ := h.writing (e := ep) (by omega)
  rw [q0]
  have hpr := h.prom q0 q1
  refine writes_unique q1 ?_ (fun i k hi hk => ?_)
  · by_cases hz : j = 0
    · subst hz
      have := (h.first K q1).2
      simp [writesAt, this]
      omega
    · rw [if_neg hz] at hpr
      simp [writesAt]
      omega
  · have := q4 i k hi hk
    simp [writesAt] at this ⊢
    omega
theorem writes_congr {e : Int} {rs rs' : List RKey} (hl : rs.length = rs'.length) (h : ∀ (i : Nat) (k k' : RKey), rs[i]? = some k → rs'[i]? = some k' → writesAt k e = writesAt k' e) : writesOf rs e = writesOf rs' e := by
  have other : ∀ (i : Nat) (k' : RKey), rs'[i]? = some k' → ∃ k, rs[i]? = some k := fun i k' hk => ⟨_, List.getElem?_eq_getElem (by have := (List.getElem?_eq_some_iff.1 hk).1; omega)⟩
  rcases writes_spec e rs with ⟨q, q1⟩ | ⟨j, K, q0, q1, q2, q3⟩
  · rcases writes_spec e rs' with ⟨p, _⟩ | ⟨j', K', p0, p1, p2, _⟩
    · rw [q, p]
    · obtain ⟨k, hk⟩ := other j' K' p1
      have := h j' k K' hk p1
      rw [q1 j' k hk, p2] at this
      cases this
  · obtain ⟨K', hK'⟩ : ∃ K', rs'[j]? = some K' := ⟨_, List.getElem?_eq_getElem (by have := (List.getElem?_eq_some_iff.1 q1).1; omega)⟩
    rw [q0]
    refine (writes_unique hK' (by rw [← h j K K' q1 hK']; exact q2) (fun i k' hi hk' => ?_)).symm
    obtain ⟨k, hk⟩ := other i k' hk'
    rw [← h i k k' hk hk']
    exact q3 i k hi hk
theorem Keys2.later {ks : List PKey} {rs : List RKey} {ep turn : Int} (h : Keys2 ks rs ep turn) {e : Int} (h1 : 1 ≤ ep) (he : ep ≤ e) : writesOf rs e = writesOf rs ep := by
  obtain ⟨j, p, K, q0, _, q1, _, q2, q3, q4⟩ := h.writing h1
  rw [q0]
  refine writes_unique q1 ?_ (fun i k hi hk => ?_)
  · simp [writesAt]
    omega
  · have a1 := q4 i k hi hk
    have a2 := h.wr i k hk
    simp [writesAt] at a1 ⊢
    omega
end Go.Proofs.YtggbjffmclpmgaaGreatDoor
namespace Go.Proofs.YtggbjffmclpmgaaGreatDoor
open Go.RowKit

/-! The program's coffer and the document's, under many keys. -/

structure Same2 (rs : List RKey) (ep : Int) (s : PSrv) (sn : Int) (u : RUnd) : Prop where
  seen : s.seen = sn
  sn : 0 ≤ sn ∧ sn ≤ ep
  busy : s.busy = u.on
  op : s.busy = true → s.epoch = u.epoch ∧ s.rev = u.want ∧ s.e = u.e ∧ -1 ≤ u.want ∧ (1 ≤ u.epoch ∧ u.epoch ≤ ep) ∧ (1 ≤ u.e.path.size ∧ u.e.path.size ≤ 16) ∧ (u.e.gone = false → EntOk u.e ∧ u.e.key = writesOf rs u.epoch)
structure Rel2 (n : Nat) (X : PS) (Y : RS) : Prop where
  keys : Keys2 X.keys Y.keys Y.epoch Y.turn
  live : ∀ (j : Nat) (K : RKey), writesOf Y.keys Y.epoch = (j : Int) + 1 → Y.keys[j]? = some K → K.gone = false
  ep : X.epoch = Y.epoch ∧ 1 ≤ Y.epoch ∧ Y.epoch + 1 ≤ 2 * (Y.keys.length : Int) ∧ (Y.turn = 1 → Y.epoch + 2 ≤ 2 * (Y.keys.length : Int))
  write : X.write = writesOf Y.keys Y.epoch
  turn : X.turn = Y.turn
  room : X.room = Y.room
  rooms : 1 ≤ Y.room ∧ Y.room ≤ 60
  rev : X.rev = (Y.all.length : Int)
  floor : X.floor = Y.floor
  floor0 : 0 ≤ Y.floor
  draws : X.draws = Y.draws ∧ 0 ≤ Y.draws ∧ Y.draws ≤ (n : Int)
  len : X.servers.length = Y.seen.length ∧ Y.ops.length = Y.seen.length ∧ Y.seen.length ≤ 4 ∧ 1 ≤ Y.seen.length
  srv : ∀ (i : Nat) (s : PSrv), X.servers[i]? = some s → ∃ sn u, Y.seen[i]? = some sn ∧ Y.ops[i]? = some u ∧ Same2 Y.keys Y.epoch s sn u
  ent : X.entries = keptOf Y.all
  few : (X.entries.length : Int) ≤ Y.room
  revs : Revs Y.all
  eok : ∀ k ∈ Y.all, k.e.gone = false → EntOk k.e ∧ ∃ j K, k.e.key = ((j : Nat) : Int) + 1 ∧ Y.keys[j]? = some K ∧ (k.out = false → K.gone = false)
  all : Y.all.length ≤ n
  gated : Y.turn = 3 → ∀ k ∈ Y.all, k.out = false → k.e.gone = false → k.e.key = writesOf Y.keys Y.epoch
variable {X : PS} {Y : RS} {n : Nat}
theorem Rel2.up (h : Rel2 n X Y) : Rel2 (n + 1) X Y :=
  ⟨h.keys, h.live, h.ep, h.write, h.turn, h.room, h.rooms, h.rev, h.floor, h.floor0, ⟨h.draws.1, h.draws.2.1, by have := h.draws.2.2; omega⟩, h.len, h.srv, h.ent, h.few, h.revs, h.eok, by have := h.all; omega, h.gated⟩
theorem Rel2.mono (h : Rel2 n X Y) {m : Nat} (hm : n ≤ m) : Rel2 m X Y :=
  ⟨h.keys, h.live, h.ep, h.write, h.turn, h.room, h.rooms, h.rev, h.floor, h.floor0, ⟨h.draws.1, h.draws.2.1, by have := h.draws.2.2; omega⟩, h.len, h.srv, h.ent, h.few, h.revs, h.eok, by have := h.all; omega, h.gated⟩
theorem Rel2.at (h : Rel2 n X Y) {s : Int} (hs : isSrv Y.seen.length s = true) : ∃ (i : Nat) (p : PSrv) (sn : Int) (u : RUnd), s = (i : Int) ∧ X.servers[i]? = some p ∧ At Y i sn u ∧ Same2 Y.keys Y.epoch p sn u ∧ i < Y.seen.length := by
  unfold isSrv at hs
  simp at hs
  have hi : s.toNat < Y.seen.length := by omega
  obtain ⟨p, hp⟩ : ∃ p, X.servers[s.toNat]? = some p := ⟨_, List.getElem?_eq_getElem (by rw [h.len.1]; exact hi)⟩
  obtain ⟨sn, u, h1, h2, h3⟩ := h.srv _ _ hp
  exact ⟨s.toNat, p, sn, u, by omega, hp, ⟨h1, h2⟩, h3, hi⟩
theorem Rel2.put (h : Rel2 n X Y) {i : Nat} (hi : i < Y.seen.length) (p : PSrv) (sn : Int) (u : RUnd) (hS : Same2 Y.keys Y.epoch p sn u) :
    Rel2 n { X with servers := X.servers.set i p } { Y with seen := Y.seen.set i sn, ops := Y.ops.set i u } := by
  refine ⟨h.keys, h.live, h.ep, h.write, h.turn, h.room, h.rooms, h.rev, h.floor, h.floor0, h.draws, ⟨by simp [h.len.1], by simp [h.len.2.1], by simpa using h.len.2.2.1, by rw [List.length_set]; exact h.len.2.2.2⟩, fun j q hq => ?_, h.ent, h.few, h.revs, h.eok, h.all, h.gated⟩
  have hl := h.len
  replace hq : (X.servers.set i p)[j]? = some q := hq
  show ∃ sn1 u1, (Y.seen.set i sn)[j]? = some sn1 ∧ (Y.ops.set i u)[j]? = some u1 ∧ Same2 Y.keys Y.epoch q sn1 u1
  by_cases e : i = j
  · subst e
    rw [List.getElem?_set_self (by omega)] at hq
    obtain rfl := Option.some.inj hq
    exact ⟨sn, u, List.getElem?_set_self hi, List.getElem?_set_self (by omega), hS⟩
  · rw [List.getElem?_set_ne e] at hq
    obtain ⟨a, c, h1, h2, h3⟩ := h.srv j q hq
    exact ⟨a, c, by rw [List.getElem?_set_ne e]; exact h1, by rw [List.getElem?_set_ne e]; exact h2, h3⟩
def Pair2 (fx fr : Nat) (args : List Value) (X : PS) (Y : RS) (n : Nat) (v : Value) : Prop := ∃ X' Y', PUni fx args X v X' ∧ RUni fr args Y v Y' ∧ Rel2 (n + 1) X' Y'
theorem refresh_two (h : Rel2 n X Y) (s : Int) : ∃ v : Int, Pair2 22 23 [.int .i64 s] X Y n (.int .i64 v) := by
  cases hs : isSrv Y.seen.length s
  · have hx : isSrv X.servers.length s = false := by rw [h.len.1]; exact hs
    exact ⟨4, X, Y, p_same (fun w F b hX => pRefresh_no w s hX hx), r_same (fun w F b hR => Refresh_no w s hR hs), h.up⟩
  · obtain ⟨i, p, sn, u, rfl, hp, ha, hS, hi⟩ := h.at hs
    refine ⟨0, X.refresh i p, Y.refresh (i : Int), p_kept (fun w F b hX _ _ => pRefresh_yes w i p hX hp), r_kept (fun w F b hR => Refresh_yes w i hR hs), ?_⟩
    have q := (h.put hi { p with seen := X.epoch } Y.epoch u ⟨h.ep.1, ⟨by have := h.ep.2.1; omega, Int.le_refl _⟩, hS.busy, hS.op⟩).up
    rw [set_same ha.op] at q
    unfold PS.refresh RS.refresh
    rw [Int.toNat_natCast]
    exact q
theorem crash_two (h : Rel2 n X Y) (s : Int) : ∃ v : Int, Pair2 24 25 [.int .i64 s] X Y n (.int .i64 v) := by
  cases hs : isSrv Y.seen.length s
  · have hx : isSrv X.servers.length s = false := by rw [h.len.1]; exact hs
    exact ⟨4, X, Y, p_same (fun w F b hX => pCrash_no w s hX hx), r_same (fun w F b hR => Crash_no w s hR hs), h.up⟩
  · obtain ⟨i, p, sn, u, rfl, hp, ha, hS, hi⟩ := h.at hs
    refine ⟨0, X.crash i, Y.crash (i : Int), p_kept (fun w F b hX _ _ => pCrash_yes w i p hX hp), r_kept (fun w F b hR => Crash_yes w i hR hs h.len.2.1), ?_⟩
    have q := (h.put hi PSrv.zero 0 RUnd.zero ⟨rfl, ⟨Int.le_refl _, by have := h.ep.2.1; omega⟩, rfl, fun e => by cases e⟩).up
    unfold PS.crash RS.crash
    rw [Int.toNat_natCast]
    exact q
/-- The key that writes. -/
theorem Rel2.writer (h : Rel2 n X Y) : ∃ (j : Nat) (p : PKey) (K : RKey), X.write = (j : Int) + 1 ∧ writesOf Y.keys Y.epoch = (j : Int) + 1 ∧ X.keys[j]? = some p ∧ Y.keys[j]? = some K ∧ KSame p K ∧ 0 < K.writes ∧ K.gone = false ∧ promOf Y.keys = (if j = 0 then 0 else K.writes) ∧ (j = 0 → K.writes = 1) := by
  obtain ⟨j, p, K, q0, q1, q2, q3, q4, _, _⟩ := h.keys.writing h.ep.2.1
  refine ⟨j, p, K, by rw [h.write]; exact q0, q0, q1, q2, q3, q4, h.live j K q0 q2, h.keys.prom q0 q2, fun hz => ?_⟩
  subst hz
  exact (h.keys.first K q2).2
theorem revs_snoc {l : List RKept} (h : Revs l) (x : RKept) (hx : x.e.rev = (l.length : Int) + 1) : Revs (l ++ [x]) := by
  intro j k hk
  by_cases hj : j < l.length
  · rw [List.getElem?_append_left hj] at hk
    exact h j k hk
  · rw [List.getElem?_append_right (by omega)] at hk
    have hj0 : j = l.length := by
      have := (List.getElem?_eq_some_iff.1 hk).1
      simp at this
      omega
    subst hj0
    rw [Nat.sub_self] at hk
    obtain rfl := (Option.some.inj hk).symm
    exact hx
theorem commit_same2 (h : Rel2 n X Y) {j : Nat} {p : PKey} {K : RKey} (hks : KSame p K) (hpr : promOf Y.keys = (if j = 0 then 0 else K.writes)) (hj0 : j = 0 → K.writes = 1) {s : PSrv} {sn : Int} {u : RUnd} (hs : Same2 Y.keys Y.epoch s sn u) (hb : s.busy = true) : pCommitErr X p.wrote s = commitErr Y u := by
  obtain ⟨e1, e2, e3, e4, e5, _, _⟩ := hs.op hb
  unfold pCommitErr pErr commitErr
  have hn : newestOf X.entries s.e.path X.rev = (lastOf Y.all u.e.path).getD Ent.zero := by rw [h.ent, h.rev, newest_all _ _ h.revs, e3]
  obtain ⟨L, hL⟩ : ∃ L, L = lastOf Y.all u.e.path := ⟨_, rfl⟩
  rw [← hL] at hn
  have h1 : ∀ e, L = some e → 1 ≤ e.rev := by
    intro e he
    rw [hL] at he
    obtain ⟨k, hk, rfl, _⟩ := lastOf_mem he
    obtain ⟨i, hi⟩ := List.getElem?_of_mem hk
    have := h.revs i k hi
    omega
  obtain ⟨q1, q2⟩ := rev_there L h1
  have hpr2 : pRevOf X s.e.path = (if (L.getD Ent.zero).gone then (0 : Int) else (L.getD Ent.zero).rev) := by unfold pRevOf; rw [hn]
  obtain ⟨r, hr⟩ : ∃ r, r = pRevOf X s.e.path := ⟨_, rfl⟩
  rw [← hpr2, ← hr] at q1 q2
  have q3 : thereOf L = true → 1 ≤ r := fun ht => by
    rw [q2 ht]
    cases L with
    | none => cases ht
    | some e => exact h1 e rfl
  have hf : pFull X = fullOf Y := by unfold pFull fullOf; rw [h.room, h.ent]
  have hst : decide (u.epoch < p.wrote) = decide (u.epoch < promOf Y.keys) := by
    rw [hpr, hks.wrote]
    by_cases hz : j = 0
    · rw [if_pos hz, hj0 hz, decide_eq_false (by omega), decide_eq_false (by omega)]
    · rw [if_neg hz]
  rw [← hr, hf, e1, e2, e3, ← hL, conflict_same L r u.want e4 q1 q2 q3, q1, hst]
theorem commit_two (h : Rel2 n X Y) (hn : n ≤ 50000000) (s : Int) : ∃ v e : Int, Pair2 28 29 [.int .i64 s] X Y n (.tuple #[.int .i64 v, .int .i64 e]) := by
  cases hs : isSrv Y.seen.length s
  · have hx : isSrv X.servers.length s = false := by rw [h.len.1]; exact hs
    exact ⟨0, 4, X, Y, p_same (fun w F b hX => pCommit_srv w s hX hx), r_same (fun w F b hR => Commit_srv w s hR hs), h.up⟩
  · obtain ⟨i, p, sn, u, rfl, hp, ha, hS, hi⟩ := h.at hs
    cases hbz : p.busy
    · exact ⟨0, 8, X, Y, p_same (fun w F b hX => pCommit_idle w i p hX hp hbz), r_low (fun w F b hR => Commit_idle w i sn u hR ha (by rw [← hS.busy]; exact hbz)), h.up⟩
    · have hA := h.all
      obtain ⟨j, pk, K, w0, w1, w2, w3, w4, w5, w6, w7, w8⟩ := h.writer
      have hE := commit_same2 h w4 w7 w8 hS hbz
      obtain ⟨e1, e2, e3, e4, e5, e6, e7⟩ := hS.op hbz
      have q := h.put hi p.rest sn RUnd.zero ⟨hS.seen, hS.sn, rfl, fun e => by cases e⟩
      rw [set_same ha.seen] at q
      have hx1 := fun (w : World) (F : Nat → Prop) (b : Nat) (hX : XIn w F b X) => pCommit_any w i p pk j hX hp hbz w0 w2 (by rw [h.keys.len]; exact h.keys.few.2) (by have := h.few; have := h.rooms; omega) (by rw [h.rev]; omega)
      have hr1 := fun (w : World) (F : Nat → Prop) (b : Nat) (hR : RIn w F b Y) => Commit_any w i sn u hR ha (by rw [← hS.busy]; exact hbz) (by omega) h.keys.few.2 h.keys.few.1
      have eRev : X.commitRev pk.wrote p = Y.commitRev u := by unfold PS.commitRev RS.commitRev; rw [hE, h.rev]
      refine ⟨Y.commitRev u, commitErr Y u, X.commit pk.wrote i p, Y.commit i u, p_grow (fun w F b hX => ?_), r_grow hr1, ?_⟩
      · have := hx1 w F b hX
        rw [eRev, hE] at this
        exact this
      · unfold PS.commit RS.commit
        rw [hE]
        by_cases hc : (commitErr Y u == 0) = true
        · rw [if_pos hc, if_pos hc]
          have hc0 : commitErr Y u = 0 := by simpa using hc
          have hfull : fullOf Y = false := by
            cases hf : fullOf Y
            · rfl
            · exfalso
              revert hc0
              unfold commitErr
              rw [hf]
              split
              · intro z; cases z
              · split
                · intro z; cases z
                · split
                  · intro z; cases z
                  · intro z; cases z
          have hstale : promOf Y.keys ≤ u.epoch := by
            by_cases hz : u.epoch < promOf Y.keys
            · exfalso
              revert hc0
              unfold commitErr
              rw [decide_eq_true hz, if_pos rfl]
              intro z; cases z
            · omega
          have hstill := h.keys.still e5.1 e5.2 hstale
          have hlen : ((keptOf Y.all).length : Int) < Y.room := by unfold fullOf at hfull; simp at hfull; exact hfull
          have hrev : X.rev + 1 = (Y.all.length : Int) + 1 := by rw [h.rev]
          refine ⟨h.keys, h.live, h.ep, h.write, h.turn, h.room, h.rooms, ?_, h.floor, h.floor0, q.up.draws, q.len, q.srv, ?_, ?_, ?_, ?_, ?_, ?_⟩
          · show X.rev + 1 = ((Y.all ++ [_]).length : Int)
            rw [h.rev, List.length_append]; rfl
          · show X.entries ++ [{ p.e with rev := X.rev + 1 }] = keptOf (Y.all ++ [⟨{ u.e with rev := (Y.all.length : Int) + 1 }, false⟩])
            rw [keptOf_snoc, h.ent, e3, hrev]
            rfl
          · show ((X.entries ++ [{ p.e with rev := X.rev + 1 }]).length : Int) ≤ Y.room
            rw [h.ent, List.length_append]
            show (((keptOf Y.all).length + 1 : Nat) : Int) ≤ Y.room
            omega
          · show Revs (Y.all ++ [⟨{ u.e with rev := (Y.all.length : Int) + 1 }, false⟩])
            exact revs_snoc h.revs _ rfl
          · show ∀ k ∈ Y.all ++ [⟨{ u.e with rev := (Y.all.length : Int) + 1 }, false⟩], k.e.gone = false → EntOk k.e ∧ ∃ j K, k.e.key = ((j : Nat) : Int) + 1 ∧ Y.keys[j]? = some K ∧ (k.out = false → K.gone = false)
            intro k hk hg
            rcases List.mem_append.1 hk with hk | hk
            · exact h.eok k hk hg
            · obtain rfl := List.mem_singleton.1 hk
              obtain ⟨o1, o2⟩ := e7 hg
              exact ⟨⟨o1.path, o1.draw, o1.sealed⟩, j, K, by show u.e.key = _; rw [o2, hstill, w1], w3, fun _ => w6⟩
          · show (Y.all ++ [_]).length ≤ n + 1
            rw [List.length_append]
            show Y.all.length + 1 ≤ n + 1
            omega
          · intro ht k hk ho hg
            replace hk : k ∈ Y.all ++ [⟨{ u.e with rev := (Y.all.length : Int) + 1 }, false⟩] := hk
            rcases List.mem_append.1 hk with hk | hk
            · exact h.gated ht k hk ho hg
            · obtain rfl := List.mem_singleton.1 hk
              exact ((e7 hg).2).trans hstill
        · rw [if_neg hc, if_neg hc]
          exact q.up
end Go.Proofs.YtggbjffmclpmgaaGreatDoor
namespace Go.Proofs.YtggbjffmclpmgaaGreatDoor
open Go.RowKit

variable {F : Nat → Prop} {b : Nat} {X : PS}

/-! Begin, where the key was destroyed. -/
set_option maxRecDepth 100000 in
set_option maxHeartbeats 1000000 in
theorem sealed_gone (w : World) (path plain : ByteArray) (K : PKey) (i : Nat) (h : XIn w F b X) (hk : X.keys[i]? = some K) (hi6 : i ≤ 6) (hK : keyGone K = true) :
    Calls Tryz.prog 82 #[.pointer (some ⟨b, 0, none⟩), .int .i64 ((i : Int) + 1), .string path, .string plain] w fun r w' =>
      r = .returned (.tuple #[.agg Ent.zero.cells.toArray, .int .i64 14]) ∧ Low w.heap.size w w' := by
  have HR := hid h
  have HK := hid hk
  have KG := hid hK
  have hb := h.lt
  clear h hk hK
  go_enter Tryz.func82, Tryz.ntmps82
  go_wp2_with (first | (go_at_call 95; refine (key_any _ i K (by exact HR.out.alloc _) HK.out (by omega)).mono ?_; rintro r y1 ⟨rfl, l1⟩; have bN : Blk y1 w.heap.size 50 Ent.zero.cells := (Blk.new w 50 Ent.zero.cells).low l1 (by simp); have L1 : Hid (Low w.heap.size w y1) := ((Low.refl _ w).alloc (Nat.le_refl _) _).trans (l1.mono (by simp)); have BN1 := hid bN; clear l1 bN) | (go_at_call 86; refine (destroyed_any _ K).mono ?_; rw [KG.out]; rintro r y2 ⟨rfl, l2⟩; have bNb : Blk y2 w.heap.size 50 Ent.zero.cells := (BN1.out.alloc _).low l2 (by have := BN1.out.lt; simp; omega); have L2 : Hid (Low w.heap.size w y2) := (L1.out.alloc L1.out.size _).trans (l2.mono (by have := L1.out.size; simp; omega)); have BN2 := hid bNb; clear l2 bNb) | ((with_reducible refine st50 (.tmp 8) (.tmp 20) w.heap.size Ent.zero Ent.zero ?_ ?_ BN2.out ?_); rfl; rfl; intro w1 b1 k1 t1; have B1 := hid b1; have K1 := hid k1; have LT1 := hid t1; clear b1 k1 t1))
  (try simp only [Exit.inBlock, Exit.then])
  refine bodyPost_ret (results_cell_tmp rfl w.heap.size Ent.zero.cells _ rfl B1.out.whole Tryz.underlying50 rfl (sz50 _)) rfl ?_
  exact ⟨rfl, low_set L2.out K1.out (Nat.le_refl _) (by have := BN2.out.lt; have := LT1.out; omega)⟩
set_option maxRecDepth 100000 in
set_option maxHeartbeats 1000000 in
theorem prepared_gone (w : World) (seen : Int) (o : AOp) (K : PKey) (i : Nat) (hk2 : (o.kind == 2) = false) (h : XIn w F b X) (hw : writerOf X.keys seen = (i : Int) + 1) (hk : X.keys[i]? = some K) (hl : X.keys.length ≤ 6) (hK : keyGone K = true) :
    Calls Tryz.prog 62 #[.pointer (some ⟨b, 0, none⟩), .int .i64 seen, .agg #[.int .i64 o.kind, .string o.path, .string o.plain, .int .i64 o.rev]] w fun e w' => e = .returned (.tuple #[.agg Ent.zero.cells.toArray, .int .i64 14]) ∧ Low w.heap.size w w' := by
  have HR := hid h
  have HW := hid hw
  have HK := hid hk
  have HT := hid hK
  have hil : i < X.keys.length := (List.getElem?_eq_some_iff.1 hk).1
  clear h hw hk hK
  have hV : Hid (∀ A B : Obj, Low w.heap.size w ((w.alloc A).alloc B)) := fun A B => ((Low.refl _ w).alloc (Nat.le_refl _) A).alloc (by simp) B
  go_enter Tryz.func62, Tryz.ntmps62
  go_wp2_with (first | (go_at_call 92; refine (writer_any _ _ (by exact (HR.out.alloc _).alloc _) hl (by omega)).mono ?_; rw [HW.out]; rintro e y1 ⟨rfl, rfl⟩) | (go_at_call 82; refine (sealed_gone _ _ _ K i (by exact (HR.out.alloc _).alloc _) HK.out (by omega) HT.out).mono ?_; rintro e y2 ⟨rfl, l2⟩; have L2 : Hid (Low w.heap.size w y2) := (hV.out _ _).trans (l2.mono (by simp; omega)); have BN : Hid (Blk y2 (w.heap.size + 1) 50 Ent.zero.cells) := (show Blk ((w.alloc (.cells o.cells.toArray 75)).alloc (.cells Ent.zero.cells.toArray 50)) (w.heap.size + 1) 50 Ent.zero.cells from (by (have q := Blk.new (w.alloc (.cells o.cells.toArray 75)) 50 Ent.zero.cells); rw [World.size_alloc] at q; exact q)).low l2 (by simp); clear l2) | ((with_reducible refine st50 (.tmp 6) (.tmp 25) (w.heap.size + 1) Ent.zero Ent.zero ?_ ?_ BN.out ?_); rfl; rfl; intro w1 b1 k1 t1; have B1 := hid b1; have K1 := hid k1; clear b1 k1 t1))
  (try simp only [Exit.inBlock, Exit.then])
  refine bodyPost_ret (results_cell_tmp rfl (w.heap.size + 1) Ent.zero.cells _ rfl B1.out.whole Tryz.underlying50 rfl (sz50 _)) rfl ?_
  exact ⟨rfl, low_set L2.out K1.out (by omega) (by have := BN.out.lt; omega)⟩
set_option maxRecDepth 100000 in
set_option maxHeartbeats 1000000 in
theorem pBegin_gone (w : World) (i : Nat) (s : PSrv) (o : AOp) (K : PKey) (ki : Nat) (h : XIn w F b X) (ha : X.servers[i]? = some s) (hu : s.busy = false) (hsn : (s.seen == 0) = false) (hp : o.path.size ≤ maxLen) (hq : o.plain.size ≤ maxLen) (ho : properOf o = true) (hk2 : (o.kind == 1) = true) (hw : writerOf X.keys s.seen = (ki : Int) + 1) (hk : X.keys[ki]? = some K) (hl : X.keys.length ≤ 6) (hK : keyGone K = true) :
    Calls Tryz.prog 26 #[.pointer (some ⟨b, 0, none⟩), .int .i64 (i : Int), .agg #[.int .i64 o.kind, .string o.path, .string o.plain, .int .i64 o.rev]] w fun e w' => e = .returned (.int .i64 14) ∧ Low w.heap.size w w' := by
  have hk3 : (o.kind == 2) = false := beq_eq_false_iff_ne.2 (by have := beq_iff_eq.1 hk2; omega)
  have HR := hid h
  have HS := hid (psrv ha).1
  have hb := h.lt
  obtain ⟨gS, capS, hcS, hgS, hcs, _⟩ := xin_srvAt h ha
  have s0 : w.cell? ⟨gS, i * 10, none⟩ = some (.int .i64 s.seen) := hcs 0 (by omega)
  have s1 : w.cell? ⟨gS, i * 10 + 1, none⟩ = some (.bool s.busy) := hcs 1 (by omega)
  have i1 := (psrv ha).2
  clear h hcs ha
  have HP := hid hp
  have HQ := hid hq
  have HO := hid ho
  have HW := hid hw
  have HKK := hid hk
  have HT := hid hK
  clear hp hq ho hw hk hK
  go_enter Tryz.func26, Tryz.ntmps26
  go_wp2_with (first | (go_at_call 59; refine (isServer_any _ _ (by exact HR.out.alloc _)).mono ?_; rw [HS.out]; rintro e y1 ⟨rfl, rfl⟩) | (go_at_call 61; refine (isOperation_any _ o HP.out HQ.out).mono ?_; rw [HO.out]; rintro e y1 ⟨rfl, l1⟩; have L1 : Hid (Low w.heap.size w y1) := ((Low.refl _ w).alloc (Nat.le_refl _) _).trans (l1.mono (by simp)); have b75 : Blk y1 w.heap.size 75 o.cells := (Blk.new w 75 o.cells).low l1 (by simp); have n0 : y1.cell? ⟨w.heap.size, 0, none⟩ = some (.int .i64 o.kind) := b75.cell 0; have n1 : y1.cell? ⟨w.heap.size, 1, none⟩ = some (.string o.path) := b75.cell 1; have n2 : y1.cell? ⟨w.heap.size, 2, none⟩ = some (.string o.plain) := b75.cell 2; have n3 : y1.cell? ⟨w.heap.size, 3, none⟩ = some (.int .i64 o.rev) := b75.cell 3; have X1 : Hid (XIn y1 F b X) := HR.out.low L1.out; clear l1 b75) | (go_at_call 62; refine (prepared_gone _ _ o K ki hk3 X1.out HW.out HKK.out hl HT.out).mono ?_; rintro e y2 ⟨rfl, l2⟩; have L2 : Hid (Low w.heap.size w y2) := L1.out.trans (l2.mono L1.out.size); clear l2) | ((with_reducible refine st50 (.tmp 8) (.tmp 41) y2.heap.size Ent.zero Ent.zero ?_ ?_ ?_ ?_); rfl; rfl; exact (Blk.new y2 50 Ent.zero.cells); intro W b3 k3 t3; have LW : Hid (Low w.heap.size w W) := low_set (L2.out.alloc L2.out.size _) k3 L2.out.size (by have := L2.out.size; simp; omega); clear b3 k3 t3))
  go_ret
  exact ⟨rfl, LW.out⟩
end Go.Proofs.YtggbjffmclpmgaaGreatDoor
namespace Go.Proofs.YtggbjffmclpmgaaGreatDoor
open Go.RowKit

variable {X : PS} {Y : RS} {n : Nat}
theorem KSame.dead {p : PKey} {k : RKey} (h : KSame p k) (hg : k.gone = true) : keyGone p = true := by
  unfold keyGone
  rw [h.gone hg]
  exact beq_self_eq_true _
theorem begin_two (h : Rel2 n X Y) (hn : n ≤ 50000000) (s : Int) (o : AOp) (hp : o.path.size ≤ maxLen) (hq : o.plain.size ≤ maxLen) :
    ∃ v : Int, Pair2 26 27 [.int .i64 s, .agg #[.int .i64 o.kind, .string o.path, .string o.plain, .int .i64 o.rev]] X Y n (.int .i64 v) := by
  cases hs : isSrv Y.seen.length s
  · have hx : isSrv X.servers.length s = false := by rw [h.len.1]; exact hs
    exact ⟨4, X, Y, p_low (fun w F b hX _ _ => pBegin_srv w s o hX hx), r_low (fun w F b hR => Begin_srv w s o hR hs), h.up⟩
  · obtain ⟨i, p, sn, u, rfl, hpp, ha, hS, hi⟩ := h.at hs
    cases hbz : p.busy
    · have hu : u.on = false := by rw [← hS.busy]; exact hbz
      cases hzn : (sn == 0)
      · have hz : (p.seen == 0) = false := by rw [hS.seen]; exact hzn
        have h1n : 1 ≤ sn := by have := hS.sn.1; have : sn ≠ 0 := by simpa using hzn
                                omega
        cases ho : properOf o
        · exact ⟨7, X, Y, p_low (fun w F b hX _ _ => pBegin_op w i p o hX hpp hbz hz hp hq ho), r_low (fun w F b hR => Begin_op w i sn u o hR ha hu hzn hp hq ho), h.up⟩
        · obtain ⟨o1, o2, o3, o4⟩ := proper_parts ho
          cases hk : (o.kind == 1)
          · have q := (h.put hi ⟨p.seen, true, p.seen, o.rev, delEnt o.path⟩ sn ⟨true, delEnt o.path, sn, o.rev⟩ ⟨hS.seen, hS.sn, rfl, fun _ => ⟨hS.seen, rfl, rfl, o2, ⟨h1n, hS.sn.2⟩, o1, fun e => by cases e⟩⟩).up
            rw [set_same ha.seen] at q
            exact ⟨0, _, _, p_kept (fun w F b hX _ _ => pBegin_del w i p o hX hpp hbz hz hp hq ho (o4 hk)), r_kept (fun w F b hR => Begin_del w i sn u o hR ha hu hzn hp hq ho hk), q⟩
          · obtain ⟨j, pk, K, q0, q1, q2, q3, _, _, _⟩ := h.keys.writing h1n
            have hw : writerOf X.keys p.seen = (j : Int) + 1 := by rw [hS.seen, h.keys.writer h1n, q0]
            have hl6 : X.keys.length ≤ 6 := by rw [h.keys.len]; exact h.keys.few.2
            cases hg : K.gone
            · obtain ⟨d0, d1, d2⟩ := h.draws
              have ht := q3.text hg
              have h2 : Rel2 (n + 1) { X with draws := X.draws + 1 } { Y with draws := Y.draws + 1 } := ⟨h.keys, h.live, h.ep, h.write, h.turn, h.room, h.rooms, h.rev, h.floor, h.floor0, ⟨by show X.draws + 1 = Y.draws + 1; rw [d0], by show 0 ≤ Y.draws + 1; omega, by show Y.draws + 1 ≤ ((n + 1 : Nat) : Int); omega⟩, h.len, h.srv, h.ent, h.few, h.revs, h.eok, h.up.all, h.gated⟩
              have hsz := sealOf_size K.text (nonceTo (Y.draws + 1) 12) o.path o.plain
              have hpl := o3 hk
              have hok : EntOk (closedOf K.text ((j : Int) + 1) o.path o.plain (Y.draws + 1)) := ⟨o1, ⟨by show 0 ≤ Y.draws + 1; omega, by show Y.draws + 1 ≤ _; omega⟩, ⟨by show 8 ≤ (sealOf K.text (nonceTo (Y.draws + 1) 12) o.path o.plain).size; omega, by show (sealOf K.text (nonceTo (Y.draws + 1) 12) o.path o.plain).size ≤ _; omega⟩⟩
              have q := h2.put hi ⟨p.seen, true, p.seen, o.rev, closedOf pk.text ((j : Int) + 1) o.path o.plain (X.draws + 1)⟩ sn ⟨true, closedOf K.text ((j : Int) + 1) o.path o.plain (Y.draws + 1), sn, o.rev⟩ ⟨hS.seen, hS.sn, rfl, fun _ => ⟨hS.seen, rfl, by rw [d0, ht], o2, ⟨h1n, hS.sn.2⟩, o1, fun _ => ⟨hok, q0.symm⟩⟩⟩
              replace q : Rel2 (n + 1) _ { Y with draws := Y.draws + 1, seen := Y.seen.set i sn, ops := Y.ops.set i ⟨true, closedOf K.text ((j : Int) + 1) o.path o.plain (Y.draws + 1), sn, o.rev⟩ } := q
              rw [set_same ha.seen] at q
              exact ⟨0, _, _, p_kept (fun w F b hX hF h1 => pBegin_put w i p o pk j hX hpp hbz hz hp hq ho hk hw q1 hl6 (by rw [ht]; exact q3.size) ⟨by omega, by omega⟩ hF h1),
                r_kept (fun w F b hR => Begin_put w i sn u o K j hR ha hu hzn hp hq ho hk h.keys.few.2 q0 q2 hg q3.size ⟨by omega, by omega⟩), q⟩
            · exact ⟨14, X, Y, p_low (fun w F b hX _ _ => pBegin_gone w i p o pk j hX hpp hbz hz hp hq ho hk hw q1 hl6 (q3.dead hg)), r_low (fun w F b hR => Begin_gone w i sn u o K j hR ha hu hzn hp hq ho hk h.keys.few.2 q0 q2 hg), h.up⟩
      · have hz : (p.seen == 0) = true := by rw [hS.seen]; exact hzn
        exact ⟨6, X, Y, p_low (fun w F b hX _ _ => pBegin_blind w i p o hX hpp hbz hz), r_low (fun w F b hR => Begin_blind w i sn u o hR ha hu hzn), h.up⟩
    · have hu : u.on = true := by rw [← hS.busy]; exact hbz
      exact ⟨5, X, Y, p_low (fun w F b hX _ _ => pBegin_busy w i p o hX hpp hbz), r_low (fun w F b hR => Begin_busy w i sn u o hR ha hu), h.up⟩
end Go.Proofs.YtggbjffmclpmgaaGreatDoor
namespace Go.Proofs.YtggbjffmclpmgaaGreatDoor
open Go.RowKit

variable {X : PS} {Y : RS} {n : Nat}
theorem compact_of (hent : X.entries = keptOf Y.all) (hrevs : Revs Y.all) (r : Nat) : (X.compact (r : Int)).entries = keptOf (Y.compact r).all := by
  show X.entries.filter (fun e => outl X e (r : Int)) = keptOf (allTo Y.all (outAt Y.all r) r)
  have e0 : ∀ e : Ent, outl X e (r : Int) = (decide ((r : Int) < e.rev) || ((e.rev == ((lastOf (Y.all.take r) e.path).getD Ent.zero).rev) && !e.gone)) := by
    intro e
    unfold outl
    rw [hent, newest_last _ _ _ hrevs, Int.toNat_natCast]
  rw [hent]
  refine kept_filter (fun e => outl X e (r : Int)) (outAt Y.all r) r Y.all (fun j k hk ho => ?_)
  show outl X k.e (r : Int) = _
  rw [e0]
  have hrev := hrevs j k hk
  have hout : outAt Y.all r j = ((((lastOf (Y.all.take r) k.e.path).getD Ent.zero).rev != (j : Int) + 1) || ((lastOf (Y.all.take r) k.e.path).getD Ent.zero).gone) := by
    unfold outAt; rw [hk]
  rw [hout, hrev]
  by_cases hj : j < r
  · have d1 : decide ((r : Int) < (j : Int) + 1) = false := by simp; omega
    rw [d1, decide_eq_true hj, Bool.false_or, Bool.true_and]
    cases hL : lastOf (Y.all.take r) k.e.path with
    | none =>
      have : ((0 : Int) != (j : Int) + 1) = true := by rw [bne_iff_ne]; omega
      have h2 : (((j : Int) + 1) == (0 : Int)) = false := by rw [beq_eq_false_iff_ne]; omega
      simp [Ent.zero, this, h2]
    | some e =>
      simp only [Option.getD_some]
      by_cases he : e.rev = (j : Int) + 1
      · obtain ⟨k2, hm, rfl, _, _⟩ := lastOf_mem hL
        obtain ⟨i, hi⟩ := List.getElem?_of_mem hm
        have hi2 : Y.all[i]? = some k2 := by
          rw [List.getElem?_take] at hi
          split at hi
          · exact hi
          · cases hi
        have hr2 := hrevs i k2 hi2
        obtain rfl : i = j := by omega
        obtain rfl : k2 = k := Option.some.inj (hi2.symm.trans hk)
        simp [he]
      · have a1 : (((j : Int) + 1) == e.rev) = false := by rw [beq_eq_false_iff_ne]; omega
        have a2 : (e.rev != (j : Int) + 1) = true := by rw [bne_iff_ne]; exact he
        simp [a1, a2]
  · have d1 : decide ((r : Int) < (j : Int) + 1) = true := by simp; omega
    rw [d1, decide_eq_false hj]
    simp
theorem read_two (h : Rel2 n X Y) (hn : n ≤ 50000000) {i : Nat} {p : PSrv} {sn : Int} {u : RUnd} (hzn : (sn == 0) = false) (hpp : X.servers[i]? = some p) (ha : At Y i sn u) (hS : Same2 Y.keys Y.epoch p sn u) (name : ByteArray) (rev : Int) (asked : Bool)
    (hr : asked = true → decide (rev < Y.floor) = false ∧ decide ((Y.all.length : Int) < rev) = false) :
    ∃ (A : ByteArray) (B C : Int), (∀ (w : World) (F : Nat → Prop) (b : Nat), XIn w F b X → Fours w → 1 ≤ w.heap.size → Calls Tryz.prog 73 #[.pointer (some ⟨b, 0, none⟩), .int .i64 (i : Int), .string name, .int .i64 rev] w fun e w' => e = .returned (.tuple #[.string A, .int .i64 B, .int .i64 C]) ∧ Low w.heap.size w w') ∧
      (∀ (w : World) (F : Nat → Prop) (b : Nat), RIn w F b Y → Calls Tryz.prog 74 #[.pointer (some ⟨b, 0, none⟩), .int .i64 (i : Int), .string name, .int .i64 rev, .bool asked] w fun e w' => e = .returned (.tuple #[.string A, .int .i64 B, .int .i64 C]) ∧ Low w.heap.size w w') := by
  have hA := h.all
  have hent : X.entries.length ≤ 1000 := by have := h.few; have := h.rooms; omega
  have hN : newestOf X.entries name rev = (lastOf (Y.all.take rev.toNat) name).getD Ent.zero := by rw [h.ent]; exact newest_last _ _ _ h.revs
  cases hL : lastOf (Y.all.take rev.toNat) name with
  | none =>
    rw [hL] at hN
    have ht : thereOf (lastOf (Y.all.take rev.toNat) name) = false := by rw [hL]; rfl
    refine ⟨⟨#[]⟩, 0, 12, fun w F b hX _ _ => read_none w i name rev hX hent (by rw [hN]; rfl), fun w F b hR => ?_⟩
    cases asked
    · exact get_none_false w i sn u name rev hR ha hzn (by omega) ht
    · exact get_none_true w i sn u name rev hR ha hzn (by omega) (hr rfl).1 (hr rfl).2 ht
  | some E =>
    rw [hL] at hN
    replace hN : newestOf X.entries name rev = E := hN
    obtain ⟨k, hk, hkE, hko, _⟩ := lastOf_mem hL
    have hkm : k ∈ Y.all := List.mem_of_mem_take hk
    obtain ⟨j, hj⟩ := List.getElem?_of_mem hkm
    have hrv := h.revs j k hj
    rw [hkE] at hrv
    have hz : (E.rev == 0) = false := by rw [beq_eq_false_iff_ne]; omega
    cases hg : E.gone
    · obtain ⟨ok1, jk, K, ok2, ok3, ok4⟩ := h.eok k hkm (by rw [hkE]; exact hg)
      rw [hkE] at ok1 ok2
      have hKg : K.gone = false := ok4 hko
      have hjl : jk < Y.keys.length := (List.getElem?_eq_some_iff.1 ok3).1
      have hj6 : jk ≤ 6 := by have := h.keys.few.2; omega
      obtain ⟨pk, hpk⟩ : ∃ pk, X.keys[jk]? = some pk := ⟨_, List.getElem?_eq_getElem (by rw [h.keys.len]; exact hjl)⟩
      have hks := h.keys.same jk pk K hpk ok3
      have htx := hks.text hKg
      have hkg : keyGone pk = false := keyGone_no (by rw [htx]; exact hks.size)
      have e1 : pRead pk E p.seen = openedOf K E sn := by
        unfold pRead openedOf pOpened
        rw [hS.seen, hkg, hks.came, hKg, htx]
      refine ⟨(openedOf K E sn).1, revOr (openedOf K E sn) E.rev, (openedOf K E sn).2, fun w F b hX hF h1 => ?_, fun w F b hR => ?_⟩
      · have q := read_some w i p name rev E pk jk hX hpp hent hN hz hg hpk ok2 hj6 (by rw [htx]; exact hks.size) ok1 hF h1
        rw [e1] at q
        exact q
      · cases asked
        · exact get_some_false w i sn u name rev E K jk hR ha hzn (by omega) hL hg ok3 ok2 hj6 hks.size ok1
        · exact get_some_true w i sn u name rev E K jk hR ha hzn (by omega) (hr rfl).1 (hr rfl).2 hL hg ok3 ok2 hj6 hks.size ok1
    · have ht : thereOf (lastOf (Y.all.take rev.toNat) name) = false := by rw [hL]; simp [thereOf, hg]
      refine ⟨⟨#[]⟩, 0, 12, fun w F b hX _ _ => read_none w i name rev hX hent (by rw [hN, hg, Bool.or_true]), fun w F b hR => ?_⟩
      cases asked
      · exact get_none_false w i sn u name rev hR ha hzn (by omega) ht
      · exact get_none_true w i sn u name rev hR ha hzn (by omega) (hr rfl).1 (hr rfl).2 ht
theorem get_two (h : Rel2 n X Y) (hn : n ≤ 50000000) (s : Int) (name : ByteArray) :
    ∃ (A : ByteArray) (B C : Int), Pair2 30 31 [.int .i64 s, .string name] X Y n (.tuple #[.string A, .int .i64 B, .int .i64 C]) := by
  cases hs : isSrv Y.seen.length s
  · have hx : isSrv X.servers.length s = false := by rw [h.len.1]; exact hs
    exact ⟨⟨#[]⟩, 0, 4, X, Y, p_same (fun w F b hX => pGet_srv w s name hX hx), r_low (fun w F b hR => rGet_via w s name hR _ _ _ (get_srv w s name _ false hR hs)), h.up⟩
  · obtain ⟨i, p, sn, u, rfl, hpp, ha, hS, hi⟩ := h.at hs
    cases hzn : (sn == 0)
    · have hz : (p.seen == 0) = false := by rw [hS.seen]; exact hzn
      obtain ⟨A, B, C, q1, q2⟩ := read_two h hn hzn hpp ha hS name (Y.all.length : Int) false (fun e => by cases e)
      exact ⟨A, B, C, X, Y, p_low (fun w F b hX hF h1 => pGet_ok w i p name hX hpp hz A B C (by rw [h.rev]; exact q1 w F b hX hF h1)), r_low (fun w F b hR => rGet_via w i name hR _ _ _ (q2 w F b hR)), h.up⟩
    · have hz : (p.seen == 0) = true := by rw [hS.seen]; exact hzn
      exact ⟨⟨#[]⟩, 0, 6, X, Y, p_same (fun w F b hX => pGet_blind w i p name hX hpp hz), r_low (fun w F b hR => rGet_via w i name hR _ _ _ (get_blind w i sn u name _ false hR ha hzn)), h.up⟩
theorem getAt_two (h : Rel2 n X Y) (hn : n ≤ 50000000) (s : Int) (name : ByteArray) (rev : Int) :
    ∃ (A : ByteArray) (B C : Int), Pair2 32 33 [.int .i64 s, .string name, .int .i64 rev] X Y n (.tuple #[.string A, .int .i64 B, .int .i64 C]) := by
  have hA := h.all
  cases hs : isSrv Y.seen.length s
  · have hx : isSrv X.servers.length s = false := by rw [h.len.1]; exact hs
    exact ⟨⟨#[]⟩, 0, 4, X, Y, p_same (fun w F b hX => pGetAt_srv w s name rev hX hx), r_low (fun w F b hR => rGetAt_via w s name rev _ _ _ (get_srv w s name rev true hR hs)), h.up⟩
  · obtain ⟨i, p, sn, u, rfl, hpp, ha, hS, hi⟩ := h.at hs
    cases hzn : (sn == 0)
    · have hz : (p.seen == 0) = false := by rw [hS.seen]; exact hzn
      have hbr : pBadRev X rev = badRev Y rev true := by unfold pBadRev badRev; rw [h.floor, h.rev, Bool.true_and]
      cases hbad : badRev Y rev true
      · have hbad2 : (decide (rev < Y.floor) || decide ((Y.all.length : Int) < rev)) = false := hbad
        obtain ⟨A, B, C, q1, q2⟩ := read_two h hn hzn hpp ha hS name rev true (fun _ => Bool.or_eq_false_iff.1 hbad2)
        exact ⟨A, B, C, X, Y, p_low (fun w F b hX hF h1 => pGetAt_ok w i p name rev hX hpp hz (hbr.trans hbad) A B C (q1 w F b hX hF h1)), r_low (fun w F b hR => rGetAt_via w i name rev _ _ _ (q2 w F b hR)), h.up⟩
      · exact ⟨⟨#[]⟩, 0, 15, X, Y, p_same (fun w F b hX => pGetAt_rev w i p name rev hX hpp hz (hbr.trans hbad)), r_low (fun w F b hR => rGetAt_via w i name rev _ _ _ (get_rev w i sn u name rev true hR ha hzn (by omega) hbad)), h.up⟩
    · have hz : (p.seen == 0) = true := by rw [hS.seen]; exact hzn
      exact ⟨⟨#[]⟩, 0, 6, X, Y, p_same (fun w F b hX => pGetAt_blind w i p name rev hX hpp hz), r_low (fun w F b hR => rGetAt_via w i name rev _ _ _ (get_blind w i sn u name rev true hR ha hzn)), h.up⟩
theorem allTo_get2 {l : List RKept} {f : Nat → Bool} {n j : Nat} {k : RKept} (h : (allTo l f n)[j]? = some k) : ∃ k0, l[j]? = some k0 ∧ k.e = k0.e ∧ (k.out = false → k0.out = false) := by
  unfold allTo at h
  rw [List.getElem?_mapIdx] at h
  cases hl : l[j]? with
  | none => rw [hl] at h; cases h
  | some k0 =>
    rw [hl] at h
    have h : (if j < n then { k0 with out := k0.out || f j } else k0) = k := Option.some.inj h
    refine ⟨k0, rfl, ?_, ?_⟩
    · rw [← h]
      split <;> rfl
    · rw [← h]
      split
      · intro q
        have q : (k0.out || f j) = false := q
        exact (Bool.or_eq_false_iff.1 q).1
      · exact id
theorem compact_two (h : Rel2 n X Y) (hn : n ≤ 50000000) (rev : Int) : ∃ v : Int, Pair2 36 37 [.int .i64 rev] X Y n (.int .i64 v) := by
  have hA := h.all
  have hent : X.entries.length ≤ 1000 := by have := h.few; have := h.rooms; omega
  have hbc : pBadCut X rev = badCut Y rev := by unfold pBadCut badCut; rw [h.floor, h.rev]
  cases hbad : badCut Y rev
  · obtain ⟨c1, c2⟩ : ¬ rev ≤ Y.floor ∧ ¬ (Y.all.length : Int) < rev := by unfold badCut at hbad; simp at hbad; omega
    have f0 := h.floor0
    obtain ⟨r, rfl⟩ : ∃ r : Nat, rev = (r : Int) := ⟨rev.toNat, by omega⟩
    have hl : (allTo Y.all (outAt Y.all r) r).length = Y.all.length := by unfold allTo; simp
    refine ⟨0, X.compact (r : Int), Y.compact r, p_grow (fun w F b hX => pCompact_yes w r hX (hbc.trans hbad) hent), r_kept (fun w F b hR => Compact_yes w r hR (by omega) (by omega) (by omega)), ?_⟩
    refine ⟨h.keys, h.live, h.ep, h.write, h.turn, h.room, h.rooms, ?_, rfl, ?_, h.up.draws, h.len, h.srv, compact_of h.ent h.revs r, ?_, ?_, ?_, ?_, ?_⟩
    · show X.rev = ((allTo Y.all (outAt Y.all r) r).length : Int)
      rw [hl]; exact h.rev
    · show (0 : Int) ≤ (r : Int)
      omega
    · show ((X.entries.filter (fun e => outl X e (r : Int))).length : Int) ≤ Y.room
      have := List.length_filter_le (fun e => outl X e (r : Int)) X.entries
      have := h.few
      omega
    · intro j k hk
      obtain ⟨k0, hk0, e0⟩ := allTo_get hk
      rw [e0]
      exact h.revs j k0 hk0
    · intro k hk hg
      obtain ⟨j, hj⟩ := List.getElem?_of_mem hk
      obtain ⟨k0, hk0, e0, o0⟩ := allTo_get2 hj
      rw [e0] at hg ⊢
      obtain ⟨a1, jj, K, a2, a3, a4⟩ := h.eok k0 (List.mem_of_getElem? hk0) hg
      exact ⟨a1, jj, K, a2, a3, fun hko => a4 (o0 hko)⟩
    · show (allTo Y.all (outAt Y.all r) r).length ≤ n + 1
      omega
    · intro ht k hk ho hg
      obtain ⟨j, hj⟩ := List.getElem?_of_mem hk
      obtain ⟨k0, hk0, e0, o0⟩ := allTo_get2 hj
      rw [e0] at hg ⊢
      exact h.gated ht k0 (List.mem_of_getElem? hk0) (o0 ho) hg
  · exact ⟨15, X, Y, p_same (fun w F b hX => pCompact_no w rev hX (hbc.trans hbad)), r_same (fun w F b hR => Compact_no w rev hR hbad), h.up⟩
end Go.Proofs.YtggbjffmclpmgaaGreatDoor
