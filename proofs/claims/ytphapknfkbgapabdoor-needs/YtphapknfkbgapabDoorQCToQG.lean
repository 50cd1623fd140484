import Derived.Test.YtphapknfkbgapabDoorPkBToQB
import Derived.Test.YtphapknfkbgapabDoorPrefixWalk
import Derived.Deep.DeepCutAuto
namespace Go.Proofs.YtphapknfkbgapabDoor
open Go.RowKit

/-! The player's small functions. -/

section
variable {P : Program} (w : World)
/-- append of lists as long as a script may be. -/
theorem wp_append_big {o : Oper} {a : Act} {K : Act → World → Prop} {Q : Exit → Act → World → Prop} (s x : Operand) (t : TypeId)
    (ho : o.op = .call { callee := .builtin .append, args := #[s, x], argTypes := #[t, t] })
    (e : TypeId) (z : Value) (size bytes : Nat) (ht : P.underlying t = some (.slice e)) (hinfo : (P.info? e).map (fun i => (i.zero, i.size, i.bytes)) = some (some z, size, bytes)) (hzs : z.cells.size = size) (hsz : 0 < size)
    (v : Value) (n : Nat) (xs : List Value) (hs : a.eval s = v) (hown : w.ownsRow 0 e size v n xs)
    (ad : Addr) (m c : Nat) (news : List Value) (hx : a.eval x = .slice (some ad) m c) (hl : news.length = m * size) (hnews : ∀ j u, news[j]? = some u → w.cell? (ad.add j) = some u) (h1 : ∀ u ∈ news, u.oneCell' = true)
    (hbytes : n + m ≤ 2190000000000 ∧ bytes ≤ 64)
    (h : ∀ v' w', w'.ownsRow 0 e size v' (n + m) (xs ++ news) → Kept (fun k => v.ownBlock = some k) w w' → (v'.ownBlock = v.ownBlock ∨ v'.ownBlock = some w.heap.size) → K (a.put o.dst v') w') : o.wp P a w K Q := by
  obtain ⟨i, hi, hz, hsize, hby⟩ := info_parts hinfo
  have h63 : n + m ≤ maxLen := by unfold maxLen; omega
  have hb2 : (n + m) * bytes ≤ 140737488355328 := Nat.le_trans (Nat.mul_le_mul hbytes.1 hbytes.2) (by decide)
  obtain ⟨v', w', hr, h2, h3, _⟩ := run_append_own (P := P) w 0 t o.type e i z size bytes ht hi hz hsize hby hzs hsz v n xs hown ad m c news hl hnews h1 h63 hb2 (Nat.zero_le _)
  have hw := append_where (P := P) w t o.type e i z size bytes ht hi hz hsize hby hzs hsz v n xs hown ad m c news hl hnews h1 h63 hb2 v' w' hr
  unfold Oper.wp execOp
  simp only [ho, resolve, invoke, builtin, Sem.run_bind, Sem.run_pure, Result.andThen_ok, List.map_toArray, List.map_cons, List.map_nil, hs, hx, hr]
  exact h v' w' h2 ⟨h3.os, h3.output, h3.size, fun k hk hn => h3.block k hk (fun e => hn e.symm)⟩ hw
theorem wpList_append_big {ops : Array Oper} {rest : List Oper} {o : Oper} {a : Act} {Q : Exit → Act → World → Prop} (hgd : o.guard = none) (s x : Operand) (t : TypeId)
    (ho : o.op = .call { callee := .builtin .append, args := #[s, x], argTypes := #[t, t] })
    (e : TypeId) (z : Value) (size bytes : Nat) (ht : P.underlying t = some (.slice e)) (hinfo : (P.info? e).map (fun i => (i.zero, i.size, i.bytes)) = some (some z, size, bytes)) (hzs : z.cells.size = size) (hsz : 0 < size)
    (v : Value) (n : Nat) (xs : List Value) (hs : a.eval s = v) (hown : w.ownsRow 0 e size v n xs)
    (ad : Addr) (m c : Nat) (news : List Value) (hx : a.eval x = .slice (some ad) m c) (hl : news.length = m * size) (hnews : ∀ j u, news[j]? = some u → w.cell? (ad.add j) = some u) (h1 : ∀ u ∈ news, u.oneCell' = true)
    (hbytes : n + m ≤ 2190000000000 ∧ bytes ≤ 64)
    (h : ∀ v' w', w'.ownsRow 0 e size v' (n + m) (xs ++ news) → Kept (fun k => v.ownBlock = some k) w w' → (v'.ownBlock = v.ownBlock ∨ v'.ownBlock = some w.heap.size) → wpList P ops Q rest (a.put o.dst v') w') : wpList P ops Q (o :: rest) a w :=
  wpList_plain hgd fun _ hK => wp_append_big w s x t ho e z size bytes ht hinfo hzs hsz v n xs hs hown ad m c news hx hl hnews h1 hbytes fun v' w' h2 h3 h4 => hK _ _ (h v' w' h2 h3 h4)
theorem step_append_big {ops : Array Oper} {o : Oper} {a : Act} {K : Act → World → Prop} {Q : Exit → Act → World → Prop} {E : Prop} (hgd : o.guard = none) (s x : Operand) (t : TypeId)
    (ho : o.op = .call { callee := .builtin .append, args := #[s, x], argTypes := #[t, t] })
    (e : TypeId) (z : Value) (size bytes : Nat) (ht : P.underlying t = some (.slice e)) (hinfo : (P.info? e).map (fun i => (i.zero, i.size, i.bytes)) = some (some z, size, bytes)) (hzs : z.cells.size = size) (hsz : 0 < size)
    (v : Value) (n : Nat) (xs : List Value) (hs : a.eval s = v) (hown : w.ownsRow 0 e size v n xs)
    (ad : Addr) (m c : Nat) (news : List Value) (hx : a.eval x = .slice (some ad) m c) (hl : news.length = m * size) (hnews : ∀ j u, news[j]? = some u → w.cell? (ad.add j) = some u) (h1 : ∀ u ∈ news, u.oneCell' = true)
    (hbytes : n + m ≤ 2190000000000 ∧ bytes ≤ 64)
    (h : ∀ v' w', w'.ownsRow 0 e size v' (n + m) (xs ++ news) → Kept (fun k => v.ownBlock = some k) w w' → (v'.ownBlock = v.ownBlock ∨ v'.ownBlock = some w.heap.size) → K (a.put o.dst v') w') :
    if Region.wanted o (yielded ops a.tmps) = true then Oper.wp P o a w K Q else E := by
  have hw : Region.wanted o (yielded ops a.tmps) = true := by simp [Region.wanted, hgd]
  rw [if_pos hw]
  exact wp_append_big w s x t ho e z size bytes ht hinfo hzs hsz v n xs hs hown ad m c news hx hl hnews h1 hbytes h
end
variable {F : Nat → Prop} {b bx S : Nat} {R : Int} {key : ByteArray} {D : PD} {Q : Pods}
theorem szD (e : Dd) : (Tryd.prog.info? 38).map (·.size) = some e.cells.length := show _ = some 3 by kernel_rfl
theorem szU (e : Und2) : (Tryd.prog.info? 40).map (·.size) = some e.cells.length := show _ = some 4 by kernel_rfl
theorem infoD : (Tryd.prog.info? 38).map (fun i => (i.zero, i.size, i.bytes)) = some (some (.agg #[.string ⟨#[]⟩, .string ⟨#[]⟩, .bool false]), 3, 40) := by kernel_rfl
theorem ldD {ops : Array Oper} {rest : List Oper} {d : Option Tmp} {t0 : TypeId} {pos : String} {after : Array Edge} {a : Act} {w : World} {Q : Exit → Act → World → Prop} (x : Operand) (b o : Nat) (e : Dd)
    (hx : a.eval x = .pointer (some ⟨b, o, none⟩)) (hc : w.rangeAt b o e.cells) (h : wpList Tryd.prog ops Q rest (a.put d (.agg e.cells.toArray)) w) :
    wpList Tryd.prog ops Q ({ dst := d, op := .load 38 x, type := t0, pos := pos, after := after, guard := none } :: rest) a w :=
  ldAny 38 x b o e.cells _ hx hc Tryd.underlying38 rfl (szD e) h
theorem stD {ops : Array Oper} {rest : List Oper} {d : Option Tmp} {t0 : TypeId} {pos : String} {after : Array Edge} {a : Act} {w : World} {Q : Exit → Act → World → Prop} (x y : Operand) (b : Nat) (old e : Dd)
    (hx : a.eval x = .pointer (some ⟨b, 0, none⟩)) (hy : a.eval y = .agg e.cells.toArray) (hB : Blk w b 38 old.cells)
    (h : ∀ w', Blk w' b 38 e.cells → Kept (fun k => k = b) w w' → w'.heap.size = w.heap.size → wpList Tryd.prog ops Q rest (a.put d undef) w') :
    wpList Tryd.prog ops Q ({ dst := d, op := .store 38 x y, type := t0, pos := pos, after := after, guard := none } :: rest) a w :=
  stBlk 38 x y b 38 old.cells e.cells hx hy hB rfl (szD e) e.one h
theorem ldU {ops : Array Oper} {rest : List Oper} {d : Option Tmp} {t0 : TypeId} {pos : String} {after : Array Edge} {a : Act} {w : World} {Q : Exit → Act → World → Prop} (x : Operand) (b o : Nat) (e : Und2)
    (hx : a.eval x = .pointer (some ⟨b, o, none⟩)) (hc : w.rangeAt b o e.cells) (h : wpList Tryd.prog ops Q rest (a.put d (.agg e.cells.toArray)) w) :
    wpList Tryd.prog ops Q ({ dst := d, op := .load 40 x, type := t0, pos := pos, after := after, guard := none } :: rest) a w :=
  ldAny 40 x b o e.cells _ hx hc Tryd.underlying40 rfl (szU e) h
theorem stUB {ops : Array Oper} {rest : List Oper} {d : Option Tmp} {t0 : TypeId} {pos : String} {after : Array Edge} {a : Act} {w : World} {Q : Exit → Act → World → Prop} (x y : Operand) (b : Nat) (old e : Und2)
    (hx : a.eval x = .pointer (some ⟨b, 0, none⟩)) (hy : a.eval y = .agg e.cells.toArray) (hB : Blk w b 40 old.cells)
    (h : ∀ w', Blk w' b 40 e.cells → Kept (fun k => k = b) w w' → w'.heap.size = w.heap.size → wpList Tryd.prog ops Q rest (a.put d undef) w') :
    wpList Tryd.prog ops Q ({ dst := d, op := .store 40 x y, type := t0, pos := pos, after := after, guard := none } :: rest) a w :=
  stBlk 40 x y b 40 old.cells e.cells hx hy hB rfl (szU e) e.one h
theorem stU {ops : Array Oper} {rest : List Oper} {d : Option Tmp} {t0 : TypeId} {pos : String} {after : Array Edge} {a : Act} {w : World} {Q : Exit → Act → World → Prop} (x y : Operand) (g o : Nat) (u : Und2)
    (hx : a.eval x = .pointer (some ⟨g, o, none⟩)) (hy : a.eval y = .agg u.cells.toArray) (ht : w.there g o 4)
    (h : wpList Tryd.prog ops Q rest (a.put d undef) (w.setCells g o u.cells)) :
    wpList Tryd.prog ops Q ({ dst := d, op := .store 40 x y, type := t0, pos := pos, after := after, guard := none } :: rest) a w :=
  stAny 40 x y g o u.cells hx hy ht (szU u) u.one h
theorem pick_in (w : World) (c n : Int) (h0 : 0 ≤ c) (h1 : c < n) :
    Calls Tryd.prog 17 #[.int .i64 c, .int .i64 n] w fun e w' => e = .returned (.int .i64 c) ∧ w' = w := by
  have q : decide (c < 0) = false := by simp; omega
  go_enter Tryd.func17, Tryd.ntmps17
  go_wp2
  go_ret
  refine ⟨?_, rfl⟩
  simp [Int.emod_eq_of_lt h0 h1]
theorem pick_some (c n : Int) (w : World) (n0 : 0 < n) (n1 : n ≤ 100000000000000) (c0 : -9223372036854775808 ≤ c) (c1 : c ≤ 9223372036854775807) :
    Calls Tryd.prog 17 #[.int .i64 c, .int .i64 n] w fun e w' => ∃ r : Nat, e = .returned (.int .i64 (r : Int)) ∧ (r : Int) < n ∧ w' = w := by
  by_cases h : c < 0
  · go_enter Tryd.func17, Tryd.ntmps17
    go_wp2
    go_ret
    have hn : 0 ≤ (-(c + 1)).tmod n := by rw [Int.tmod_eq_emod_of_nonneg (by omega)]; exact Int.emod_nonneg _ (by omega)
    have hl : (-(c + 1)).tmod n < n := by rw [Int.tmod_eq_emod_of_nonneg (by omega)]; exact Int.emod_lt_of_pos _ n0
    refine ⟨((-(c + 1)).tmod n).toNat, ?_, by omega, rfl⟩
    rw [Int.toNat_of_nonneg hn]
    simp
  · go_enter Tryd.func17, Tryd.ntmps17
    go_wp2
    go_ret
    have hn : 0 ≤ c % n := Int.emod_nonneg _ (by omega)
    have hl : c % n < n := Int.emod_lt_of_pos _ n0
    refine ⟨(c % n).toNat, ?_, by omega, rfl⟩
    rw [Int.toNat_of_nonneg hn]
    rfl
theorem name_any (w : World) (k : Nat) (hk : k < 6) : Calls Tryd.prog 9 #[.int .i64 (k : Int)] w fun e w' => e = .returned (.string (nameOf k)) ∧ w' = w := by
  have : k = 0 ∨ k = 1 ∨ k = 2 ∨ k = 3 ∨ k = 4 ∨ k = 5 := by omega
  rcases this with rfl | rfl | rfl | rfl | rfl | rfl
  all_goals
    go_enter Tryd.func9, Tryd.ntmps9
    go_wp2_with (go_at_call 17; refine (pick_in _ _ _ (by decide) (by decide)).mono ?_; rintro e y1 ⟨rfl, hy⟩; obtain rfl := hy.symm)
    go_ret
    exact ⟨rfl, rfl⟩
end Go.Proofs.YtphapknfkbgapabDoor
namespace Go.Proofs.YtphapknfkbgapabDoor
open Go.RowKit

variable {F : Nat → Prop} {b bx S : Nat} {R : Int} {key : ByteArray} {D : PD} {Q : Pods}

/-! newest, read. -/
set_option maxRecDepth 100000 in
set_option maxHeartbeats 1000000 in
theorem newestD_any (w : World) (p : ByteArray) (rev : Nat) (h : QIn w F b bx S R key D Q) (hr : rev ≤ D.deeds.length) (hn : D.deeds.length ≤ 10000000000000) :
    Calls Tryd.prog 35 #[.pointer (some ⟨b, 0, none⟩), .string p, .int .i64 (rev : Int)] w fun e w' => ∃ (r : Nat) (d : Dd), e = .returned (.tuple #[.agg #[.string d.path, .string d.text, .bool d.gone], .int .i64 (r : Int)]) ∧ NewD (D.deeds.take rev) p r d ∧ Low w.heap.size w w' := by
  have HR := hid h
  clear h
  go_enter Tryd.func35, Tryd.ntmps35
  go_wp2_with fail
  go_loopg [8] rev (fun left iv wr => ∃ i : Nat, left = i ∧ i ≤ rev ∧ iv = .int .i64 (i : Int) ∧ Hid (∀ (k : Nat) (c : Dd), i ≤ k → (D.deeds.take rev)[k]? = some c → c.path ≠ p) ∧ Hid (Low w.heap.size w wr ∧ Blk wr w.heap.size 38 Dd.zero.cells))
  case atStart => exact ⟨rev, rfl, Nat.le_refl _, rfl, (fun k c hk hc => by have := (take_at hc).1; omega), (Low.refl _ w).alloc (Nat.le_refl _) _, Blk.new w 38 Dd.zero.cells⟩
  case round =>
    obtain ⟨i, hgk, hi, rfl, HI, HL⟩ := hrel
    have HGK := hid hgk
    clear hgk
    have R1 : Hid (QIn wr F b bx S R key D Q) := HR.out.low HL.out.1
    have lb := R1.out.lt
    cases i with
    | zero =>
      have q1 : decide ((1 : Int) ≤ ((0 : Nat) : Int)) = false := by decide
      go_wp2_with ((with_reducible refine stD (.tmp 6) (.tmp 34) w.heap.size Dd.zero Dd.zero ?_ ?_ HL.out.2 ?_); rfl; rfl; intro w1 b1 k1 s1; have B1 := hid b1; have K1 := hid k1; clear b1 k1 s1)
      (try simp only [Exit.inBlock, Exit.then])
      refine bodyPost_ret (results_cell_tmp rfl w.heap.size Dd.zero.cells _ rfl B1.out.whole Tryd.underlying38 rfl (szD _)) rfl ?_
      exact ⟨0, Dd.zero, rfl, Or.inl ⟨rfl, rfl, fun k c hc => HI.out k c (Nat.zero_le _) hc⟩, low_set HL.out.1 K1.out (Nat.le_refl _) HL.out.1.size⟩
    | succ m =>
      have q1 : decide ((1 : Int) ≤ ((m + 1 : Nat) : Int)) = true := by simp; omega
      obtain ⟨c, hc⟩ : ∃ c, D.deeds[m]? = some c := ⟨_, List.getElem?_eq_getElem (by omega)⟩
      obtain ⟨a4, cap4, hc4, hel⟩ := qin_deeds R1.out
      rw [List.length_map] at hc4
      obtain ⟨g, rfl, hg, hcs, _⟩ := hel m c.cells (by rw [List.getElem?_map, hc]; rfl)
      have c0 : wr.cell? ⟨g, m * 3, none⟩ = some (.string c.path) := hcs 0 (by omega)
      have HC : Hid (wr.rangeAt g (m * 3) c.cells) := range_of hcs (fun _ _ e => ⟨(List.getElem?_eq_some_iff.1 e).1, e⟩)
      have ml : (m : Int) < (D.deeds.length : Int) := by omega
      have mx : ((m + 1 : Nat) : Int) - 1 = (m : Int) := by omega
      have HCC := hid hc
      clear hcs hel hc
      cases qp : (c.path.toList == p.toList)
      · go_wp2_with fail
        go_roundg m
        case rel =>
          refine ⟨m, rfl, by omega, ?_, (fun k x hk hx => ?_), HL.out⟩
          · simp
          · by_cases e : k = m
            · subst e
              obtain ⟨_, hx2⟩ := take_at hx
              obtain rfl := Option.some.inj (HCC.out.symm.trans hx2)
              intro e2
              rw [e2] at qp
              simp at qp
            · exact HI.out k x (by omega) hx
        case measure => have := HGK.out; omega
      · go_wp2_with (first | ((with_reducible refine ldD (.tmp 31) g (m * 3) c ?_ HC.out ?_); rfl) | ((with_reducible refine stD (.tmp 6) (.tmp 32) w.heap.size Dd.zero c ?_ ?_ HL.out.2 ?_); rfl; rfl; intro w1 b1 k1 s1; have B1 := hid b1; have K1 := hid k1; clear b1 k1 s1))
        (try simp only [Exit.inBlock, Exit.then])
        refine bodyPost_ret (results_cell_tmp rfl w.heap.size c.cells _ rfl B1.out.whole Tryd.underlying38 rfl (szD _)) rfl ?_
        exact ⟨m + 1, c, rfl, Or.inr ⟨m, rfl, take_of HCC.out (by omega), path_beq.1 qp, fun k x hk hx => HI.out k x (by omega) hx⟩, low_set HL.out.1 K1.out (Nat.le_refl _) HL.out.1.size⟩
end Go.Proofs.YtphapknfkbgapabDoor
namespace Go.Proofs.YtphapknfkbgapabDoor
open Go.RowKit

variable {F : Nat → Prop} {b bx S : Nat} {R : Int} {key : ByteArray} {D : PD} {Q : Pods}

theorem tells_cases {text : ByteArray} {n e : Int} {r : Nat} {d : Dd} (hv : (text, n, e) = tells r d) : (r = 0 ∧ text = ⟨#[]⟩ ∧ n = 0 ∧ e = 12) ∨ (r ≠ 0 ∧ d.gone = true ∧ text = ⟨#[]⟩ ∧ n = 0 ∧ e = 12) ∨ (r ≠ 0 ∧ d.gone = false ∧ text = d.text ∧ n = (r : Int) ∧ e = 0) := by
  unfold tells at hv
  by_cases h0 : r = 0
  · subst h0
    have e1 : (((0 : Nat) == 0) || d.gone) = true := by simp
    rw [e1] at hv
    simp at hv
    exact Or.inl ⟨rfl, hv⟩
  · have hb : (r == 0) = false := by simpa using h0
    rw [hb, Bool.false_or] at hv
    cases hg : d.gone
    · rw [hg] at hv
      simp at hv
      exact Or.inr (Or.inr ⟨h0, rfl, hv⟩)
    · rw [hg] at hv
      simp at hv
      exact Or.inr (Or.inl ⟨h0, rfl, hv⟩)
set_option maxRecDepth 100000 in
set_option maxHeartbeats 1000000 in
theorem read_true (w : World) (text path : ByteArray) (n e : Int) (rev : Nat) (h : QIn w F b bx S R key D Q) (hr : rev ≤ D.deeds.length) (hn : D.deeds.length ≤ 10000000000000) {r : Nat} {d : Dd} (hN : NewD (D.deeds.take rev) path r d) (hv : (text, n, e) = tells r d ∨ (text = ⟨#[]⟩ ∧ n = 0 ∧ e = 6)) :
    Calls Tryd.prog 38 #[.pointer (some ⟨b, 0, none⟩), .string text, .int .i64 n, .int .i64 e, .string path, .int .i64 (rev : Int)] w fun x w' => x = .returned (.bool true) ∧ Low w.heap.size w w' := by
  have HR := hid h
  have HN := hid hN
  have HV : Hid ((r = 0 ∧ text = ⟨#[]⟩ ∧ n = 0 ∧ e = 12) ∨ (r ≠ 0 ∧ d.gone = true ∧ text = ⟨#[]⟩ ∧ n = 0 ∧ e = 12) ∨ (r ≠ 0 ∧ d.gone = false ∧ text = d.text ∧ n = (r : Int) ∧ e = 0) ∨ (text = ⟨#[]⟩ ∧ n = 0 ∧ e = 6)) := by
    show _ ∨ _
    rcases hv with hv | hv
    · rcases tells_cases hv with q | q | q
      · exact Or.inl q
      · exact Or.inr (Or.inl q)
      · exact Or.inr (Or.inr (Or.inl q))
    · exact Or.inr (Or.inr (Or.inr hv))
  clear h hN hv
  go_enter Tryd.func38, Tryd.ntmps38
  go_upto_region 2 with (first | (go_at_call 35; refine (newestD_any _ path rev HR.out hr hn).mono ?_; rintro x y1 ⟨r1, d1, rfl, hN1, l1⟩; have L1 := hid l1; have HN1 := hid hN1; clear l1 hN1) | ((with_reducible refine stD (.tmp 13) (.tmp 21) y1.heap.size Dd.zero d1 ?_ ?_ ?_ ?_); rfl; rfl; exact (Blk.new y1 38 Dd.zero.cells); intro W b2 k2 s2; have m1 : W.cell? ⟨y1.heap.size, 1, none⟩ = some (.string d1.text) := b2.cell 1; have m2 : W.cell? ⟨y1.heap.size, 2, none⟩ = some (.bool d1.gone) := b2.cell 2; have LW : Hid (Low w.heap.size w W) := low_set (L1.out.alloc L1.out.size _) k2 L1.out.size (by have := L1.out.size; simp; omega); clear b2 k2 s2))
  obtain ⟨e1, e2⟩ := newD_unique HN1.out HN.out
  subst e1
  subst e2
  rcases HV.out with ⟨h0, rfl, rfl, rfl⟩ | ⟨h0, hg, rfl, rfl, rfl⟩ | ⟨h0, hg, rfl, rfl, rfl⟩ | ⟨rfl, rfl, rfl⟩
  · have q1 : decide ((0 : Int) < (r1 : Int)) = false := by rw [h0]; decide
    clear HV
    go_wp2_with fail
    go_ret
    exact ⟨rfl, LW.out⟩
  · have q1 : decide ((0 : Int) < (r1 : Int)) = true := by simp; omega
    rw [hg] at m2
    clear HV
    go_wp2_with fail
    go_ret
    exact ⟨rfl, LW.out⟩
  · have q1 : decide ((0 : Int) < (r1 : Int)) = true := by simp; omega
    rw [hg] at m2
    clear HV
    go_wp2_with fail
    go_ret
    refine ⟨?_, LW.out⟩
    simp
  · clear HV
    by_cases h0 : r1 = 0
    · have q1 : decide ((0 : Int) < (r1 : Int)) = false := by rw [h0]; decide
      go_wp2_with fail
      go_ret
      exact ⟨rfl, LW.out⟩
    · have q1 : decide ((0 : Int) < (r1 : Int)) = true := by simp; omega
      cases hg : d1.gone
      · rw [hg] at m2
        go_wp2_with fail
        go_ret
        exact ⟨rfl, LW.out⟩
      · rw [hg] at m2
        go_wp2_with fail
        go_ret
        exact ⟨rfl, LW.out⟩
end Go.Proofs.YtphapknfkbgapabDoor
namespace Go.Proofs.YtphapknfkbgapabDoor
open Go.RowKit

variable {G : Nat → Prop} {b bx S n : Nat} {R : Int} {key : ByteArray} {X : PS} {D : PD} {Q : Pods}

/-! commit. -/
theorem qin_opRange {w : World} {F : Nat → Prop} (h : QIn w F b bx S R key D Q) {s : Nat} {u : Und2} (hu : D.ops[s]? = some u) : w.rangeAt b (6 + s * 4) u.cells := fun j v e => by
  have hj : j < 4 := (List.getElem?_eq_some_iff.1 e).1
  have := qin_op h hu hj
  rw [show 6 + (s * 4 + j) = 6 + s * 4 + j by omega] at this
  rw [this]; exact e
theorem JQ.setOp {w : World} (h : JQ w G b bx S R key X D Q) {s : Nat} (hs : s < 4) (u : Und2) : JQ (w.setCells b (6 + s * 4) u.cells) G b bx S R key X { D with ops := D.ops.set s u } Q ∧ Kept (fun k => ¬ G k) w (w.setCells b (6 + s * 4) u.cells) :=
  h.write (fun Fq q _ => by
    obtain ⟨a, c, _⟩ := qin_setOp q hs u
    exact ⟨Fq, a, c, fun _ f => Or.inl f⟩)
theorem JQ.there {w : World} (h : JQ w G b bx S R key X D Q) {s : Nat} (hs : s < 4) : w.there b (6 + s * 4) 4 := by
  obtain ⟨Fq, q, _⟩ := h.q
  exact (qin_setOp q hs Und2.zero).2.2
/-- What commit leaves. -/
def CommitPost (N : ByteArray → Prop) (n : Nat) (X' : PS) (D D' : PD) (S : Nat) (R : Int) (s : Nat) : Prop :=
  Kn N (n + 1) X' D' S R ∧ ∃ v, D.ops[s]? = some v ∧ (D' = { D with ops := D.ops.set s Und2.zero } ∨ (v.on = true ∧ D' = { D with ops := D.ops.set s Und2.zero, deeds := D.deeds ++ [v.deed] }))
/-- A commit that cannot be refused. -/
def CommitSure (X : PS) (D : PD) (s : Nat) : Prop := (∃ p, X.servers[s]? = some p ∧ p.busy = true ∧ p.epoch = X.epoch ∧ p.rev = -1 ∧ p.e.gone = false ∧ (X.entries.length : Int) < X.room) ∧ ∃ v, D.ops[s]? = some v ∧ v.on = true
set_option maxRecDepth 100000 in
set_option maxHeartbeats 2000000 in
theorem commitQ (w : World) (h : JQ w G b bx S R key X D Q) (k : Kn IsName n X D S R) (hn : n ≤ 1990000000000) {s : Nat} (hs : s < S) (hS : S ≤ 4) (hd : D.deeds.length ≤ 2000000000000) :
    Calls Tryd.prog 16 #[.pointer (some ⟨b, 0, none⟩), .int .i64 (s : Int)] w fun e w' => e = .returned (.bool true) ∧ ∃ X' D', JQ w' G b bx S R key X' D' Q ∧ CommitPost IsName n X' D D' S R s ∧ Kept (fun k => ¬ G k) w w' ∧
      SeenKept X X' ∧ (CommitSure X D s → D'.deeds.length = D.deeds.length + 1) := by
  obtain ⟨m, er, X', hP, hsk, hfr, v, hv, hcases⟩ := kn_commit k (by omega) hs
  obtain ⟨Fq, hq, _⟩ := h.q
  have c0 := qin_ptr hq
  have lb := hq.lt
  have HJ := hid h
  have HP := hid hP
  have HV := hid hv
  have HC := hid hcases
  have HFR := hid hfr
  have HSK := hid hsk
  have s4 : s < 4 := by omega
  have s4i : (s : Int) < 4 := by omega
  clear h k hP hcases hfr hsk hq hv
  go_enter Tryd.func16, Tryd.ntmps16
  go_upto_region 2 with (go_at_call 37; refine (HJ.out.callX HP.out).mono ?_; rintro e y1 ⟨rfl, j1, k1⟩; have J1 := hid j1; have K1 := hid k1; clear j1 k1)
  obtain ⟨Fq1, hq1, hG1⟩ := J1.out.q
  have HRG : Hid (y1.rangeAt b (6 + s * 4) v.cells) := qin_opRange hq1 HV.out
  have lb1 := hq1.lt
  clear c0 lb
  go_upto_region 3 with (first | ((with_reducible refine ldU (.tmp 21) b (6 + s * 4) v ?_ HRG.out ?_); rfl) | ((with_reducible refine stUB (.tmp 7) (.tmp 22) y1.heap.size Und2.zero v ?_ ?_ ?_ ?_); rfl; rfl; exact (Blk.new y1 40 Und2.zero.cells); intro W b2 k2 s2; have B2 := hid b2; have LW : Hid (Low y1.heap.size y1 W) := low_set ((Low.refl _ y1).alloc (Nat.le_refl _) _) k2 (Nat.le_refl _) (by simp); clear b2 k2 s2))
  have JW : Hid (JQ W G b bx S R key X' D Q) := J1.out.low LW.out
  have HT : Hid (W.there b (6 + s * 4) 4) := JW.out.there s4
  have lbW : b < W.heap.size := Nat.lt_of_lt_of_le lb1 LW.out.size
  go_upto_region 4 with ((with_reducible refine stU (.tmp 28) (.tmp 25) b (6 + s * 4) Und2.zero ?_ ?_ HT.out ?_); rfl; rfl)
  go_name_world V hV
  have JV : Hid (JQ V G b bx S R key X' { D with ops := D.ops.set s Und2.zero } Q) := by
    show JQ V _ _ _ _ _ _ _ _ _
    rw [← hV]; exact (JW.out.setOp s4 Und2.zero).1
  have KV : Hid (Kept (fun k => ¬ G k) w V) := by
    show Kept _ w V
    rw [← hV]
    exact ((K1.out.trans LW.out.kept (H := fun k => ¬ G k) (fun _ f => f) (fun _ _ f => f.elim)).trans (JW.out.setOp s4 Und2.zero).2 (fun _ f => f) (fun _ _ f => f))
  have nb : y1.heap.size ≠ b := by omega
  have BV : Hid (Blk V y1.heap.size 40 v.cells) := by
    show Blk V _ _ _
    rw [← hV]; exact B2.out.kept (setCells_kept b Und2.zero.cells (6 + s * 4) W) nb
  have u0 : V.cell? ⟨y1.heap.size, 0, none⟩ = some (.bool v.on) := BV.out.cell 0
  have u1 : V.cell? ⟨y1.heap.size, 1, none⟩ = some (.string v.deed.path) := BV.out.cell 1
  have u2 : V.cell? ⟨y1.heap.size, 2, none⟩ = some (.string v.deed.text) := BV.out.cell 2
  have u3 : V.cell? ⟨y1.heap.size, 3, none⟩ = some (.bool v.deed.gone) := BV.out.cell 3
  have lN := BV.out.lt
  clear hV
  rcases HC.out with ⟨on, rfl, rfl, hk⟩ | ⟨on, rfl, rfl, hk⟩ | ⟨on, rfl, her, hk⟩
  · rw [on] at u0
    have HK := hid hk
    clear hk HC
    go_wp2_with fail
    go_ret
    refine ⟨rfl, X', _, JV.out, ⟨HK.out, v, HV.out, Or.inl rfl⟩, KV.out, HSK.out, fun hv2 => ?_⟩
    obtain ⟨_, v2, a, c⟩ := hv2
    obtain rfl := Option.some.inj (a.symm.trans HV.out)
    rw [on] at c
    cases c
  · rw [on] at u0
    have HK := hid hk
    obtain ⟨Fq2, hq2, hG2⟩ := JV.out.q
    obtain ⟨a4, cap4, d4, o4, n4, f4⟩ := qin_rowD hq2
    have d4 : V.cell? ⟨b, 4, none⟩ = some (.slice a4 D.deeds.length cap4) := d4
    have o4 : V.ownsRow 0 38 3 (.slice a4 D.deeds.length cap4) D.deeds.length (D.deeds.flatMap Dd.cells) := o4
    have lbV := hq2.lt
    have O4 := hid o4
    have N4 := hid n4
    have C4 := hid d4
    have F4 := hid (hq2.frozen 4)
    have LB := hid lbV
    have HQ2 := hid hq2
    clear hk HC o4 n4 hq2
    go_upto_region 7 with fail
    go_region_law ((refine step_append_big _ rfl (.tmp 44) (.tmp 47) 36 rfl 38 _ 3 40 Tryd.underlying36 infoD rfl (by omega) (.slice a4 D.deeds.length cap4) D.deeds.length (D.deeds.flatMap Dd.cells) ?_ ?_ ⟨V.heap.size, 0, none⟩ 1 1 v.deed.cells ?_ rfl ?_ (Dd.one _) ⟨by omega, by omega⟩ ?_; rfl; exact (World.ownsRow.alloc (w := V) O4.out _); rfl; exact (news_new V v.deed.cells 38); intro v' w1 o1 k1 p1; obtain ⟨a', cap', rfl, _, _⟩ := ownsRow_view o1; have O1 := hid o1; have K2 := hid k1.of_drew; have P1 := hid p1; have c4w := kept_cell K2.out LB.out N4.out C4.out; have f4w := kept_frozen K2.out LB.out N4.out F4.out; clear o1 k1 p1))
    all_goals go_wp2_with fail
    all_goals go_ret
    all_goals
      obtain ⟨r1, r2⟩ := JV.out.write (D' := { D with ops := D.ops.set s Und2.zero, deeds := D.deeds ++ [v.deed] }) (Q' := Q) (fun Fq q _ => by
        obtain ⟨a, c⟩ := qin_appD q C4.out K2.out v.deed O1.out P1.out
        exact ⟨_, a, c, fun k hk => hk.imp id (fun z => z.1)⟩)
      refine ⟨by simp, X', _, r1, ⟨HK.out, v, HV.out, Or.inr ⟨on, rfl⟩⟩, KV.out.trans r2 (fun _ f => f) (fun _ _ f => f), HSK.out, fun _ => ?_⟩
      show (D.deeds ++ [v.deed]).length = _
      simp
  · rw [on] at u0
    have HK := hid hk
    clear hk HC
    rcases her with rfl | rfl | rfl | rfl
    all_goals
      go_wp2_with fail
      go_ret
      refine ⟨rfl, X', _, JV.out, ⟨HK.out, v, HV.out, Or.inl rfl⟩, KV.out, HSK.out, fun hf => ?_⟩
      have := HFR.out hf.1
      cases this
end Go.Proofs.YtphapknfkbgapabDoor
namespace Go.Proofs.YtphapknfkbgapabDoor
open Go.RowKit

variable {G : Nat → Prop} {b bx S n : Nat} {R : Int} {key : ByteArray} {X : PS} {D : PD} {Q : Pods}

/-! which; an act. -/
structure AAct where
  kind : Int
  s : Int
  n : Int
  k : Int
  path : ByteArray
  text : ByteArray
  on : Bool
def AAct.cells (a : AAct) : List Value := [.int .i64 a.kind, .int .i64 a.s, .int .i64 a.n, .int .i64 a.k, .string a.path, .string a.text, .bool a.on]
def i64 (c : Int) : Prop := -9223372036854775808 ≤ c ∧ c ≤ 9223372036854775807
structure AOk (a : AAct) : Prop where
  kind : i64 a.kind
  s : i64 a.s
  n : i64 a.n
  k : i64 a.k
  path : a.path.size ≤ 140737488355328
  text : a.text.size ≤ 140737488355328
set_option maxRecDepth 100000 in
set_option maxHeartbeats 1000000 in
theorem which_any (w : World) (p : ByteArray) (hp : p.size ≤ 140737488355328) : Calls Tryd.prog 33 #[.string p] w fun e w' => ∃ k : Nat, e = .returned (.int .i64 (k : Int)) ∧ k < 6 ∧ w' = w := by
  go_enter Tryd.func33, Tryd.ntmps33
  go_wp2_with fail
  go_loopg [3, 4] p.size (fun left nv iv wr => ∃ (i : Nat) (m : Int), left = p.size - i ∧ i ≤ p.size ∧ nv = .int .i64 m ∧ iv = .int .i64 (i : Int) ∧ Hid (0 ≤ m ∧ m ≤ 3 * (p.size : Int) + 255 * (i : Int)) ∧ w = wr)
  case atStart => exact ⟨0, 3 * (p.size : Int), rfl, Nat.zero_le _, rfl, rfl, ⟨by omega, by omega⟩, rfl⟩
  case round =>
    obtain ⟨i, m, hgk, hi, rfl, rfl, HM, rfl⟩ := hrel
    have HGK := hid hgk
    clear hgk
    by_cases h3 : i < p.size
    · have q1 : decide ((i : Int) < (p.size : Int)) = true := by simp; omega
      have il : (i : Int) < (p.size : Int) := by omega
      go_wp2_with fail
      go_roundg (p.size - (i + 1))
      case rel =>
        obtain ⟨hm0, hm1⟩ := HM.out
        have hb := UInt8.toNat_lt (p[i]'h3)
        have e1 : wrap64 ((p[i]'h3).toNat : Int) = ((p[i]'h3).toNat : Int) := by unfold wrap64; omega
        have e2 : wrap64 (m + ((p[i]'h3).toNat : Int)) = m + ((p[i]'h3).toNat : Int) := by unfold wrap64; omega
        refine ⟨i + 1, m + ((p[i]'h3).toNat : Int), rfl, by omega, by rw [e1, e2], by simp, ⟨by omega, by omega⟩, rfl⟩
      case measure => have := HGK.out; omega
    · have q1 : decide ((i : Int) < (p.size : Int)) = false := by simp; omega
      have hm0 : 0 ≤ m := HM.out.1
      have hm1 : m ≤ 9223372036854775807 := by have := HM.out.2; omega
      go_wp2_with (go_at_call 17; refine (pick_some _ _ _ (by omega) (by omega) (by omega) hm1).mono ?_; rintro e y1 ⟨r, rfl, hr, hy⟩; obtain rfl := hy.symm)
      go_ret
      exact ⟨r, rfl, by omega, rfl⟩
end Go.Proofs.YtphapknfkbgapabDoor
