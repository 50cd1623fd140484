import Derived.Test.YtphapknfkbgapaaDoorPlCToPlG
import Derived.Test.YtphapknfkbgapaaDoorRefBToPH
import Derived.Test.YtphapknfkbgapaaDoorPGToPW
import Derived.Test.YtphapknfkbgapaaDoorPOToRelE
import Derived.Test.YtphapknfkbgapaaDoorPMToPF
import Derived.Test.YtphapknfkbgapaaDoorPPToTelJ
import Derived.Test.YtphapknfkbgapaaDoorPRToPlA
namespace Go.Proofs.YtphapknfkbgapaaDoor
open Go.RowKit

variable {N : ByteArray → Prop} {X : PS} {D : PD} {n S : Nat} {R : Int}

/-! What is kept, against what the player knows. -/
theorem kept_rising {all : List RKept} (h : Revs all) : (keptOf all).Pairwise (fun a c => a.rev < c.rev) := by
  unfold keptOf
  rw [List.pairwise_map]
  refine List.Pairwise.filter _ ?_
  rw [List.pairwise_iff_getElem]
  intro i j hi hj hij
  have a := h i _ (List.getElem?_eq_getElem hi)
  have c := h j _ (List.getElem?_eq_getElem hj)
  omega
structure EntryKnown (D : PD) (e : Ent) (m : Nat) (d : Dd) : Prop where
  rev : e.rev = (m : Int) + 1
  at_ : D.deeds[m]? = some d
  path : e.path = d.path
  gone : e.gone = d.gone
  shut : e.gone = false → EntOk e ∧ 1 ≤ e.draw ∧ ∃ (j : Nat) (t : ByteArray), e.key = (j : Int) + 1 ∧ D.keys[j]? = some t ∧ t.size = 48 ∧ D.dest[j + 1]? = some false ∧ openB t (nonceTo e.draw 12) e.path e.sealed = true ∧ maskOf t (nonceTo e.draw 12) (coverOf e.sealed) = d.text
theorem kn_entry (h : Kn N n X D S R) {i : Nat} {e : Ent} (he : X.entries[i]? = some e) : (∃ m d, EntryKnown D e m d) ∧ ∀ (j : Nat) (c : Ent), j < i → X.entries[j]? = some c → c.rev < e.rev := by
  obtain ⟨Y, h, k, rfl, r0⟩ := h
  have hp := kept_rising h.revs
  rw [← h.ent] at hp
  refine ⟨?_, fun j c hj hc => ?_⟩
  · have hm := List.mem_of_getElem? he
    rw [h.ent] at hm
    obtain ⟨q, hq, rfl, ho⟩ := kept_mem hm
    obtain ⟨m, hmq⟩ := List.getElem?_of_mem hq
    obtain ⟨d, hd, ha⟩ := k.all.of hmq
    refine ⟨m, d, h.revs m q hmq, hd, ha.path, ha.gone, fun hg => ?_⟩
    obtain ⟨a1, j, K, b1, b2, b3, b4⟩ := ha.shut hg
    obtain ⟨ok1, j2, K2, c1, c2, c3⟩ := h.eok q hq hg
    have hjj : j2 = j := by rw [c1] at b1; omega
    subst hjj
    obtain rfl := Option.some.inj (b2.symm.trans c2)
    have hKg := c3 ho
    have hj6 : j2 < 6 := by have := (List.getElem?_eq_some_iff.1 c2).1; have := h.keys.few.2; omega
    obtain ⟨P, hP⟩ : ∃ P, X.keys[j2]? = some P := ⟨_, List.getElem?_eq_getElem (by rw [h.keys.len]; exact (List.getElem?_eq_some_iff.1 c2).1)⟩
    refine ⟨ok1, a1, j2, K.text, c1, by rw [k.keys, List.getElem?_map, c2]; rfl, (h.keys.same j2 P K hP c2).size, by rw [k.dest, destOf_at c2 hj6, hKg], ?_, ?_⟩
    · unfold openB
      rw [b4]
      exact decide_eq_true (opens_seal K.text (nonceTo q.e.draw 12) q.e.path d.text)
    · rw [b4]; exact open_seal _ _ _ _
  · obtain ⟨hi, e1⟩ := List.getElem?_eq_some_iff.1 he
    obtain ⟨hj2, e2⟩ := List.getElem?_eq_some_iff.1 hc
    have := List.pairwise_iff_getElem.1 hp j i hj2 hi hj
    rw [e1, e2] at this
    exact this
/-- What was told earlier, against what is kept now. -/
theorem kn_told (h : Kn N n X D S R) {e z : Ent} (he : e ∈ X.entries) (hg : e.gone = false) (hz : z ∈ D.seen) : (z.rev = e.rev ↔ z.draw = e.draw) ∧ (z.rev = e.rev → z = e) := by
  obtain ⟨Y, h, k, rfl, r0⟩ := h
  rw [h.ent] at he
  obtain ⟨q, hq, rfl, _⟩ := kept_mem he
  obtain ⟨hzg, p, hp, rfl⟩ := k.told z hz
  have same : p.e.rev = q.e.rev → p.e = q.e := fun e => by rw [same_rev h.revs hp hq e]
  refine ⟨⟨fun e => by rw [same e], fun e => ?_⟩, same⟩
  obtain ⟨i, hi⟩ := List.getElem?_of_mem hp
  obtain ⟨j, hj⟩ := List.getElem?_of_mem hq
  by_cases hij : i = j
  · subst hij
    rw [Option.some.inj (hi.symm.trans hj)]
  · exact absurd e (k.draws.b i j p q hij hi hj hzg hg)
theorem kn_see (h : Kn N n X D S R) {e : Ent} (he : e ∈ X.entries) (hg : e.gone = false) : Kn N n X { D with seen := D.seen ++ [e] } S R := by
  obtain ⟨Y, h, k, rfl, r0⟩ := h
  have he2 := he
  rw [h.ent] at he2
  obtain ⟨q, hq, rfl, _⟩ := kept_mem he2
  refine ⟨Y, h, ⟨k.all, k.out, k.floor, k.floor1, k.names, k.keys, k.dest, k.opl, k.ops, k.draws, k.came, fun z hz => ?_, k.pods, k.left⟩, rfl, r0⟩
  rcases List.mem_append.1 hz with hz | hz
  · exact k.told z hz
  · obtain rfl := List.mem_singleton.1 hz
    exact ⟨hg, q, hq, rfl⟩
/-! A new coffer. -/
def PD.new (key : ByteArray) : PD := ⟨[], 0, List.replicate 4 Und2.zero, List.replicate 7 false, [], [key], ⟨List.replicate 8 (-1), List.replicate 8 (List.replicate 6 false)⟩⟩
theorem new_pods : PodsK (podsOf [-1, -1, -1, -1, -1, -1, -1, -1] []) ⟨List.replicate 8 (-1), List.replicate 8 (List.replicate 6 false)⟩ := by
  refine ⟨⟨rfl, rfl, fun l hl => ?_⟩, fun i hi => ?_, fun i k hi hk => ?_, fun i _ q hq => (by cases hq), fun i _ => List.nodup_nil⟩
  · obtain rfl := (List.mem_replicate.1 hl).2
    rfl
  · rcases eight hi with rfl | rfl | rfl | rfl | rfl | rfl | rfl | rfl <;> rfl
  · constructor
    · intro h
      have hk6 : k = 0 ∨ k = 1 ∨ k = 2 ∨ k = 3 ∨ k = 4 ∨ k = 5 := by omega
      rcases eight hi with rfl | rfl | rfl | rfl | rfl | rfl | rfl | rfl <;> rcases hk6 with rfl | rfl | rfl | rfl | rfl | rfl <;> cases h
    · intro h
      cases h
theorem kn_new (m : Nat) (room : Int) (key : ByteArray) (hc : cfgOk (m : Int) room key = true) : Kn N 0 (PS.new m room key) (PD.new key) m room := by
  have h := new_two m room key hc
  have e : (RS.new (m : Int) room key).seen = List.replicate m 0 := by show List.replicate (m : Int).toNat 0 = _; rw [Int.toNat_natCast]
  have e2 : (RS.new (m : Int) room key).ops = List.replicate m RUnd.zero := by show List.replicate (m : Int).toNat RUnd.zero = _; rw [Int.toNat_natCast]
  have hm := h.len.2.2.1
  rw [e, List.length_replicate] at hm
  have noAll : ∀ (i : Nat) (k : RKept), (RS.new (m : Int) room key).all[i]? = some k → False := fun i k hk => by
    have hk : ([] : List RKept)[i]? = some k := hk
    simp at hk
  have offs : ∀ (s : Nat) (u : RUnd), (RS.new (m : Int) room key).ops[s]? = some u → u = RUnd.zero ∧ s < m := fun s u hu => by
    rw [e2, List.getElem?_replicate] at hu
    split at hu
    · exact ⟨(Option.some.inj hu).symm, by assumption⟩
    · cases hu
  refine ⟨RS.new m room key, h, ⟨⟨rfl, fun i k d hk => (noAll i k hk).elim⟩, ⟨fun i k hk => (noAll i k hk).elim, fun i k hk => (noAll i k hk).elim⟩, rfl, Int.le_refl _, fun d hd => (by have hd : d ∈ ([] : List Dd) := hd; simp at hd), rfl, rfl, rfl, fun s u hu => ?_, ⟨fun i k hk => (noAll i k hk).elim, fun i j k q _ hk => (noAll i k hk).elim, fun s u hu ho => ?_, fun s t u v _ hu _ ho => ?_⟩, fun s sn hs hne => ?_, fun z hz => (by have hz : z ∈ ([] : List Ent) := hz; simp at hz), new_pods, fun q => absurd rfl q⟩, by rw [e]; simp, rfl⟩
  · obtain ⟨rfl, hs⟩ := offs s u hu
    exact ⟨Und2.zero, by show (List.replicate 4 Und2.zero)[s]? = _; rw [List.getElem?_replicate, if_pos (by omega)], rfl, fun q => by cases q⟩
  · obtain ⟨rfl, _⟩ := offs s u hu
    cases ho
  · obtain ⟨rfl, _⟩ := offs s u hu
    cases ho
  · rw [e, List.getElem?_replicate] at hs
    split at hs
    · exact absurd (Option.some.inj hs).symm hne
    · cases hs
end Go.Proofs.YtphapknfkbgapaaDoor
namespace Go.Proofs.YtphapknfkbgapaaDoor
open Go.RowKit

variable {F : Nat → Prop} {b : Nat} {X : PS}
/-! Meddling: the program's kept, Plant. -/
/-- What the program finds of a revision. -/
def keptE (l : List Ent) (rev : Int) : Ent := (l.find? (fun e => e.rev == rev)).getD Ent.zero
def PS.plant (X : PS) (name : ByteArray) (e : Ent) : PS := { X.add { e with path := name } with turn := if X.turn == 3 then 2 else X.turn }
end Go.Proofs.YtphapknfkbgapaaDoor
namespace Go.Proofs.YtphapknfkbgapaaDoor
open Go.RowKit

/-! Pods: the program's Place, Refer. -/
variable {F : Nat → Prop} {b : Nat} {X : PS}
def isPodB (n : Int) : Bool := decide (0 ≤ n) && decide (n < 8)
def isNodeB (n : Int) : Bool := decide (0 ≤ n) && decide (n < 4)
theorem isPod_any (w : World) (n : Int) : Calls Tryd.prog 118 #[.int .i64 n] w fun e w' => e = .returned (.bool (isPodB n)) ∧ w' = w := by
  cases q : decide (0 ≤ n)
  all_goals
    go_enter Tryd.func118, Tryd.ntmps118
    go_wp2
    go_ret
    exact ⟨by simp [isPodB, q], rfl⟩
theorem isNode_any (w : World) (n : Int) : Calls Tryd.prog 119 #[.int .i64 n] w fun e w' => e = .returned (.bool (isNodeB n)) ∧ w' = w := by
  cases q : decide (0 ≤ n)
  all_goals
    go_enter Tryd.func119, Tryd.ntmps119
    go_wp2
    go_ret
    exact ⟨by simp [isNodeB, q], rfl⟩
theorem pPlace_arg (w : World) (pod node : Int) (h : badPlace pod node = true) :
    Calls Tryd.prog 100 #[.pointer (some ⟨b, 0, none⟩), .int .i64 pod, .int .i64 node] w fun e w' => e = .returned (.int .i64 2) ∧ w' = w := by
  cases hp : isPodB pod
  · have HP := hid hp
    clear h
    go_enter Tryd.func100, Tryd.ntmps100
    go_wp2_with (go_at_call 118; refine (isPod_any _ _).mono ?_; rw [HP.out]; rintro e y1 ⟨rfl, hy⟩; obtain rfl := hy.symm)
    go_ret
    exact ⟨rfl, rfl⟩
  · have HP := hid hp
    have hn1 : (node != -1) = true := by
      unfold badPlace at h; unfold isPodB at hp; simp at h hp ⊢; omega
    have hn2 : isNodeB node = false := by
      unfold badPlace at h; unfold isPodB at hp; unfold isNodeB
      rw [Bool.and_eq_false_iff]
      simp at h hp ⊢; omega
    have HN := hid hn2
    clear h hn2 hp
    go_enter Tryd.func100, Tryd.ntmps100
    go_wp2_with (first | (go_at_call 118; refine (isPod_any _ _).mono ?_; rw [HP.out]; rintro e y1 ⟨rfl, hy⟩; obtain rfl := hy.symm) | (go_at_call 119; refine (isNode_any _ _).mono ?_; rw [HN.out]; rintro e y1 ⟨rfl, hy⟩; obtain rfl := hy.symm))
    go_ret
    exact ⟨rfl, rfl⟩
def PS.place (X : PS) (pod : Nat) (node : Int) : PS := { X with pods := setPod X.pods pod { X.pods pod with node := node } }
theorem xset_kept0 {w : World} (h : XIn w F b X) (i : Nat) (v : Value) : Kept F w (w.setCell ⟨b, i, none⟩ v) := (setCell_kept w ⟨b, i, none⟩ v).mono (fun q _ e => by rw [show q = b from e]; exact h.inF)
theorem pPlace_yes (w : World) (pod : Nat) (node : Int) (h : XIn w F b X) (hp : pod < 8) (h1 : -1 ≤ node) (h2 : node < 4) :
    Calls Tryd.prog 100 #[.pointer (some ⟨b, 0, none⟩), .int .i64 (pod : Int), .int .i64 node] w fun e w' => e = .returned (.int .i64 0) ∧ XIn w' F b (X.place pod node) ∧ Kept F w w' := by
  have HP : Hid (isPodB (pod : Int) = true) := by show _ = _; unfold isPodB; simp; omega
  have HR := hid h
  have c := xin_node h hp
  have f := h.frozen (10 + pod * 2)
  have lb := h.lt
  have il : (pod : Int) < 8 := by omega
  have HP8 := hid hp
  cases hn : (node != -1)
  · clear h h1 h2 hp
    go_enter Tryd.func100, Tryd.ntmps100
    go_wp2_with (go_at_call 118; refine (isPod_any _ _).mono ?_; rw [HP.out]; rintro e y1 ⟨rfl, hy⟩; obtain rfl := hy.symm)
    go_ret
    exact ⟨rfl, xin_setNode HR.out HP8.out node, xset_kept0 HR.out _ _⟩
  · have HN : Hid (isNodeB node = true) := by show _ = _; unfold isNodeB; simp at hn ⊢; omega
    clear h h1 h2 hp
    go_enter Tryd.func100, Tryd.ntmps100
    go_wp2_with (first | (go_at_call 118; refine (isPod_any _ _).mono ?_; rw [HP.out]; rintro e y1 ⟨rfl, hy⟩; obtain rfl := hy.symm) | (go_at_call 119; refine (isNode_any _ _).mono ?_; rw [HN.out]; rintro e y1 ⟨rfl, hy⟩; obtain rfl := hy.symm))
    go_ret
    exact ⟨rfl, xin_setNode HR.out HP8.out node, xset_kept0 HR.out _ _⟩
end Go.Proofs.YtphapknfkbgapaaDoor
namespace Go.Proofs.YtphapknfkbgapaaDoor
open Go.RowKit

variable {F : Nat → Prop} {b : Nat} {X : PS}
/-- A slice of texts. -/
def Texts (w : World) (a : Option Addr) (l : List ByteArray) : Prop := ∀ (i : Nat) (p : ByteArray), l[i]? = some p → ∃ g, a = some ⟨g, 0, none⟩ ∧ g < w.heap.size ∧ w.cell? ⟨g, i, none⟩ = some (.string p)
theorem Texts.low {w w' : World} {a : Option Addr} {l : List ByteArray} (h : Texts w a l) (k : Low w.heap.size w w') : Texts w' a l := fun i p hp => by
  obtain ⟨g, rfl, hg, hc⟩ := h i p hp
  exact ⟨g, rfl, Nat.lt_of_lt_of_le hg k.size, (k.cell hg).trans hc⟩
theorem xin_texts {w : World} {i : Nat} (h : XIn w F b X) (hi : i < 8) : ∃ a cap, w.cell? ⟨b, 11 + i * 2, none⟩ = some (.slice a (X.pods i).needs.length cap) ∧ Texts w a (X.pods i).needs := by
  obtain ⟨a, cap, hc, hel⟩ := xin_needs h hi
  rw [List.length_map] at hc
  refine ⟨a, cap, hc, fun j p hp => ?_⟩
  obtain ⟨g, rfl, hg, hcs, _⟩ := hel j (str p) (by rw [List.getElem?_map, hp]; rfl)
  have := hcs 0 (by omega)
  rw [Nat.mul_one, Nat.add_zero] at this
  exact ⟨g, rfl, hg, this⟩
def withoutOf (l : List ByteArray) (name : ByteArray) : List ByteArray := l.filter (fun p => !(p.toList == name.toList))
theorem without_snoc (l : List ByteArray) (q p : ByteArray) : withoutOf (l ++ [q]) p = if (q.toList == p.toList) then withoutOf l p else withoutOf l p ++ [q] := by
  unfold withoutOf
  rw [List.filter_append]
  cases h : (q.toList == p.toList) <;> simp [h]
theorem without_le (l : List ByteArray) (p : ByteArray) : (withoutOf l p).length ≤ l.length := List.length_filter_le _ _
theorem info9 : (Tryd.prog.info? 9).map (fun i => (i.zero, i.size, i.bytes)) = some (some (.string ⟨#[]⟩), 1, 16) := by kernel_rfl
theorem str_one (p : ByteArray) : ∀ v ∈ str p, v.oneCell' = true := by simp [str, Value.oneCell']
set_option maxRecDepth 100000 in
set_option maxHeartbeats 1000000 in
theorem without_any (w : World) (a : Option Addr) (l : List ByteArray) (cap : Nat) (p : ByteArray) (hl : l.length ≤ 1000) (ht : Texts w a l) :
    Calls Tryd.prog 120 #[.slice a l.length cap, .string p] w fun e w' => ∃ v, e = .returned v ∧ Low w.heap.size w w' ∧ w'.ownsRow 0 9 1 v (withoutOf l p).length ((withoutOf l p).flatMap str) ∧ ∀ k, v.ownBlock = some k → w.heap.size ≤ k := by
  have HT := hid ht
  have HL := hid hl
  clear ht hl
  go_enter Tryd.func120, Tryd.ntmps120
  go_wp2_with fail
  go_loopg [5, 6] l.length (fun left v iv wr => ∃ i : Nat, left = l.length - i ∧ i ≤ l.length ∧ iv = .int .i64 (i : Int) ∧ Hid (Low w.heap.size w wr ∧ wr.ownsRow 0 9 1 v (withoutOf (l.take i) p).length ((withoutOf (l.take i) p).flatMap str) ∧ ∀ k, v.ownBlock = some k → w.heap.size ≤ k))
  case atStart =>
    refine ⟨0, rfl, Nat.zero_le _, rfl, (Low.refl _ w).alloc (Nat.le_refl _) _, ⟨rfl, Or.inr ⟨w.heap.size, 0, #[], rfl, Nat.zero_le _, heap_alloc_new w _, Nat.le_refl _, by decide, rfl, rfl⟩⟩, fun k hk => ?_⟩
    obtain rfl : w.heap.size = k := Option.some.inj hk
    exact Nat.le_refl _
  case round v =>
    obtain ⟨i, hgk, hi, rfl, HI⟩ := hrel
    have HGK := hid hgk
    clear hgk
    by_cases h3 : i < l.length
    · have q3 : decide ((i : Int) < (l.length : Int)) = true := by simp; omega
      have il : (i : Int) < (l.length : Int) := by omega
      obtain ⟨q, hq⟩ : ∃ q, l[i]? = some q := ⟨_, List.getElem?_eq_getElem h3⟩
      obtain ⟨g, rfl, hg, hc⟩ := (HT.out.low HI.out.1) i q hq
      have HTK := hid (take_snoc hq)
      have HS := hid (without_snoc (l.take i) q p)
      have HZ : Hid ((withoutOf (l.take i) p).length + 1 ≤ 1000000000) := by
        show _ ≤ _
        have := without_le (l.take i) p
        have := HL.out
        simp at *
        omega
      clear hq
      cases qn : (q.toList == p.toList)
      · have qn2 : (q.toList != p.toList) = true := by rw [bne, qn]; rfl
        go_wp2_with (at_builtin; refine wpList_append_mine _ rfl (.tmp 20) (.tmp 25) 52 rfl 9 _ 1 16 Tryd.underlying52 info9 rfl (by omega) _ _ _ rfl (HI.out.2.1.alloc _) ⟨wr.heap.size, 0, none⟩ 1 1 (str q) rfl rfl (news_new wr (str q) 9) (str_one q) ⟨HZ.out, by omega⟩ ?_; intro v' w1 o1 k1 p1; have O1 := hid o1; have K1 := hid k1; have P1 := hid p1; clear o1 k1 p1)
        go_roundg (l.length - (i + 1))
        case rel =>
          obtain ⟨l1, b1⟩ := append_low HI.out.1 HI.out.2.2 K1.out P1.out
          refine ⟨i + 1, rfl, by omega, by have := HL.out; simp; unfold wrap64; omega, l1, ?_, b1⟩
          rw [HTK.out, HS.out, qn, if_neg (by simp), List.length_append, flat_snoc]
          exact O1.out
        case measure => have := HGK.out; omega
      · have qn2 : (q.toList != p.toList) = false := by rw [bne, qn]; rfl
        go_wp2_with fail
        go_roundg (l.length - (i + 1))
        case rel =>
          refine ⟨i + 1, rfl, by omega, by have := HL.out; simp; unfold wrap64; omega, HI.out.1, ?_, HI.out.2.2⟩
          rw [HTK.out, HS.out, qn]
          exact HI.out.2.1
        case measure => have := HGK.out; omega
    · have q3 : decide ((i : Int) < (l.length : Int)) = false := by simp; omega
      have HTK : Hid (l.take i = l) := List.take_of_length_le (by omega)
      obtain ⟨a10, cap10, hv10, _, _⟩ := ownsRow_view HI.out.2.1
      subst hv10
      go_wp2_with fail
      go_ret
      have hI := HI.out
      rw [HTK.out] at hI
      exact ⟨_, by rw [HTK.out]; rfl, hI.1, hI.2.1, hI.2.2⟩
end Go.Proofs.YtphapknfkbgapaaDoor
namespace Go.Proofs.YtphapknfkbgapaaDoor
open Go.RowKit

variable {F : Nat → Prop} {b : Nat} {X : PS}
/-! Refer; who needs a path. -/
theorem isPath1_any (w : World) (p : ByteArray) (hp : p.size ≤ maxLen) : Calls Tryd.prog 105 #[.string p] w fun e w' => e = .returned (.bool (isPath p)) ∧ w' = w := pisPath_any w p hp
theorem pRefer_arg (w : World) (pod : Int) (name : ByteArray) (on : Bool) (hp : name.size ≤ maxLen) (h : badRefer pod name = true) :
    Calls Tryd.prog 101 #[.pointer (some ⟨b, 0, none⟩), .int .i64 pod, .string name, .bool on] w fun e w' => e = .returned (.int .i64 2) ∧ w' = w := by
  have HM := hid hp
  cases hq : isPodB pod
  · have HP := hid hq
    clear h hp
    go_enter Tryd.func101, Tryd.ntmps101
    go_wp2_with (go_at_call 118; refine (isPod_any _ _).mono ?_; rw [HP.out]; rintro e y1 ⟨rfl, hy⟩; obtain rfl := hy.symm)
    go_ret
    exact ⟨rfl, rfl⟩
  · have HP := hid hq
    have hn : isPath name = false := by
      unfold badRefer at h; unfold isPodB at hq
      cases hi : isPath name
      · rfl
      · rw [hi] at h; simp at h hq; omega
    have HN := hid hn
    clear h hp hn hq
    go_enter Tryd.func101, Tryd.ntmps101
    go_wp2_with (first | (go_at_call 118; refine (isPod_any _ _).mono ?_; rw [HP.out]; rintro e y1 ⟨rfl, hy⟩; obtain rfl := hy.symm) | (go_at_call 105; refine (isPath1_any _ _ HM.out).mono ?_; rw [HN.out]; rintro e y1 ⟨rfl, hy⟩; obtain rfl := hy.symm))
    go_ret
    exact ⟨rfl, rfl⟩
def PS.refer (X : PS) (pod : Nat) (name : ByteArray) (on : Bool) : PS := { X with pods := setPod X.pods pod { X.pods pod with needs := withoutOf (X.pods pod).needs name ++ (if on then [name] else []) } }
set_option maxRecDepth 100000 in
set_option maxHeartbeats 1000000 in
theorem pRefer_any (w : World) (pod : Nat) (name : ByteArray) (on : Bool) (h : XIn w F b X) (hn : (X.pods pod).needs.length ≤ 8) (hp : name.size ≤ maxLen) (hq : isPath name = true) (hpod : pod < 8) :
    Calls Tryd.prog 101 #[.pointer (some ⟨b, 0, none⟩), .int .i64 (pod : Int), .string name, .bool on] w fun e w' => ((on && decide (8 ≤ (withoutOf (X.pods pod).needs name).length)) = true ∧ e = .returned (.int .i64 16) ∧ Low w.heap.size w w') ∨
      ((on && decide (8 ≤ (withoutOf (X.pods pod).needs name).length)) = false ∧ e = .returned (.int .i64 0) ∧ XIn w' (grow F w w') b (X.refer pod name on) ∧ Kept F w w') := by
  have HP : Hid (isPodB (pod : Int) = true) := by show _ = _; unfold isPodB; simp; omega
  have HR := hid h
  have HM := hid hp
  have HQ := hid hq
  have H8 := hid hpod
  have HN := hid hn
  have HOF : Hid (11 + pod * 2 = 10 + pod * 2 + 1) := by show _ = _; omega
  obtain ⟨a, cap, hc, ht⟩ := xin_texts h hpod
  rw [HOF.out] at hc
  have HT := hid ht
  have lb := h.lt
  have il : (pod : Int) < 8 := by omega
  clear h hp hq hpod hn ht
  go_enter Tryd.func101, Tryd.ntmps101
  go_upto_region 4 with (first | (go_at_call 118; refine (isPod_any _ _).mono ?_; rw [HP.out]; rintro e y1 ⟨rfl, hy⟩; obtain rfl := hy.symm) | (go_at_call 105; refine (isPath1_any _ _ HM.out).mono ?_; rw [HQ.out]; rintro e y1 ⟨rfl, hy⟩; obtain rfl := hy.symm) | (go_at_call 120; refine (without_any _ a (X.pods pod).needs cap name (by have := HN.out; omega) HT.out).mono ?_; rintro e y1 ⟨v, rfl, l1, o1, b1⟩; obtain ⟨a1, cap1, rfl, _, _⟩ := ownsRow_view o1; have L1 := hid l1; have O1 := hid o1; have B1 := hid b1; clear l1 o1 b1))
  have XY := hid (HR.out.low L1.out)
  obtain ⟨a2, cap2, hc2, _⟩ := xin_texts XY.out H8.out
  rw [HOF.out] at hc2
  have f2 := XY.out.frozen (10 + pod * 2 + 1)
  have lb2 := XY.out.lt
  cases qo : on
  · go_wp2_with fail
    go_ret
    obtain ⟨r1, k1⟩ := xin_setNeeds HR.out H8.out L1.out O1.out B1.out
    rw [HOF.out] at r1 k1
    refine Or.inr ⟨by rw [qo]; rfl, rfl, ?_, k1⟩
    unfold PS.refer
    rw [qo, if_neg (by simp), List.append_nil]
    exact XIn.more r1 (fun k hk => hk.imp id (fun q => ⟨q.1, by simpa using q.2⟩)) (fun k hk => hk.elim (fun q => by have := HR.out.below k q; have := L1.out.size; simp; omega) (fun q => q.2))
  · obtain ⟨ot, hot⟩ : ∃ ot, ot = (withoutOf (X.pods pod).needs name).length := ⟨_, rfl⟩
    have HOT := hid hot
    have HO8 : Hid (ot ≤ 8) := by show _ ≤ _; rw [hot]; exact Nat.le_trans (without_le _ _) HN.out
    rw [← hot]
    rw [← hot] at O1
    rw [← hot] at B1
    clear hot
    cases q8 : decide (8 ≤ ot)
    · have q9 : decide ((8 : Int) ≤ (ot : Int)) = false := by simp at q8 ⊢; omega
      go_wp2_with (at_builtin; refine wpList_append_mine _ rfl (.tmp 31) (.tmp 33) 52 rfl 9 _ 1 16 Tryd.underlying52 info9 rfl (by omega) _ _ _ rfl (O1.out.alloc _) ⟨y1.heap.size, 0, none⟩ 1 1 (str name) rfl rfl (news_new y1 (str name) 9) (str_one name) ⟨by have := HO8.out; omega, by omega⟩ ?_; intro v' w1 o2 k2 p2; obtain ⟨a3, cap3, rfl, _, _⟩ := ownsRow_view o2; have LL := hid (append_low L1.out B1.out k2 p2); have X2 := hid (HR.out.low LL.out.1); obtain ⟨a4, cap4, hc4, _⟩ := xin_texts X2.out H8.out; rw [HOF.out] at hc4; have f4 := X2.out.frozen (10 + pod * 2 + 1); have lb4 := X2.out.lt; have O2 := hid o2; clear o2 k2 p2)
      go_ret
      have hO := O2.out
      have e1 : ot + 1 = (withoutOf (X.pods pod).needs name ++ [name]).length := by rw [HOT.out]; simp
      have e2 : (withoutOf (X.pods pod).needs name).flatMap str ++ str name = (withoutOf (X.pods pod).needs name ++ [name]).flatMap str := by rw [flat_snoc]
      rw [e1, e2] at hO
      obtain ⟨r1, k1⟩ := xin_setNeeds HR.out H8.out LL.out.1 hO (by rw [← e1]; exact LL.out.2)
      rw [HOF.out] at r1 k1
      refine Or.inr ⟨by rw [qo, ← HOT.out, q8]; rfl, rfl, ?_, ?_⟩
      · unfold PS.refer
        rw [qo, if_pos rfl, e1]
        exact XIn.more r1 (fun k hk => hk.imp id (fun q => ⟨q.1, by simpa using q.2⟩)) (fun k hk => hk.elim (fun q => by have := HR.out.below k q; have := LL.out.1.size; simp; omega) (fun q => q.2))
      · rw [e1]; exact k1
    · have q9 : decide ((8 : Int) ≤ (ot : Int)) = true := by simp at q8 ⊢; omega
      go_wp2_with fail
      go_ret
      exact Or.inl ⟨by rw [qo, ← HOT.out, q8]; rfl, rfl, L1.out⟩
set_option maxRecDepth 100000 in
set_option maxHeartbeats 1000000 in
theorem needsPath_any (w : World) (node : Int) (a : Option Addr) (l : List ByteArray) (cap : Nat) (p : ByteArray) (hl : l.length ≤ 1000) (ht : Texts w a l) :
    Calls Tryd.prog 127 #[.agg #[.int .i64 node, .slice a l.length cap], .string p] w fun e w' => e = .returned (.bool (l.any (fun q => q.toList == p.toList))) ∧ Low w.heap.size w w' := by
  have HT := hid ht
  have HL := hid hl
  clear ht hl
  go_enter Tryd.func127, Tryd.ntmps127
  go_wp2_with fail
  go_name_world W hW
  have BW : Hid (Blk W w.heap.size 99 [.int .i64 node, .slice a l.length cap]) := by
    show Blk W _ _ _
    rw [← hW]; exact Blk.new w 99 [.int .i64 node, .slice a l.length cap]
  have LW : Hid (Low w.heap.size w W) := by
    show Low _ _ _
    rw [← hW]; exact (Low.refl _ w).alloc (Nat.le_refl _) _
  have TW : Hid (Texts W a l) := by show Texts W a l; exact HT.out.low LW.out
  clear hW
  have c1 : W.cell? ⟨w.heap.size, 1, none⟩ = some (.slice a l.length cap) := BW.out.cell 1
  go_loopg [5] l.length (fun left iv wr => ∃ i : Nat, left = l.length - i ∧ i ≤ l.length ∧ iv = .int .i64 (i : Int) ∧ W = wr ∧ Hid ((l.take i).any (fun q => q.toList == p.toList) = false))
  case atStart => exact ⟨0, rfl, Nat.zero_le _, rfl, rfl, rfl⟩
  case round =>
    obtain ⟨i, hgk, hi, rfl, rfl, HI⟩ := hrel
    have HGK := hid hgk
    clear hgk
    by_cases h3 : i < l.length
    · have q3 : decide ((i : Int) < (l.length : Int)) = true := by simp; omega
      have il : (i : Int) < (l.length : Int) := by omega
      obtain ⟨q, hq⟩ : ∃ q, l[i]? = some q := ⟨_, List.getElem?_eq_getElem h3⟩
      obtain ⟨g, rfl, hg, hc⟩ := TW.out i q hq
      have HTK := hid (any_snoc l i q (fun q => q.toList == p.toList) hq)
      have HM := hid (List.mem_of_getElem? hq)
      clear hq
      cases qn : (q.toList == p.toList)
      · go_wp2_with fail
        go_roundg (l.length - (i + 1))
        case rel => exact ⟨i + 1, rfl, by omega, by have := HL.out; simp; unfold wrap64; omega, rfl, by show _ = _; rw [HTK.out, HI.out, qn]; rfl⟩
        case measure => have := HGK.out; omega
      · go_wp2_with fail
        go_ret
        refine ⟨?_, LW.out⟩
        have : l.any (fun q => q.toList == p.toList) = true := List.any_eq_true.2 ⟨q, HM.out, qn⟩
        rw [this]; rfl
    · have q3 : decide ((i : Int) < (l.length : Int)) = false := by simp; omega
      have HTK : Hid (l.take i = l) := List.take_of_length_le (by omega)
      go_wp2_with fail
      go_ret
      refine ⟨?_, LW.out⟩
      have := HI.out
      rw [HTK.out] at this
      rw [this]; rfl
/-- A pod on a node needs a path. -/
def podNeeds (p : PPod) (node : Int) (name : ByteArray) : Bool := (p.node == node) && p.needs.any (fun q => q.toList == name.toList)
def neededOf (p : Nat → PPod) (node : Int) (name : ByteArray) : Bool := (List.range 8).any (fun i => podNeeds (p i) node name)
def neededTo (p : Nat → PPod) (node : Int) (name : ByteArray) (i : Nat) : Bool := (List.range i).any (fun i => podNeeds (p i) node name)
theorem neededTo_snoc (p : Nat → PPod) (node : Int) (name : ByteArray) (i : Nat) : neededTo p node name (i + 1) = (neededTo p node name i || podNeeds (p i) node name) := by
  unfold neededTo
  rw [List.range_succ, List.any_append]
  simp
set_option maxRecDepth 100000 in
set_option maxHeartbeats 1000000 in
theorem isNeeded_any (w : World) (node : Int) (p : ByteArray) (h : XIn w F b X) (hn : ∀ i, i < 8 → (X.pods i).needs.length ≤ 8) :
    Calls Tryd.prog 126 #[.pointer (some ⟨b, 0, none⟩), .int .i64 node, .string p] w fun e w' => e = .returned (.bool (neededOf X.pods node p)) ∧ Low w.heap.size w w' := by
  have HR := hid h
  have HN := hid hn
  clear h hn
  go_enter Tryd.func126, Tryd.ntmps126
  go_wp2_with fail
  go_loopg [7] 8 (fun left iv wr => ∃ i : Nat, left = 8 - i ∧ i ≤ 8 ∧ iv = .int .i64 (i : Int) ∧ Hid (Low w.heap.size w wr) ∧ Hid (neededTo X.pods node p i = false))
  case atStart => exact ⟨0, rfl, Nat.zero_le _, rfl, Low.refl _ _, rfl⟩
  case round =>
    obtain ⟨i, hgk, hi, rfl, HLW, HI⟩ := hrel
    have HGK := hid hgk
    clear hgk
    by_cases h3 : i < 8
    · have q3 : decide ((i : Int) < 8) = true := by simp; omega
      have il : (i : Int) < 8 := by omega
      have XW : Hid (XIn wr F b X) := HR.out.low HLW.out
      have c0 := xin_node XW.out h3
      obtain ⟨a, cap, c1, ht⟩ := xin_texts XW.out h3
      have c1' : wr.cell? ⟨b, 10 + i * 2 + 1, none⟩ = some (.slice a (X.pods i).needs.length cap) := by rw [show 10 + i * 2 + 1 = 11 + i * 2 by omega]; exact c1
      have HT := hid ht
      have lb := XW.out.lt
      have HS := hid (neededTo_snoc X.pods node p i)
      have H3 := hid h3
      obtain ⟨an, han⟩ : ∃ an, an = (X.pods i).needs.any (fun q => q.toList == p.toList) := ⟨_, rfl⟩
      have HAN := hid han
      clear ht han c1
      cases qn : ((X.pods i).node == node)
      · go_wp2_with fail
        go_roundg (8 - (i + 1))
        case rel => exact ⟨i + 1, rfl, by omega, by simp, HLW.out, by show _ = _; rw [HS.out, HI.out]; unfold podNeeds; rw [qn]; rfl⟩
        case measure => have := HGK.out; omega
      · cases qa : an
        · go_wp2_with (go_at_call 127; refine (needsPath_any _ (X.pods i).node a (X.pods i).needs cap p (by have := HN.out i H3.out; omega) HT.out).mono ?_; rw [← HAN.out]; rintro e y1 ⟨rfl, l1⟩; have L1 : Hid (Low w.heap.size w y1) := HLW.out.trans (l1.mono HLW.out.size); clear l1)
          go_roundg (8 - (i + 1))
          case rel => exact ⟨i + 1, rfl, by omega, by simp, L1.out, by show _ = _; rw [HS.out, HI.out]; unfold podNeeds; rw [qn, ← HAN.out, qa]; rfl⟩
          case measure => have := HGK.out; omega
        · go_wp2_with (go_at_call 127; refine (needsPath_any _ (X.pods i).node a (X.pods i).needs cap p (by have := HN.out i H3.out; omega) HT.out).mono ?_; rw [← HAN.out]; rintro e y1 ⟨rfl, l1⟩; have L1 : Hid (Low w.heap.size w y1) := HLW.out.trans (l1.mono HLW.out.size); clear l1)
          go_ret
          refine ⟨?_, L1.out⟩
          have : neededOf X.pods node p = true := List.any_eq_true.2 ⟨i, List.mem_range.2 H3.out, by unfold podNeeds; rw [qn, ← HAN.out, qa]; rfl⟩
          rw [this]; rfl
    · have q3 : decide ((i : Int) < 8) = false := by simp; omega
      obtain rfl : i = 8 := by omega
      go_wp2_with fail
      go_ret
      refine ⟨?_, HLW.out⟩
      have := HI.out
      unfold neededTo at this
      unfold neededOf
      rw [this]; rfl
end Go.Proofs.YtphapknfkbgapaaDoor
namespace Go.Proofs.YtphapknfkbgapaaDoor
open Go.RowKit

variable {F : Nat → Prop} {b : Nat} {X : PS}
/-! Fetch. -/
theorem isNode_bad {node : Int} (h : badNode node = true) : isNodeB node = false := by
  unfold badNode at h; unfold isNodeB
  rw [Bool.and_eq_false_iff]
  simp at h ⊢
  omega
theorem isNode_good {node : Int} (h : badNode node = false) : isNodeB node = true := by
  unfold badNode at h; unfold isNodeB
  simp at h ⊢
  omega
theorem pFetch_srv (w : World) (s node : Int) (p : ByteArray) (h : XIn w F b X) (hs : isSrv X.servers.length s = false) :
    Calls Tryd.prog 121 #[.pointer (some ⟨b, 0, none⟩), .int .i64 s, .int .i64 node, .string p] w fun e w' => e = .returned (.tuple #[.string ⟨#[]⟩, .int .i64 4]) ∧ w' = w := by
  have HR := hid h
  have HS := hid hs
  clear h hs
  go_enter Tryd.func121, Tryd.ntmps121
  go_wp2_with (go_at_call 74; refine (isServer_any _ _ HR.out).mono ?_; rw [HS.out]; rintro e y1 ⟨rfl, hy⟩; obtain rfl := hy.symm)
  go_ret2
  exact ⟨rfl, rfl⟩
theorem pFetch_arg (w : World) (s node : Int) (p : ByteArray) (h : XIn w F b X) (hs : isSrv X.servers.length s = true) (hb : badNode node = true) :
    Calls Tryd.prog 121 #[.pointer (some ⟨b, 0, none⟩), .int .i64 s, .int .i64 node, .string p] w fun e w' => e = .returned (.tuple #[.string ⟨#[]⟩, .int .i64 2]) ∧ w' = w := by
  have HR := hid h
  have HS := hid hs
  have HB := hid (isNode_bad hb)
  clear h hs hb
  go_enter Tryd.func121, Tryd.ntmps121
  go_wp2_with (first | (go_at_call 74; refine (isServer_any _ _ HR.out).mono ?_; rw [HS.out]; rintro e y1 ⟨rfl, hy⟩; obtain rfl := hy.symm) | (go_at_call 119; refine (isNode_any _ _).mono ?_; rw [HB.out]; rintro e y1 ⟨rfl, hy⟩; obtain rfl := hy.symm))
  go_ret2
  exact ⟨rfl, rfl⟩
theorem pFetch_denied (w : World) (s node : Int) (p : ByteArray) (h : XIn w F b X) (hs : isSrv X.servers.length s = true) (hb : badNode node = false) (hn : ∀ i, i < 8 → (X.pods i).needs.length ≤ 8) (hd : neededOf X.pods node p = false) :
    Calls Tryd.prog 121 #[.pointer (some ⟨b, 0, none⟩), .int .i64 s, .int .i64 node, .string p] w fun e w' => e = .returned (.tuple #[.string ⟨#[]⟩, .int .i64 21]) ∧ Low w.heap.size w w' := by
  have HR := hid h
  have HS := hid hs
  have HB := hid (isNode_good hb)
  have HN := hid hn
  have HD := hid hd
  clear h hs hb hn hd
  go_enter Tryd.func121, Tryd.ntmps121
  go_wp2_with (first | (go_at_call 74; refine (isServer_any _ _ HR.out).mono ?_; rw [HS.out]; rintro e y1 ⟨rfl, hy⟩; obtain rfl := hy.symm) | (go_at_call 119; refine (isNode_any _ _).mono ?_; rw [HB.out]; rintro e y1 ⟨rfl, hy⟩; obtain rfl := hy.symm) | (go_at_call 126; refine (isNeeded_any _ _ _ HR.out HN.out).mono ?_; rw [HD.out]; rintro e y1 ⟨rfl, l1⟩; have L1 := hid l1; clear l1))
  go_ret2
  exact ⟨rfl, L1.out⟩
theorem pFetch_blind (w : World) (i : Nat) (s : PSrv) (node : Int) (p : ByteArray) (h : XIn w F b X) (ha : X.servers[i]? = some s) (hs : isSrv X.servers.length (i : Int) = true) (hz : (s.seen == 0) = true) (hb : badNode node = false) (hn : ∀ i, i < 8 → (X.pods i).needs.length ≤ 8) (hd : neededOf X.pods node p = true) :
    Calls Tryd.prog 121 #[.pointer (some ⟨b, 0, none⟩), .int .i64 (i : Int), .int .i64 node, .string p] w fun e w' => e = .returned (.tuple #[.string ⟨#[]⟩, .int .i64 6]) ∧ Low w.heap.size w w' := by
  have HR := hid h
  have HA := hid ha
  have HS := hid hs
  have HB := hid (isNode_good hb)
  have HN := hid hn
  have HD := hid hd
  have HE : Hid (readErr s = 6) := by show _ = _; unfold readErr; rw [hz]; rfl
  clear h hs hb hn hd ha hz
  go_enter Tryd.func121, Tryd.ntmps121
  go_wp2_with (first | (go_at_call 74; refine (isServer_any _ _ HR.out).mono ?_; rw [HS.out]; rintro e y1 ⟨rfl, hy⟩; obtain rfl := hy.symm) | (go_at_call 119; refine (isNode_any _ _).mono ?_; rw [HB.out]; rintro e y1 ⟨rfl, hy⟩; obtain rfl := hy.symm) | (go_at_call 126; refine (isNeeded_any _ _ _ HR.out HN.out).mono ?_; rw [HD.out]; rintro e y1 ⟨rfl, l1⟩; have L1 := hid l1; clear l1) | (go_at_call 75; refine (mayRead_any _ _ _ (HR.out.low L1.out) HA.out).mono ?_; rw [HE.out]; rintro e y2 ⟨rfl, hy⟩; obtain rfl := hy.symm))
  go_ret2
  exact ⟨rfl, L1.out⟩
set_option maxRecDepth 100000 in
set_option maxHeartbeats 1000000 in
theorem pFetch_ok (w : World) (i : Nat) (s : PSrv) (node : Int) (p : ByteArray) (E : Ent) (A : ByteArray) (C : Int) (h : XIn w F b X) (ha : X.servers[i]? = some s) (hs : isSrv X.servers.length (i : Int) = true) (hz : (s.seen == 0) = false) (hb : badNode node = false) (hn : ∀ i, i < 8 → (X.pods i).needs.length ≤ 8) (hd : neededOf X.pods node p = true) (he : X.entries.length ≤ 1000) (hE : newestOf X.entries p X.rev = E)
    (hO : ∀ (V : World), Low w.heap.size w V → Calls Tryd.prog 104 #[.pointer (some ⟨b, 0, none⟩), .int .i64 (i : Int), .agg #[.string E.path, .int .i64 E.rev, .int .i64 E.key, .int .i64 E.draw, .string E.sealed, .bool E.gone]] V fun e w' => e = .returned (.tuple #[.string A, .int .i64 C]) ∧ Low V.heap.size V w') :
    Calls Tryd.prog 121 #[.pointer (some ⟨b, 0, none⟩), .int .i64 (i : Int), .int .i64 node, .string p] w fun e w' => e = .returned (.tuple #[.string A, .int .i64 C]) ∧ Low w.heap.size w w' := by
  have HR := hid h
  have HA := hid ha
  have HS := hid hs
  have HB := hid (isNode_good hb)
  have HN := hid hn
  have HD := hid hd
  have HEN := hid hE
  have HO := hid hO
  have HE : Hid (readErr s = 0) := by show _ = _; unfold readErr; rw [hz]; rfl
  clear h hs hb hn hd ha hz hE hO
  go_enter Tryd.func121, Tryd.ntmps121
  go_upto_region 10 with (first | (go_at_call 74; refine (isServer_any _ _ HR.out).mono ?_; rw [HS.out]; rintro e y1 ⟨rfl, hy⟩; obtain rfl := hy.symm) | (go_at_call 119; refine (isNode_any _ _).mono ?_; rw [HB.out]; rintro e y1 ⟨rfl, hy⟩; obtain rfl := hy.symm) | (go_at_call 126; refine (isNeeded_any _ _ _ HR.out HN.out).mono ?_; rw [HD.out]; rintro e y1 ⟨rfl, l1⟩; have L1 := hid l1; clear l1) | (go_at_call 75; refine (mayRead_any _ _ _ (HR.out.low L1.out) HA.out).mono ?_; rw [HE.out]; rintro e y2 ⟨rfl, hy⟩; obtain rfl := hy.symm))
  have X1 : Hid (XIn y1 F b X) := HR.out.low L1.out
  have c0 := xin_rev X1.out
  go_wp2_with (first | (go_at_call 103; refine (newest_any _ _ _ X1.out he).mono ?_; rw [HEN.out]; rintro e y3 ⟨rfl, l3⟩; have L3 : Hid (Low w.heap.size w y3) := L1.out.trans (l3.mono L1.out.size); clear l3) | ((with_reducible refine st50 (.tmp 11) (.tmp 37) y3.heap.size Ent.zero E ?_ ?_ ?_ ?_); rfl; rfl; exact (Blk.new y3 69 Ent.zero.cells); intro W b2 k2 s2; have BM := hid b2; have LW : Hid (Low w.heap.size w W) := low_set (L3.out.alloc L3.out.size _) k2 L3.out.size (by have := L3.out.size; simp; omega); clear b2 k2 s2) | ((with_reducible refine ld50 (.tmp 11) y3.heap.size 0 E ?_ BM.out.whole ?_); rfl) | (go_at_call 104; refine (HO.out _ LW.out).mono ?_; rintro e y4 ⟨rfl, l4⟩; have L4 : Hid (Low w.heap.size w y4) := LW.out.trans (l4.mono LW.out.size); clear l4))
  go_ret2
  exact ⟨rfl, L4.out⟩
end Go.Proofs.YtphapknfkbgapaaDoor
namespace Go.Proofs.YtphapknfkbgapaaDoor
open Go.RowKit

/-! Meddling and pods: plain data. -/

variable {X : PS} {Y : RS} {n : Nat}
theorem kept_iff {all : List RKept} {e : Ent} : e ∈ keptOf all ↔ ∃ k ∈ all, k.out = false ∧ k.e = e := by
  unfold keptOf
  simp only [List.mem_map, List.mem_filter]
  constructor
  · rintro ⟨k, ⟨hk, ho⟩, rfl⟩; exact ⟨k, hk, by simpa using ho, rfl⟩
  · rintro ⟨k, hk, ho, rfl⟩; exact ⟨k, ⟨hk, by simp [ho]⟩, rfl⟩
theorem keptE_some {all : List RKept} (h : Revs all) {r : Nat} {k : RKept} (hk : all[r]? = some k) (ho : k.out = false) : keptE (keptOf all) ((r : Int) + 1) = k.e := by
  unfold keptE
  cases hf : (keptOf all).find? (fun e => e.rev == (r : Int) + 1) with
  | none =>
    have := List.find?_eq_none.1 hf k.e (kept_iff.2 ⟨k, List.mem_of_getElem? hk, ho, rfl⟩)
    rw [h r k hk] at this
    simp at this
  | some e =>
    have h1 := List.find?_some hf
    obtain ⟨k2, hk2, _, rfl⟩ := kept_iff.1 (List.mem_of_find?_eq_some hf)
    obtain ⟨i, hi⟩ := List.getElem?_of_mem hk2
    have h2 := h i k2 hi
    have h3 : k2.e.rev = (r : Int) + 1 := by simpa using h1
    obtain rfl : i = r := by omega
    obtain rfl : k2 = k := Option.some.inj (hi.symm.trans hk)
    rfl
theorem keptE_none {all : List RKept} (h : Revs all) {rev : Int} (hn : ∀ (r : Nat) (k : RKept), all[r]? = some k → k.out = false → rev ≠ (r : Int) + 1) : keptE (keptOf all) rev = Ent.zero := by
  unfold keptE
  cases hf : (keptOf all).find? (fun e => e.rev == rev) with
  | none => rfl
  | some e =>
    exfalso
    have h1 := List.find?_some hf
    obtain ⟨k2, hk2, ho, rfl⟩ := kept_iff.1 (List.mem_of_find?_eq_some hf)
    obtain ⟨i, hi⟩ := List.getElem?_of_mem hk2
    have h2 := h i k2 hi
    have h3 : k2.e.rev = rev := by simpa using h1
    exact hn i k2 hi ho (by omega)
theorem Keys2.ungate {ks : List PKey} {rs : List RKey} {ep t : Int} (h : Keys2 ks rs ep t) : Keys2 ks rs ep (if t == 3 then 2 else t) := by
  by_cases e : t = 3
  · subst e
    exact ⟨h.len, h.few, h.same, h.first, h.came, h.wr, fun i k hk hz => absurd (h.zero i k hk hz).2 (by decide), h.rise, fun q => (by cases q), h.fresh⟩
  · have : (t == 3) = false := by simpa using e
    rw [this]
    exact h
theorem rel_plant (h : Rel2 n X Y) (name : ByteArray) (hp : isPath name = true) {r : Nat} {k : RKept} (hk : Y.all[r]? = some k) (ho : k.out = false) (hg : k.e.gone = false) (hf : fullOf Y = false) : Rel2 (n + 1) (X.plant name k.e) (Y.plant name k) := by
  have hlen : ((keptOf Y.all).length : Int) < Y.room := by unfold fullOf at hf; simp at hf; exact hf
  have hrev : X.rev + 1 = (Y.all.length : Int) + 1 := by rw [h.rev]
  obtain ⟨p1, p2⟩ : 1 ≤ name.size ∧ name.size ≤ 16 := by
    unfold isPath at hp; simp at hp; omega
  have ht : (if X.turn == 3 then (2 : Int) else X.turn) = (if Y.turn == 3 then 2 else Y.turn) := by rw [h.turn]
  refine ⟨h.keys.ungate, h.live, ⟨h.ep.1, h.ep.2.1, h.ep.2.2.1, fun q => ?_⟩, h.write, ht, h.room, h.rooms, ?_, h.floor, h.floor0, h.up.draws, h.len, h.srv, ?_, ?_, ?_, ?_, ?_, ?_, h.pods⟩
  · replace q : (if Y.turn == 3 then (2 : Int) else Y.turn) = 1 := q
    refine h.ep.2.2.2 ?_
    by_cases e : (Y.turn == 3) = true
    · rw [if_pos e] at q; cases q
    · rw [if_neg e] at q; exact q
  · show X.rev + 1 = ((Y.all ++ [_]).length : Int)
    rw [h.rev, List.length_append]; rfl
  · show X.entries ++ [{ k.e with path := name, rev := X.rev + 1 }] = keptOf (Y.all ++ [⟨{ k.e with path := name, rev := (Y.all.length : Int) + 1 }, false⟩])
    rw [keptOf_snoc, h.ent, hrev]
    rfl
  · show ((X.entries ++ [{ k.e with path := name, rev := X.rev + 1 }]).length : Int) ≤ Y.room
    rw [h.ent, List.length_append]
    show (((keptOf Y.all).length + 1 : Nat) : Int) ≤ Y.room
    omega
  · exact revs_snoc h.revs ⟨{ k.e with path := name, rev := (Y.all.length : Int) + 1 }, false⟩ rfl
  · show ∀ q ∈ Y.all ++ [⟨{ k.e with path := name, rev := (Y.all.length : Int) + 1 }, false⟩], q.e.gone = false → EntOk q.e ∧ ∃ j K, q.e.key = ((j : Nat) : Int) + 1 ∧ Y.keys[j]? = some K ∧ (q.out = false → K.gone = false)
    intro q hq hqg
    rcases List.mem_append.1 hq with hq | hq
    · exact h.eok q hq hqg
    · obtain rfl := List.mem_singleton.1 hq
      obtain ⟨o1, j, K, o2, o3, o4⟩ := h.eok k (List.mem_of_getElem? hk) hg
      exact ⟨⟨⟨p1, p2⟩, o1.draw, o1.sealed⟩, j, K, o2, o3, fun _ => o4 ho⟩
  · show (Y.all ++ [_]).length ≤ n + 1
    rw [List.length_append]
    show Y.all.length + 1 ≤ n + 1
    have := h.all
    omega
  · intro q
    exfalso
    replace q : (if Y.turn == 3 then (2 : Int) else Y.turn) = 3 := q
    by_cases e : (Y.turn == 3) = true
    · rw [if_pos e] at q; cases q
    · rw [if_neg e] at q
      exact e (by rw [q]; rfl)
/-! Pods. -/
theorem pods_place {p : Nat → PPod} {node : List Int} {needs : List (ByteArray × ByteArray)} (h : Pods2 p node needs) {pod : Nat} (hp : pod < 8) (v : Int) : Pods2 (setPod p pod { p pod with node := v }) (node.set pod v) needs := by
  have hs : ∀ i, (setPod p pod { p pod with node := v } i).needs = (p i).needs := fun i => by
    unfold setPod
    split
    · rename_i e; rw [e]
    · rfl
  refine ⟨fun i hi => ?_, h.ok, fun i hi => by rw [hs]; exact h.same i hi, fun i hi => by rw [hs]; exact h.few i hi⟩
  by_cases e : i = pod
  · subst e
    rw [List.getElem?_set_self (List.getElem?_eq_some_iff.1 (h.node i hi)).1, setPod_same]
  · rw [List.getElem?_set_ne (fun q => e q.symm), setPod_ne e]
    exact h.node i hi
theorem digit_inj {i j : Nat} (hi : i < 8) (hj : j < 8) (h : digitOf i = digitOf j) : i = j := by
  rw [← podOf_digit i hi, ← podOf_digit j hj, h]
theorem mine_iff {pod : Nat} {q : ByteArray × ByteArray} : mineOf pod q = true ↔ q.1 = digitOf pod := by
  unfold mineOf
  constructor
  · intro h; exact toList_inj (by simpa using h)
  · intro h; rw [h]; simp
theorem mine_rest (l : List (ByteArray × ByteArray)) (pod : Nat) (name : ByteArray) : ((restOf l pod name).filter (mineOf pod)).map (·.2) = withoutOf ((l.filter (mineOf pod)).map (·.2)) name := by
  unfold restOf withoutOf
  induction l with
  | nil => rfl
  | cons q r ih =>
    cases h1 : mineOf pod q <;> cases h2 : (q.2.toList == name.toList) <;> simp [h1, h2] at ih ⊢ <;> exact ih
theorem other_rest (l : List (ByteArray × ByteArray)) {pod i : Nat} (name : ByteArray) (hp : pod < 8) (hi : i < 8) (hne : i ≠ pod) : (restOf l pod name).filter (mineOf i) = l.filter (mineOf i) := by
  unfold restOf
  rw [List.filter_filter]
  refine List.filter_congr (fun q _ => ?_)
  cases h1 : mineOf i q
  · rfl
  · have h2 : mineOf pod q = false := by
      cases h3 : mineOf pod q
      · rfl
      · exact absurd (digit_inj hi hp ((mine_iff.1 h1).symm.trans (mine_iff.1 h3))) hne
    rw [h2]; rfl
theorem others_same {p : Nat → PPod} {node : List Int} {needs : List (ByteArray × ByteArray)} (h : Pods2 p node needs) {pod : Nat} (hp : pod < 8) (name : ByteArray) : othersOf needs pod name = (withoutOf (p pod).needs name).length := by
  rw [h.same pod hp, ← mine_rest]
  unfold othersOf
  rw [List.length_map, List.countP_eq_length_filter]
theorem pods_refer {p : Nat → PPod} {node : List Int} {needs : List (ByteArray × ByteArray)} (h : Pods2 p node needs) {pod : Nat} (hp : pod < 8) (name : ByteArray) (on : Bool) (hf : (on && decide (8 ≤ othersOf needs pod name)) = false) :
    Pods2 (setPod p pod { p pod with needs := withoutOf (p pod).needs name ++ (if on then [name] else []) }) node (restOf needs pod name ++ (if on then [(digitOf pod, name)] else [])) := by
  have hmine : mineOf pod (digitOf pod, name) = true := mine_iff.2 rfl
  have e1 : ∀ i, i < 8 → ((restOf needs pod name ++ (if on then [(digitOf pod, name)] else [])).filter (mineOf i)).map (·.2) = if i = pod then withoutOf (p pod).needs name ++ (if on then [name] else []) else (p i).needs := by
    intro i hi
    rw [List.filter_append, List.map_append]
    by_cases e : i = pod
    · subst e
      rw [if_pos rfl, mine_rest, ← h.same i hi]
      cases on
      · rfl
      · simp [hmine]
    · rw [if_neg e, other_rest needs name hp hi e, ← h.same i hi]
      cases on
      · simp
      · have : mineOf i (digitOf pod, name) = false := by
          cases h3 : mineOf i (digitOf pod, name)
          · rfl
          · exact absurd (digit_inj hi hp (mine_iff.1 h3).symm) e
        simp [this]
  refine ⟨fun i hi => ?_, fun q hq => ?_, fun i hi => ?_, fun i hi => ?_⟩
  · by_cases e : i = pod
    · subst e; rw [setPod_same]; exact h.node i hi
    · rw [setPod_ne e]; exact h.node i hi
  · rcases List.mem_append.1 hq with hq | hq
    · exact h.ok q (List.mem_filter.1 hq).1
    · cases on
      · simp at hq
      · obtain rfl : q = (digitOf pod, name) := by simpa using hq
        exact ⟨pod, hp, rfl⟩
  · rw [e1 i hi]
    by_cases e : i = pod
    · subst e; rw [setPod_same, if_pos rfl]
    · rw [setPod_ne e, if_neg e]
  · by_cases e : i = pod
    · subst e
      rw [setPod_same]
      show (withoutOf (p i).needs name ++ (if on then [name] else [])).length ≤ 8
      have h1 : (withoutOf (p i).needs name).length ≤ (p i).needs.length := List.length_filter_le _ _
      have h2 := h.few i hi
      rw [List.length_append]
      cases on
      · simp; omega
      · rw [others_same h hi] at hf
        simp at hf
        simp
        omega
    · rw [setPod_ne e]; exact h.few i hi
theorem needs_count (l : List (ByteArray × ByteArray)) (h : ∀ q ∈ l, ∃ i, i < 8 ∧ q.1 = digitOf i) (hf : ∀ i, i < 8 → (l.filter (mineOf i)).length ≤ 8) : l.length ≤ 64 := by
  have key : ∀ l : List (ByteArray × ByteArray), (∀ q ∈ l, ∃ i, i < 8 ∧ q.1 = digitOf i) → l.length ≤ (l.filter (mineOf 0)).length + (l.filter (mineOf 1)).length + (l.filter (mineOf 2)).length + (l.filter (mineOf 3)).length + (l.filter (mineOf 4)).length + (l.filter (mineOf 5)).length + (l.filter (mineOf 6)).length + (l.filter (mineOf 7)).length := by
    intro l
    induction l with
    | nil => intro _; simp
    | cons q r ih =>
      intro hq
      have ih := ih (fun x hx => hq x (List.mem_cons_of_mem _ hx))
      obtain ⟨i, hi, e⟩ := hq q List.mem_cons_self
      have mono : ∀ j, (r.filter (mineOf j)).length ≤ ((q :: r).filter (mineOf j)).length := fun j => by
        rw [List.filter_cons]; split <;> simp
      have here : ((q :: r).filter (mineOf i)).length = (r.filter (mineOf i)).length + 1 := by
        rw [List.filter_cons, mine_iff.2 e]; simp
      have m0 := mono 0; have m1 := mono 1; have m2 := mono 2; have m3 := mono 3; have m4 := mono 4; have m5 := mono 5; have m6 := mono 6; have m7 := mono 7
      rw [List.length_cons]
      rcases eight hi with rfl | rfl | rfl | rfl | rfl | rfl | rfl | rfl <;> omega
  have k := key l h
  have h0 := hf 0 (by omega); have h1 := hf 1 (by omega); have h2 := hf 2 (by omega); have h3 := hf 3 (by omega); have h4 := hf 4 (by omega); have h5 := hf 5 (by omega); have h6 := hf 6 (by omega); have h7 := hf 7 (by omega)
  omega
theorem Pods2.small {p : Nat → PPod} {node : List Int} {needs : List (ByteArray × ByteArray)} (h : Pods2 p node needs) : needs.length ≤ 64 :=
  needs_count needs h.ok (fun i hi => by have := h.few i hi; rw [h.same i hi, List.length_map] at this; exact this)
theorem needed_same (h : Pods2 X.pods Y.node Y.needs) (node : Int) (name : ByteArray) : neededOf X.pods node name = allowedOf Y node name := by
  rw [Bool.eq_iff_iff]
  unfold neededOf allowedOf
  rw [List.any_eq_true, List.any_eq_true]
  constructor
  · rintro ⟨i, hi, hp⟩
    have hi8 : i < 8 := List.mem_range.1 hi
    unfold podNeeds at hp
    rw [Bool.and_eq_true, List.any_eq_true] at hp
    obtain ⟨h1, a, ha, h2⟩ := hp
    rw [h.same i hi8] at ha
    obtain ⟨q, hq, rfl⟩ := List.mem_map.1 ha
    obtain ⟨hq1, hq2⟩ := List.mem_filter.1 hq
    refine ⟨q, hq1, ?_⟩
    unfold wants
    rw [mine_iff.1 hq2, podOf_digit i hi8, h.node i hi8, Bool.and_eq_true]
    exact ⟨h1, h2⟩
  · rintro ⟨q, hq, hw⟩
    obtain ⟨i, hi8, e⟩ := h.ok q hq
    unfold wants at hw
    rw [e, podOf_digit i hi8, h.node i hi8, Bool.and_eq_true] at hw
    refine ⟨i, List.mem_range.2 hi8, ?_⟩
    unfold podNeeds
    rw [Bool.and_eq_true, List.any_eq_true]
    exact ⟨hw.1, q.2, by rw [h.same i hi8]; exact List.mem_map.2 ⟨q, List.mem_filter.2 ⟨hq, mine_iff.2 e⟩, rfl⟩, hw.2⟩
end Go.Proofs.YtphapknfkbgapaaDoor
