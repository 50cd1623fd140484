import Derived.Test.YtphapknfkbgapaaGreatDoorLawRToPY
import Derived.Test.YtphapknfkbgapaaGreatDoorPIToPK
import Derived.Test.YtphapknfkbgapaaGreatDoorTurKToPU
import Derived.Test.YtphapknfkbgapaaGreatDoorTelLOne
namespace Go.Proofs.YtphapknfkbgapaaGreatDoor
open Go.RowKit

variable {F : Nat → Prop} {b : Nat} {X : PS}
/-! Refer; who needs a path. -/
theorem isPath1_any (w : World) (p : ByteArray) (hp : p.size ≤ maxLen) : Calls Tryz.prog 93 #[.string p] w fun e w' => e = .returned (.bool (isPath p)) ∧ w' = w := pisPath_any w p hp
theorem pRefer_arg (w : World) (pod : Int) (name : ByteArray) (on : Bool) (hp : name.size ≤ maxLen) (h : badRefer pod name = true) :
    Calls Tryz.prog 53 #[.pointer (some ⟨b, 0, none⟩), .int .i64 pod, .string name, .bool on] w fun e w' => e = .returned (.int .i64 2) ∧ w' = w := by
  have HM := hid hp
  cases hq : isPodB pod
  · have HP := hid hq
    clear h hp
    go_enter Tryz.func53, Tryz.ntmps53
    go_wp2_with (go_at_call 96; refine (isPod_any _ _).mono ?_; rw [HP.out]; rintro e y1 ⟨rfl, hy⟩; obtain rfl := hy.symm)
    go_ret
    exact ⟨rfl, rfl⟩
  · have HP := hid hq
    have hn : isPath name = false := by
      unfold badRefer at h; unfold isPodB at hq
      cases hi : isPath name
      · rfl
      · rw [hi] at h; simp at h hq; omega
    have HN := hid hn
    clear h hp hn hq
    go_enter Tryz.func53, Tryz.ntmps53
    go_wp2_with (first | (go_at_call 96; refine (isPod_any _ _).mono ?_; rw [HP.out]; rintro e y1 ⟨rfl, hy⟩; obtain rfl := hy.symm) | (go_at_call 93; refine (isPath1_any _ _ HM.out).mono ?_; rw [HN.out]; rintro e y1 ⟨rfl, hy⟩; obtain rfl := hy.symm))
    go_ret
    exact ⟨rfl, rfl⟩
def PS.refer (X : PS) (pod : Nat) (name : ByteArray) (on : Bool) : PS := { X with pods := setPod X.pods pod { X.pods pod with needs := withoutOf (X.pods pod).needs name ++ (if on then [name] else []) } }
set_option maxRecDepth 100000 in
set_option maxHeartbeats 1000000 in
theorem pRefer_any (w : World) (pod : Nat) (name : ByteArray) (on : Bool) (h : XIn w F b X) (hn : (X.pods pod).needs.length ≤ 8) (hp : name.size ≤ maxLen) (hq : isPath name = true) (hpod : pod < 8) :
    Calls Tryz.prog 53 #[.pointer (some ⟨b, 0, none⟩), .int .i64 (pod : Int), .string name, .bool on] w fun e w' => ((on && decide (8 ≤ (withoutOf (X.pods pod).needs name).length)) = true ∧ e = .returned (.int .i64 16) ∧ Low w.heap.size w w') ∨
      ((on && decide (8 ≤ (withoutOf (X.pods pod).needs name).length)) = false ∧ e = .returned (.int .i64 0) ∧ XIn w' (grow F w w') b (X.refer pod name on) ∧ Kept F w w') := by
  have HP : Hid (isPodB (pod : Int) = true) := by show _ = _; unfold isPodB; simp; omega
  have HR := hid h
  have HM := hid hp
  have HQ := hid hq
  have H8 := hid hpod
  have HN := hid hn
  have HOF : Hid (11 + pod * 2 = 10 + pod * 2 + 1) := by show _ = _; omega
  obtain ⟨a, cap, hc, ht⟩ := xin_texts h hpod
  rw [HOF.out] at hc
  have HT := hid ht
  have lb := h.lt
  have il : (pod : Int) < 8 := by omega
  clear h hp hq hpod hn ht
  go_enter Tryz.func53, Tryz.ntmps53
  go_upto_region 4 with (first | (go_at_call 96; refine (isPod_any _ _).mono ?_; rw [HP.out]; rintro e y1 ⟨rfl, hy⟩; obtain rfl := hy.symm) | (go_at_call 93; refine (isPath1_any _ _ HM.out).mono ?_; rw [HQ.out]; rintro e y1 ⟨rfl, hy⟩; obtain rfl := hy.symm) | (go_at_call 97; refine (without_any _ a (X.pods pod).needs cap name (by have := HN.out; omega) HT.out).mono ?_; rintro e y1 ⟨v, rfl, l1, o1, b1⟩; obtain ⟨a1, cap1, rfl, _, _⟩ := ownsRow_view o1; have L1 := hid l1; have O1 := hid o1; have B1 := hid b1; clear l1 o1 b1))
  have XY := hid (HR.out.low L1.out)
  obtain ⟨a2, cap2, hc2, _⟩ := xin_texts XY.out H8.out
  rw [HOF.out] at hc2
  have f2 := XY.out.frozen (10 + pod * 2 + 1)
  have lb2 := XY.out.lt
  cases qo : on
  · go_wp2_with fail
    go_ret
    obtain ⟨r1, k1⟩ := xin_setNeeds HR.out H8.out L1.out O1.out B1.out
    rw [HOF.out] at r1 k1
    refine Or.inr ⟨by rw [qo]; rfl, rfl, ?_, k1⟩
    unfold PS.refer
    rw [qo, if_neg (by simp), List.append_nil]
    exact XIn.more r1 (fun k hk => hk.imp id (fun q => ⟨q.1, by simpa using q.2⟩)) (fun k hk => hk.elim (fun q => by have := HR.out.below k q; have := L1.out.size; simp; omega) (fun q => q.2))
  · obtain ⟨ot, hot⟩ : ∃ ot, ot = (withoutOf (X.pods pod).needs name).length := ⟨_, rfl⟩
    have HOT := hid hot
    have HO8 : Hid (ot ≤ 8) := by show _ ≤ _; rw [hot]; exact Nat.le_trans (without_le _ _) HN.out
    rw [← hot]
    rw [← hot] at O1
    rw [← hot] at B1
    clear hot
    cases q8 : decide (8 ≤ ot)
    · have q9 : decide ((8 : Int) ≤ (ot : Int)) = false := by simp at q8 ⊢; omega
      go_wp2_with (at_builtin; refine wpList_append_mine _ rfl (.tmp 31) (.tmp 33) 59 rfl 9 _ 1 16 Tryz.underlying59 info9 rfl (by omega) _ _ _ rfl (O1.out.alloc _) ⟨y1.heap.size, 0, none⟩ 1 1 (str name) rfl rfl (news_new y1 (str name) 9) (str_one name) ⟨by have := HO8.out; omega, by omega⟩ ?_; intro v' w1 o2 k2 p2; obtain ⟨a3, cap3, rfl, _, _⟩ := ownsRow_view o2; have LL := hid (append_low L1.out B1.out k2 p2); have X2 := hid (HR.out.low LL.out.1); obtain ⟨a4, cap4, hc4, _⟩ := xin_texts X2.out H8.out; rw [HOF.out] at hc4; have f4 := X2.out.frozen (10 + pod * 2 + 1); have lb4 := X2.out.lt; have O2 := hid o2; clear o2 k2 p2)
      go_ret
      have hO := O2.out
      have e1 : ot + 1 = (withoutOf (X.pods pod).needs name ++ [name]).length := by rw [HOT.out]; simp
      have e2 : (withoutOf (X.pods pod).needs name).flatMap str ++ str name = (withoutOf (X.pods pod).needs name ++ [name]).flatMap str := by rw [flat_snoc]
      rw [e1, e2] at hO
      obtain ⟨r1, k1⟩ := xin_setNeeds HR.out H8.out LL.out.1 hO (by rw [← e1]; exact LL.out.2)
      rw [HOF.out] at r1 k1
      refine Or.inr ⟨by rw [qo, ← HOT.out, q8]; rfl, rfl, ?_, ?_⟩
      · unfold PS.refer
        rw [qo, if_pos rfl, e1]
        exact XIn.more r1 (fun k hk => hk.imp id (fun q => ⟨q.1, by simpa using q.2⟩)) (fun k hk => hk.elim (fun q => by have := HR.out.below k q; have := LL.out.1.size; simp; omega) (fun q => q.2))
      · rw [e1]; exact k1
    · have q9 : decide ((8 : Int) ≤ (ot : Int)) = true := by simp at q8 ⊢; omega
      go_wp2_with fail
      go_ret
      exact Or.inl ⟨by rw [qo, ← HOT.out, q8]; rfl, rfl, L1.out⟩
set_option maxRecDepth 100000 in
set_option maxHeartbeats 1000000 in
theorem needsPath_any (w : World) (node : Int) (a : Option Addr) (l : List ByteArray) (cap : Nat) (p : ByteArray) (hl : l.length ≤ 1000) (ht : Texts w a l) :
    Calls Tryz.prog 106 #[.agg #[.int .i64 node, .slice a l.length cap], .string p] w fun e w' => e = .returned (.bool (l.any (fun q => q.toList == p.toList))) ∧ Low w.heap.size w w' := by
  have HT := hid ht
  have HL := hid hl
  clear ht hl
  go_enter Tryz.func106, Tryz.ntmps106
  go_wp2_with fail
  go_name_world W hW
  have BW : Hid (Blk W w.heap.size 61 [.int .i64 node, .slice a l.length cap]) := by
    show Blk W _ _ _
    rw [← hW]; exact Blk.new w 61 [.int .i64 node, .slice a l.length cap]
  have LW : Hid (Low w.heap.size w W) := by
    show Low _ _ _
    rw [← hW]; exact (Low.refl _ w).alloc (Nat.le_refl _) _
  have TW : Hid (Texts W a l) := by show Texts W a l; exact HT.out.low LW.out
  clear hW
  have c1 : W.cell? ⟨w.heap.size, 1, none⟩ = some (.slice a l.length cap) := BW.out.cell 1
  go_loopg [5] l.length (fun left iv wr => ∃ i : Nat, left = l.length - i ∧ i ≤ l.length ∧ iv = .int .i64 (i : Int) ∧ W = wr ∧ Hid ((l.take i).any (fun q => q.toList == p.toList) = false))
  case atStart => exact ⟨0, rfl, Nat.zero_le _, rfl, rfl, rfl⟩
  case round =>
    obtain ⟨i, hgk, hi, rfl, rfl, HI⟩ := hrel
    have HGK := hid hgk
    clear hgk
    by_cases h3 : i < l.length
    · have q3 : decide ((i : Int) < (l.length : Int)) = true := by simp; omega
      have il : (i : Int) < (l.length : Int) := by omega
      obtain ⟨q, hq⟩ : ∃ q, l[i]? = some q := ⟨_, List.getElem?_eq_getElem h3⟩
      obtain ⟨g, rfl, hg, hc⟩ := TW.out i q hq
      have HTK := hid (any_snoc l i q (fun q => q.toList == p.toList) hq)
      have HM := hid (List.mem_of_getElem? hq)
      clear hq
      cases qn : (q.toList == p.toList)
      · go_wp2_with fail
        go_roundg (l.length - (i + 1))
        case rel => exact ⟨i + 1, rfl, by omega, by have := HL.out; simp; unfold wrap64; omega, rfl, by show _ = _; rw [HTK.out, HI.out, qn]; rfl⟩
        case measure => have := HGK.out; omega
      · go_wp2_with fail
        go_ret
        refine ⟨?_, LW.out⟩
        have : l.any (fun q => q.toList == p.toList) = true := List.any_eq_true.2 ⟨q, HM.out, qn⟩
        rw [this]; rfl
    · have q3 : decide ((i : Int) < (l.length : Int)) = false := by simp; omega
      have HTK : Hid (l.take i = l) := List.take_of_length_le (by omega)
      go_wp2_with fail
      go_ret
      refine ⟨?_, LW.out⟩
      have := HI.out
      rw [HTK.out] at this
      rw [this]; rfl
/-- A pod on a node needs a path. -/
def podNeeds (p : PPod) (node : Int) (name : ByteArray) : Bool := (p.node == node) && p.needs.any (fun q => q.toList == name.toList)
def neededOf (p : Nat → PPod) (node : Int) (name : ByteArray) : Bool := (List.range 8).any (fun i => podNeeds (p i) node name)
def neededTo (p : Nat → PPod) (node : Int) (name : ByteArray) (i : Nat) : Bool := (List.range i).any (fun i => podNeeds (p i) node name)
theorem neededTo_snoc (p : Nat → PPod) (node : Int) (name : ByteArray) (i : Nat) : neededTo p node name (i + 1) = (neededTo p node name i || podNeeds (p i) node name) := by
  unfold neededTo
  rw [List.range_succ, List.any_append]
  simp
set_option maxRecDepth 100000 in
set_option maxHeartbeats 1000000 in
theorem isNeeded_any (w : World) (node : Int) (p : ByteArray) (h : XIn w F b X) (hn : ∀ i, i < 8 → (X.pods i).needs.length ≤ 8) :
    Calls Tryz.prog 77 #[.pointer (some ⟨b, 0, none⟩), .int .i64 node, .string p] w fun e w' => e = .returned (.bool (neededOf X.pods node p)) ∧ Low w.heap.size w w' := by
  have HR := hid h
  have HN := hid hn
  clear h hn
  go_enter Tryz.func77, Tryz.ntmps77
  go_wp2_with fail
  go_loopg [7] 8 (fun left iv wr => ∃ i : Nat, left = 8 - i ∧ i ≤ 8 ∧ iv = .int .i64 (i : Int) ∧ Hid (Low w.heap.size w wr) ∧ Hid (neededTo X.pods node p i = false))
  case atStart => exact ⟨0, rfl, Nat.zero_le _, rfl, Low.refl _ _, rfl⟩
  case round =>
    obtain ⟨i, hgk, hi, rfl, HLW, HI⟩ := hrel
    have HGK := hid hgk
    clear hgk
    by_cases h3 : i < 8
    · have q3 : decide ((i : Int) < 8) = true := by simp; omega
      have il : (i : Int) < 8 := by omega
      have XW : Hid (XIn wr F b X) := HR.out.low HLW.out
      have c0 := xin_node XW.out h3
      obtain ⟨a, cap, c1, ht⟩ := xin_texts XW.out h3
      have c1' : wr.cell? ⟨b, 10 + i * 2 + 1, none⟩ = some (.slice a (X.pods i).needs.length cap) := by rw [show 10 + i * 2 + 1 = 11 + i * 2 by omega]; exact c1
      have HT := hid ht
      have lb := XW.out.lt
      have HS := hid (neededTo_snoc X.pods node p i)
      have H3 := hid h3
      obtain ⟨an, han⟩ : ∃ an, an = (X.pods i).needs.any (fun q => q.toList == p.toList) := ⟨_, rfl⟩
      have HAN := hid han
      clear ht han c1
      cases qn : ((X.pods i).node == node)
      · go_wp2_with fail
        go_roundg (8 - (i + 1))
        case rel => exact ⟨i + 1, rfl, by omega, by simp, HLW.out, by show _ = _; rw [HS.out, HI.out]; unfold podNeeds; rw [qn]; rfl⟩
        case measure => have := HGK.out; omega
      · cases qa : an
        · go_wp2_with (go_at_call 106; refine (needsPath_any _ (X.pods i).node a (X.pods i).needs cap p (by have := HN.out i H3.out; omega) HT.out).mono ?_; rw [← HAN.out]; rintro e y1 ⟨rfl, l1⟩; have L1 : Hid (Low w.heap.size w y1) := HLW.out.trans (l1.mono HLW.out.size); clear l1)
          go_roundg (8 - (i + 1))
          case rel => exact ⟨i + 1, rfl, by omega, by simp, L1.out, by show _ = _; rw [HS.out, HI.out]; unfold podNeeds; rw [qn, ← HAN.out, qa]; rfl⟩
          case measure => have := HGK.out; omega
        · go_wp2_with (go_at_call 106; refine (needsPath_any _ (X.pods i).node a (X.pods i).needs cap p (by have := HN.out i H3.out; omega) HT.out).mono ?_; rw [← HAN.out]; rintro e y1 ⟨rfl, l1⟩; have L1 : Hid (Low w.heap.size w y1) := HLW.out.trans (l1.mono HLW.out.size); clear l1)
          go_ret
          refine ⟨?_, L1.out⟩
          have : neededOf X.pods node p = true := List.any_eq_true.2 ⟨i, List.mem_range.2 H3.out, by unfold podNeeds; rw [qn, ← HAN.out, qa]; rfl⟩
          rw [this]; rfl
    · have q3 : decide ((i : Int) < 8) = false := by simp; omega
      obtain rfl : i = 8 := by omega
      go_wp2_with fail
      go_ret
      refine ⟨?_, HLW.out⟩
      have := HI.out
      unfold neededTo at this
      unfold neededOf
      rw [this]; rfl
end Go.Proofs.YtphapknfkbgapaaGreatDoor
namespace Go.Proofs.YtphapknfkbgapaaGreatDoor
open Go.RowKit

variable {F : Nat → Prop} {b : Nat} {X : PS}
/-! Fetch. -/
theorem isNode_bad {node : Int} (h : badNode node = true) : isNodeB node = false := by
  unfold badNode at h; unfold isNodeB
  rw [Bool.and_eq_false_iff]
  simp at h ⊢
  omega
theorem isNode_good {node : Int} (h : badNode node = false) : isNodeB node = true := by
  unfold badNode at h; unfold isNodeB
  simp at h ⊢
  omega
theorem pFetch_srv (w : World) (s node : Int) (p : ByteArray) (h : XIn w F b X) (hs : isSrv X.servers.length s = false) :
    Calls Tryz.prog 35 #[.pointer (some ⟨b, 0, none⟩), .int .i64 s, .int .i64 node, .string p] w fun e w' => e = .returned (.tuple #[.string ⟨#[]⟩, .int .i64 4]) ∧ w' = w := by
  have HR := hid h
  have HS := hid hs
  clear h hs
  go_enter Tryz.func35, Tryz.ntmps35
  go_wp2_with (go_at_call 60; refine (isServer_any _ _ HR.out).mono ?_; rw [HS.out]; rintro e y1 ⟨rfl, hy⟩; obtain rfl := hy.symm)
  go_ret2
  exact ⟨rfl, rfl⟩
theorem pFetch_arg (w : World) (s node : Int) (p : ByteArray) (h : XIn w F b X) (hs : isSrv X.servers.length s = true) (hb : badNode node = true) :
    Calls Tryz.prog 35 #[.pointer (some ⟨b, 0, none⟩), .int .i64 s, .int .i64 node, .string p] w fun e w' => e = .returned (.tuple #[.string ⟨#[]⟩, .int .i64 2]) ∧ w' = w := by
  have HR := hid h
  have HS := hid hs
  have HB := hid (isNode_bad hb)
  clear h hs hb
  go_enter Tryz.func35, Tryz.ntmps35
  go_wp2_with (first | (go_at_call 60; refine (isServer_any _ _ HR.out).mono ?_; rw [HS.out]; rintro e y1 ⟨rfl, hy⟩; obtain rfl := hy.symm) | (go_at_call 76; refine (isNode_any _ _).mono ?_; rw [HB.out]; rintro e y1 ⟨rfl, hy⟩; obtain rfl := hy.symm))
  go_ret2
  exact ⟨rfl, rfl⟩
theorem pFetch_denied (w : World) (s node : Int) (p : ByteArray) (h : XIn w F b X) (hs : isSrv X.servers.length s = true) (hb : badNode node = false) (hn : ∀ i, i < 8 → (X.pods i).needs.length ≤ 8) (hd : neededOf X.pods node p = false) :
    Calls Tryz.prog 35 #[.pointer (some ⟨b, 0, none⟩), .int .i64 s, .int .i64 node, .string p] w fun e w' => e = .returned (.tuple #[.string ⟨#[]⟩, .int .i64 21]) ∧ Low w.heap.size w w' := by
  have HR := hid h
  have HS := hid hs
  have HB := hid (isNode_good hb)
  have HN := hid hn
  have HD := hid hd
  clear h hs hb hn hd
  go_enter Tryz.func35, Tryz.ntmps35
  go_wp2_with (first | (go_at_call 60; refine (isServer_any _ _ HR.out).mono ?_; rw [HS.out]; rintro e y1 ⟨rfl, hy⟩; obtain rfl := hy.symm) | (go_at_call 76; refine (isNode_any _ _).mono ?_; rw [HB.out]; rintro e y1 ⟨rfl, hy⟩; obtain rfl := hy.symm) | (go_at_call 77; refine (isNeeded_any _ _ _ HR.out HN.out).mono ?_; rw [HD.out]; rintro e y1 ⟨rfl, l1⟩; have L1 := hid l1; clear l1))
  go_ret2
  exact ⟨rfl, L1.out⟩
theorem pFetch_blind (w : World) (i : Nat) (s : PSrv) (node : Int) (p : ByteArray) (h : XIn w F b X) (ha : X.servers[i]? = some s) (hs : isSrv X.servers.length (i : Int) = true) (hz : (s.seen == 0) = true) (hb : badNode node = false) (hn : ∀ i, i < 8 → (X.pods i).needs.length ≤ 8) (hd : neededOf X.pods node p = true) :
    Calls Tryz.prog 35 #[.pointer (some ⟨b, 0, none⟩), .int .i64 (i : Int), .int .i64 node, .string p] w fun e w' => e = .returned (.tuple #[.string ⟨#[]⟩, .int .i64 6]) ∧ Low w.heap.size w w' := by
  have HR := hid h
  have HA := hid ha
  have HS := hid hs
  have HB := hid (isNode_good hb)
  have HN := hid hn
  have HD := hid hd
  have HE : Hid (readErr s = 6) := by show _ = _; unfold readErr; rw [hz]; rfl
  clear h hs hb hn hd ha hz
  go_enter Tryz.func35, Tryz.ntmps35
  go_wp2_with (first | (go_at_call 60; refine (isServer_any _ _ HR.out).mono ?_; rw [HS.out]; rintro e y1 ⟨rfl, hy⟩; obtain rfl := hy.symm) | (go_at_call 76; refine (isNode_any _ _).mono ?_; rw [HB.out]; rintro e y1 ⟨rfl, hy⟩; obtain rfl := hy.symm) | (go_at_call 77; refine (isNeeded_any _ _ _ HR.out HN.out).mono ?_; rw [HD.out]; rintro e y1 ⟨rfl, l1⟩; have L1 := hid l1; clear l1) | (go_at_call 73; refine (mayRead_any _ _ _ (HR.out.low L1.out) HA.out).mono ?_; rw [HE.out]; rintro e y2 ⟨rfl, hy⟩; obtain rfl := hy.symm))
  go_ret2
  exact ⟨rfl, L1.out⟩
set_option maxRecDepth 100000 in
set_option maxHeartbeats 1000000 in
theorem pFetch_ok (w : World) (i : Nat) (s : PSrv) (node : Int) (p : ByteArray) (E : Ent) (A : ByteArray) (C : Int) (h : XIn w F b X) (ha : X.servers[i]? = some s) (hs : isSrv X.servers.length (i : Int) = true) (hz : (s.seen == 0) = false) (hb : badNode node = false) (hn : ∀ i, i < 8 → (X.pods i).needs.length ≤ 8) (hd : neededOf X.pods node p = true) (he : X.entries.length ≤ 1000) (hE : newestOf X.entries p X.rev = E)
    (hO : ∀ (V : World), Low w.heap.size w V → Calls Tryz.prog 79 #[.pointer (some ⟨b, 0, none⟩), .int .i64 (i : Int), .agg #[.string E.path, .int .i64 E.rev, .int .i64 E.key, .int .i64 E.draw, .string E.sealed, .bool E.gone]] V fun e w' => e = .returned (.tuple #[.string A, .int .i64 C]) ∧ Low V.heap.size V w') :
    Calls Tryz.prog 35 #[.pointer (some ⟨b, 0, none⟩), .int .i64 (i : Int), .int .i64 node, .string p] w fun e w' => e = .returned (.tuple #[.string A, .int .i64 C]) ∧ Low w.heap.size w w' := by
  have HR := hid h
  have HA := hid ha
  have HS := hid hs
  have HB := hid (isNode_good hb)
  have HN := hid hn
  have HD := hid hd
  have HEN := hid hE
  have HO := hid hO
  have HE : Hid (readErr s = 0) := by show _ = _; unfold readErr; rw [hz]; rfl
  clear h hs hb hn hd ha hz hE hO
  go_enter Tryz.func35, Tryz.ntmps35
  go_upto_region 10 with (first | (go_at_call 60; refine (isServer_any _ _ HR.out).mono ?_; rw [HS.out]; rintro e y1 ⟨rfl, hy⟩; obtain rfl := hy.symm) | (go_at_call 76; refine (isNode_any _ _).mono ?_; rw [HB.out]; rintro e y1 ⟨rfl, hy⟩; obtain rfl := hy.symm) | (go_at_call 77; refine (isNeeded_any _ _ _ HR.out HN.out).mono ?_; rw [HD.out]; rintro e y1 ⟨rfl, l1⟩; have L1 := hid l1; clear l1) | (go_at_call 73; refine (mayRead_any _ _ _ (HR.out.low L1.out) HA.out).mono ?_; rw [HE.out]; rintro e y2 ⟨rfl, hy⟩; obtain rfl := hy.symm))
  have X1 : Hid (XIn y1 F b X) := HR.out.low L1.out
  have c0 := xin_rev X1.out
  go_wp2_with (first | (go_at_call 78; refine (newest_any _ _ _ X1.out he).mono ?_; rw [HEN.out]; rintro e y3 ⟨rfl, l3⟩; have L3 : Hid (Low w.heap.size w y3) := L1.out.trans (l3.mono L1.out.size); clear l3) | ((with_reducible refine st50 (.tmp 11) (.tmp 37) y3.heap.size Ent.zero E ?_ ?_ ?_ ?_); rfl; rfl; exact (Blk.new y3 50 Ent.zero.cells); intro W b2 k2 s2; have BM := hid b2; have LW : Hid (Low w.heap.size w W) := low_set (L3.out.alloc L3.out.size _) k2 L3.out.size (by have := L3.out.size; simp; omega); clear b2 k2 s2) | ((with_reducible refine ld50 (.tmp 11) y3.heap.size 0 E ?_ BM.out.whole ?_); rfl) | (go_at_call 79; refine (HO.out _ LW.out).mono ?_; rintro e y4 ⟨rfl, l4⟩; have L4 : Hid (Low w.heap.size w y4) := LW.out.trans (l4.mono LW.out.size); clear l4))
  go_ret2
  exact ⟨rfl, L4.out⟩
end Go.Proofs.YtphapknfkbgapaaGreatDoor
namespace Go.Proofs.YtphapknfkbgapaaGreatDoor
open Go.RowKit

/-! Meddling and pods: plain data. -/

variable {X : PS} {Y : RS} {n : Nat}
theorem kept_iff {all : List RKept} {e : Ent} : e ∈ keptOf all ↔ ∃ k ∈ all, k.out = false ∧ k.e = e := by
  unfold keptOf
  simp only [List.mem_map, List.mem_filter]
  constructor
  · rintro ⟨k, ⟨hk, ho⟩, rfl⟩; exact ⟨k, hk, by simpa using ho, rfl⟩
  · rintro ⟨k, hk, ho, rfl⟩; exact ⟨k, ⟨hk, by simp [ho]⟩, rfl⟩
theorem keptE_some {all : List RKept} (h : Revs all) {r : Nat} {k : RKept} (hk : all[r]? = some k) (ho : k.out = false) : keptE (keptOf all) ((r : Int) + 1) = k.e := by
  unfold keptE
  cases hf : (keptOf all).find? (fun e => e.rev == (r : Int) + 1) with
  | none =>
    have := List.find?_eq_none.1 hf k.e (kept_iff.2 ⟨k, List.mem_of_getElem? hk, ho, rfl⟩)
    rw [h r k hk] at this
    simp at this
  | some e =>
    have h1 := List.find?_some hf
    obtain ⟨k2, hk2, _, rfl⟩ := kept_iff.1 (List.mem_of_find?_eq_some hf)
    obtain ⟨i, hi⟩ := List.getElem?_of_mem hk2
    have h2 := h i k2 hi
    have h3 : k2.e.rev = (r : Int) + 1 := by simpa using h1
    obtain rfl : i = r := by omega
    obtain rfl : k2 = k := Option.some.inj (hi.symm.trans hk)
    rfl
theorem keptE_none {all : List RKept} (h : Revs all) {rev : Int} (hn : ∀ (r : Nat) (k : RKept), all[r]? = some k → k.out = false → rev ≠ (r : Int) + 1) : keptE (keptOf all) rev = Ent.zero := by
  unfold keptE
  cases hf : (keptOf all).find? (fun e => e.rev == rev) with
  | none => rfl
  | some e =>
    exfalso
    have h1 := List.find?_some hf
    obtain ⟨k2, hk2, ho, rfl⟩ := kept_iff.1 (List.mem_of_find?_eq_some hf)
    obtain ⟨i, hi⟩ := List.getElem?_of_mem hk2
    have h2 := h i k2 hi
    have h3 : k2.e.rev = rev := by simpa using h1
    exact hn i k2 hi ho (by omega)
theorem Keys2.ungate {ks : List PKey} {rs : List RKey} {ep t : Int} (h : Keys2 ks rs ep t) : Keys2 ks rs ep (if t == 3 then 2 else t) := by
  by_cases e : t = 3
  · subst e
    exact ⟨h.len, h.few, h.same, h.first, h.came, h.wr, fun i k hk hz => absurd (h.zero i k hk hz).2 (by decide), h.rise, fun q => (by cases q), h.fresh⟩
  · have : (t == 3) = false := by simpa using e
    rw [this]
    exact h
theorem rel_plant (h : Rel2 n X Y) (name : ByteArray) (hp : isPath name = true) {r : Nat} {k : RKept} (hk : Y.all[r]? = some k) (ho : k.out = false) (hg : k.e.gone = false) (hf : fullOf Y = false) : Rel2 (n + 1) (X.plant name k.e) (Y.plant name k) := by
  have hlen : ((keptOf Y.all).length : Int) < Y.room := by unfold fullOf at hf; simp at hf; exact hf
  have hrev : X.rev + 1 = (Y.all.length : Int) + 1 := by rw [h.rev]
  obtain ⟨p1, p2⟩ : 1 ≤ name.size ∧ name.size ≤ 16 := by
    unfold isPath at hp; simp at hp; omega
  have ht : (if X.turn == 3 then (2 : Int) else X.turn) = (if Y.turn == 3 then 2 else Y.turn) := by rw [h.turn]
  refine ⟨h.keys.ungate, h.live, ⟨h.ep.1, h.ep.2.1, h.ep.2.2.1, fun q => ?_⟩, h.write, ht, h.room, h.rooms, ?_, h.floor, h.floor0, h.up.draws, h.len, h.srv, ?_, ?_, ?_, ?_, ?_, ?_, h.pods⟩
  · replace q : (if Y.turn == 3 then (2 : Int) else Y.turn) = 1 := q
    refine h.ep.2.2.2 ?_
    by_cases e : (Y.turn == 3) = true
    · rw [if_pos e] at q; cases q
    · rw [if_neg e] at q; exact q
  · show X.rev + 1 = ((Y.all ++ [_]).length : Int)
    rw [h.rev, List.length_append]; rfl
  · show X.entries ++ [{ k.e with path := name, rev := X.rev + 1 }] = keptOf (Y.all ++ [⟨{ k.e with path := name, rev := (Y.all.length : Int) + 1 }, false⟩])
    rw [keptOf_snoc, h.ent, hrev]
    rfl
  · show ((X.entries ++ [{ k.e with path := name, rev := X.rev + 1 }]).length : Int) ≤ Y.room
    rw [h.ent, List.length_append]
    show (((keptOf Y.all).length + 1 : Nat) : Int) ≤ Y.room
    omega
  · exact revs_snoc h.revs ⟨{ k.e with path := name, rev := (Y.all.length : Int) + 1 }, false⟩ rfl
  · show ∀ q ∈ Y.all ++ [⟨{ k.e with path := name, rev := (Y.all.length : Int) + 1 }, false⟩], q.e.gone = false → EntOk q.e ∧ ∃ j K, q.e.key = ((j : Nat) : Int) + 1 ∧ Y.keys[j]? = some K ∧ (q.out = false → K.gone = false)
    intro q hq hqg
    rcases List.mem_append.1 hq with hq | hq
    · exact h.eok q hq hqg
    · obtain rfl := List.mem_singleton.1 hq
      obtain ⟨o1, j, K, o2, o3, o4⟩ := h.eok k (List.mem_of_getElem? hk) hg
      exact ⟨⟨⟨p1, p2⟩, o1.draw, o1.sealed⟩, j, K, o2, o3, fun _ => o4 ho⟩
  · show (Y.all ++ [_]).length ≤ n + 1
    rw [List.length_append]
    show Y.all.length + 1 ≤ n + 1
    have := h.all
    omega
  · intro q
    exfalso
    replace q : (if Y.turn == 3 then (2 : Int) else Y.turn) = 3 := q
    by_cases e : (Y.turn == 3) = true
    · rw [if_pos e] at q; cases q
    · rw [if_neg e] at q
      exact e (by rw [q]; rfl)
/-! Pods. -/
theorem pods_place {p : Nat → PPod} {node : List Int} {needs : List (ByteArray × ByteArray)} (h : Pods2 p node needs) {pod : Nat} (hp : pod < 8) (v : Int) : Pods2 (setPod p pod { p pod with node := v }) (node.set pod v) needs := by
  have hs : ∀ i, (setPod p pod { p pod with node := v } i).needs = (p i).needs := fun i => by
    unfold setPod
    split
    · rename_i e; rw [e]
    · rfl
  refine ⟨fun i hi => ?_, h.ok, fun i hi => by rw [hs]; exact h.same i hi, fun i hi => by rw [hs]; exact h.few i hi⟩
  by_cases e : i = pod
  · subst e
    rw [List.getElem?_set_self (List.getElem?_eq_some_iff.1 (h.node i hi)).1, setPod_same]
  · rw [List.getElem?_set_ne (fun q => e q.symm), setPod_ne e]
    exact h.node i hi
theorem digit_inj {i j : Nat} (hi : i < 8) (hj : j < 8) (h : digitOf i = digitOf j) : i = j := by
  rw [← podOf_digit i hi, ← podOf_digit j hj, h]
theorem mine_iff {pod : Nat} {q : ByteArray × ByteArray} : mineOf pod q = true ↔ q.1 = digitOf pod := by
  unfold mineOf
  constructor
  · intro h; exact toList_inj (by simpa using h)
  · intro h; rw [h]; simp
theorem mine_rest (l : List (ByteArray × ByteArray)) (pod : Nat) (name : ByteArray) : ((restOf l pod name).filter (mineOf pod)).map (·.2) = withoutOf ((l.filter (mineOf pod)).map (·.2)) name := by
  unfold restOf withoutOf
  induction l with
  | nil => rfl
  | cons q r ih =>
    cases h1 : mineOf pod q <;> cases h2 : (q.2.toList == name.toList) <;> simp [h1, h2] at ih ⊢ <;> exact ih
theorem other_rest (l : List (ByteArray × ByteArray)) {pod i : Nat} (name : ByteArray) (hp : pod < 8) (hi : i < 8) (hne : i ≠ pod) : (restOf l pod name).filter (mineOf i) = l.filter (mineOf i) := by
  unfold restOf
  rw [List.filter_filter]
  refine List.filter_congr (fun q _ => ?_)
  cases h1 : mineOf i q
  · rfl
  · have h2 : mineOf pod q = false := by
      cases h3 : mineOf pod q
      · rfl
      · exact absurd (digit_inj hi hp ((mine_iff.1 h1).symm.trans (mine_iff.1 h3))) hne
    rw [h2]; rfl
theorem others_same {p : Nat → PPod} {node : List Int} {needs : List (ByteArray × ByteArray)} (h : Pods2 p node needs) {pod : Nat} (hp : pod < 8) (name : ByteArray) : othersOf needs pod name = (withoutOf (p pod).needs name).length := by
  rw [h.same pod hp, ← mine_rest]
  unfold othersOf
  rw [List.length_map, List.countP_eq_length_filter]
theorem pods_refer {p : Nat → PPod} {node : List Int} {needs : List (ByteArray × ByteArray)} (h : Pods2 p node needs) {pod : Nat} (hp : pod < 8) (name : ByteArray) (on : Bool) (hf : (on && decide (8 ≤ othersOf needs pod name)) = false) :
    Pods2 (setPod p pod { p pod with needs := withoutOf (p pod).needs name ++ (if on then [name] else []) }) node (restOf needs pod name ++ (if on then [(digitOf pod, name)] else [])) := by
  have hmine : mineOf pod (digitOf pod, name) = true := mine_iff.2 rfl
  have e1 : ∀ i, i < 8 → ((restOf needs pod name ++ (if on then [(digitOf pod, name)] else [])).filter (mineOf i)).map (·.2) = if i = pod then withoutOf (p pod).needs name ++ (if on then [name] else []) else (p i).needs := by
    intro i hi
    rw [List.filter_append, List.map_append]
    by_cases e : i = pod
    · subst e
      rw [if_pos rfl, mine_rest, ← h.same i hi]
      cases on
      · rfl
      · simp [hmine]
    · rw [if_neg e, other_rest needs name hp hi e, ← h.same i hi]
      cases on
      · simp
      · have : mineOf i (digitOf pod, name) = false := by
          cases h3 : mineOf i (digitOf pod, name)
          · rfl
          · exact absurd (digit_inj hi hp (mine_iff.1 h3).symm) e
        simp [this]
  refine ⟨fun i hi => ?_, fun q hq => ?_, fun i hi => ?_, fun i hi => ?_⟩
  · by_cases e : i = pod
    · subst e; rw [setPod_same]; exact h.node i hi
    · rw [setPod_ne e]; exact h.node i hi
  · rcases List.mem_append.1 hq with hq | hq
    · exact h.ok q (List.mem_filter.1 hq).1
    · cases on
      · simp at hq
      · obtain rfl : q = (digitOf pod, name) := by simpa using hq
        exact ⟨pod, hp, rfl⟩
  · rw [e1 i hi]
    by_cases e : i = pod
    · subst e; rw [setPod_same, if_pos rfl]
    · rw [setPod_ne e, if_neg e]
  · by_cases e : i = pod
    · subst e
      rw [setPod_same]
      show (withoutOf (p i).needs name ++ (if on then [name] else [])).length ≤ 8
      have h1 : (withoutOf (p i).needs name).length ≤ (p i).needs.length := List.length_filter_le _ _
      have h2 := h.few i hi
      rw [List.length_append]
      cases on
      · simp; omega
      · rw [others_same h hi] at hf
        simp at hf
        simp
        omega
    · rw [setPod_ne e]; exact h.few i hi
theorem needs_count (l : List (ByteArray × ByteArray)) (h : ∀ q ∈ l, ∃ i, i < 8 ∧ q.1 = digitOf i) (hf : ∀ i, i < 8 → (l.filter (mineOf i)).length ≤ 8) : l.length ≤ 64 := by
  have key : ∀ l : List (ByteArray × ByteArray), (∀ q ∈ l, ∃ i, i < 8 ∧ q.1 = digitOf i) → l.length ≤ (l.filter (mineOf 0)).length + (l.filter (mineOf 1)).length + (l.filter (mineOf 2)).length + (l.filter (mineOf 3)).length + (l.filter (mineOf 4)).length + (l.filter (mineOf 5)).length + (l.filter (mineOf 6)).length + (l.filter (mineOf 7)).length := by
    intro l
    induction l with
    | nil => intro _; simp
    | cons q r ih =>
      intro hq
      have ih := ih (fun x hx => hq x (List.mem_cons_of_mem _ hx))
      obtain ⟨i, hi, e⟩ := hq q List.mem_cons_self
      have mono : ∀ j, (r.filter (mineOf j)).length ≤ ((q :: r).filter (mineOf j)).length := fun j => by
        rw [List.filter_cons]; split <;> simp
      have here : ((q :: r).filter (mineOf i)).length = (r.filter (mineOf i)).length + 1 := by
        rw [List.filter_cons, mine_iff.2 e]; simp
      have m0 := mono 0; have m1 := mono 1; have m2 := mono 2; have m3 := mono 3; have m4 := mono 4; have m5 := mono 5; have m6 := mono 6; have m7 := mono 7
      rw [List.length_cons]
      rcases eight hi with rfl | rfl | rfl | rfl | rfl | rfl | rfl | rfl <;> omega
  have k := key l h
  have h0 := hf 0 (by omega); have h1 := hf 1 (by omega); have h2 := hf 2 (by omega); have h3 := hf 3 (by omega); have h4 := hf 4 (by omega); have h5 := hf 5 (by omega); have h6 := hf 6 (by omega); have h7 := hf 7 (by omega)
  omega
theorem Pods2.small {p : Nat → PPod} {node : List Int} {needs : List (ByteArray × ByteArray)} (h : Pods2 p node needs) : needs.length ≤ 64 :=
  needs_count needs h.ok (fun i hi => by have := h.few i hi; rw [h.same i hi, List.length_map] at this; exact this)
theorem needed_same (h : Pods2 X.pods Y.node Y.needs) (node : Int) (name : ByteArray) : neededOf X.pods node name = allowedOf Y node name := by
  rw [Bool.eq_iff_iff]
  unfold neededOf allowedOf
  rw [List.any_eq_true, List.any_eq_true]
  constructor
  · rintro ⟨i, hi, hp⟩
    have hi8 : i < 8 := List.mem_range.1 hi
    unfold podNeeds at hp
    rw [Bool.and_eq_true, List.any_eq_true] at hp
    obtain ⟨h1, a, ha, h2⟩ := hp
    rw [h.same i hi8] at ha
    obtain ⟨q, hq, rfl⟩ := List.mem_map.1 ha
    obtain ⟨hq1, hq2⟩ := List.mem_filter.1 hq
    refine ⟨q, hq1, ?_⟩
    unfold wants
    rw [mine_iff.1 hq2, podOf_digit i hi8, h.node i hi8, Bool.and_eq_true]
    exact ⟨h1, h2⟩
  · rintro ⟨q, hq, hw⟩
    obtain ⟨i, hi8, e⟩ := h.ok q hq
    unfold wants at hw
    rw [e, podOf_digit i hi8, h.node i hi8, Bool.and_eq_true] at hw
    refine ⟨i, List.mem_range.2 hi8, ?_⟩
    unfold podNeeds
    rw [Bool.and_eq_true, List.any_eq_true]
    exact ⟨hw.1, q.2, by rw [h.same i hi8]; exact List.mem_map.2 ⟨q, List.mem_filter.2 ⟨hq, mine_iff.2 e⟩, rfl⟩, hw.2⟩
end Go.Proofs.YtphapknfkbgapaaGreatDoor
namespace Go.Proofs.YtphapknfkbgapaaGreatDoor
open Go.RowKit

/-! Plant, Place, Refer, Fetch on both sides. -/

variable {X : PS} {Y : RS} {n : Nat}
theorem plant_two (h : Rel2 n X Y) (hn : n ≤ 50000000) (name : ByteArray) (rev : Int) (hp : name.size ≤ maxLen) : ∃ v : Int, Pair2 49 50 [.string name, .int .i64 rev] X Y n (.int .i64 v) := by
  have hA := h.all
  have hent : X.entries.length ≤ 1000 := by have := h.few; have := h.rooms; omega
  cases hq : isPath name
  · exact ⟨7, X, Y, p_same (fun w F b _ => pPlant_op w name rev hp hq), r_same (fun w F b _ => Plant_op w name rev hp hq), h.up⟩
  · cases ho : outRev Y rev
    · have ho2 : 1 ≤ rev ∧ rev ≤ (Y.all.length : Int) := by unfold outRev at ho; simp at ho; omega
      obtain ⟨r, rfl⟩ : ∃ r : Nat, rev = (r : Int) + 1 := ⟨(rev - 1).toNat, by omega⟩
      obtain ⟨k, hk⟩ : ∃ k, Y.all[r]? = some k := ⟨_, List.getElem?_eq_getElem (by omega)⟩
      cases hko : k.out
      · have hE : keptE X.entries ((r : Int) + 1) = k.e := by rw [h.ent]; exact keptE_some h.revs hk hko
        have hz : (k.e.rev == 0) = false := by rw [h.revs r k hk, beq_eq_false_iff_ne]; omega
        cases hg : k.e.gone
        · have hfx : pFull X = fullOf Y := pFull_same h
          cases hf : fullOf Y
          · refine ⟨0, X.plant name k.e, Y.plant name k, p_grow (fun w F b hX => pPlant_yes w name ((r : Int) + 1) k.e hX hp hq hent hE hz hg (hfx.trans hf) (by rw [h.rev]; omega)), fun w F b hR => Plant_yes w name r k hR (by omega) hp hq hk hko hg hf, rel_plant h name hq hk hko hg hf⟩
          · exact ⟨11, X, Y, p_low (fun w F b hX _ _ => pPlant_full w name ((r : Int) + 1) k.e hX hp hq hent hE hz hg (hfx.trans hf)), r_low (fun w F b hR => Plant_full w name r k hR (by omega) hp hq hk hko hg hf), h.up⟩
        · exact ⟨12, X, Y, p_low (fun w F b hX _ _ => pPlant_none w name ((r : Int) + 1) hX hp hq hent (by rw [hE, hg, Bool.or_true])), r_same (fun w F b hR => Plant_none w name r k hR (by omega) hp hq hk (by rw [hg, Bool.or_true])), h.up⟩
      · have hE : keptE X.entries ((r : Int) + 1) = Ent.zero := by
          rw [h.ent]
          refine keptE_none h.revs (fun r' k' hk' ho' e => ?_)
          obtain rfl : r = r' := by omega
          obtain rfl := Option.some.inj (hk.symm.trans hk')
          rw [hko] at ho'; cases ho'
        exact ⟨12, X, Y, p_low (fun w F b hX _ _ => pPlant_none w name ((r : Int) + 1) hX hp hq hent (by rw [hE]; rfl)), r_same (fun w F b hR => Plant_none w name r k hR (by omega) hp hq hk (by rw [hko]; rfl)), h.up⟩
    · have hE : keptE X.entries rev = Ent.zero := by
        rw [h.ent]
        refine keptE_none h.revs (fun r' k' hk' _ e => ?_)
        have := (List.getElem?_eq_some_iff.1 hk').1
        unfold outRev at ho
        simp at ho
        omega
      exact ⟨12, X, Y, p_low (fun w F b hX _ _ => pPlant_none w name rev hX hp hq hent (by rw [hE]; rfl)), r_same (fun w F b hR => Plant_rev w name rev hR hp hq ho), h.up⟩
theorem place_two (h : Rel2 n X Y) (pod node : Int) : ∃ v : Int, Pair2 51 52 [.int .i64 pod, .int .i64 node] X Y n (.int .i64 v) := by
  cases hb : badPlace pod node
  · obtain ⟨b1, b2, b3, b4⟩ : 0 ≤ pod ∧ pod < 8 ∧ -1 ≤ node ∧ node < 4 := by
      unfold badPlace at hb; simp at hb; omega
    obtain ⟨p, rfl⟩ : ∃ p : Nat, pod = (p : Int) := ⟨pod.toNat, by omega⟩
    have hp8 : p < 8 := by omega
    exact ⟨0, X.place p node, Y.place p node, p_kept (fun w F b hX _ _ => pPlace_yes w p node hX hp8 b3 b4), r_kept (fun w F b hR => Place_yes w p node hR hp8 b3 b4), { h.up with pods := pods_place h.pods hp8 node }⟩
  · exact ⟨2, X, Y, p_same (fun w F b _ => pPlace_arg w pod node hb), r_same (fun w F b _ => Place_arg w pod node hb), h.up⟩
theorem refer_two (h : Rel2 n X Y) (pod : Int) (name : ByteArray) (on : Bool) (hp : name.size ≤ maxLen) : ∃ v : Int, Pair2 53 54 [.int .i64 pod, .string name, .bool on] X Y n (.int .i64 v) := by
  have hsm := h.pods.small
  cases hb : badRefer pod name
  · obtain ⟨b1, b2, b3⟩ : 0 ≤ pod ∧ pod < 8 ∧ isPath name = true := by
      unfold badRefer at hb; simp at hb; exact ⟨by omega, by omega, hb.2⟩
    obtain ⟨p, rfl⟩ : ∃ p : Nat, pod = (p : Int) := ⟨pod.toNat, by omega⟩
    have hp8 : p < 8 := by omega
    have hf := h.pods.few p hp8
    have ho := others_same h.pods hp8 name
    cases hm : (on && decide (8 ≤ othersOf Y.needs p name))
    · refine ⟨0, X.refer p name on, Y.refer p name on, fun w F b hX hF h1 => (pRefer_any w p name on hX hf hp b3 hp8).mono ?_, fun w F b hR => (Refer_any w p name on hR (by omega) hp b3 hp8).mono ?_, { h.up with pods := pods_refer h.pods hp8 name on hm }⟩
      · rintro e w' (⟨q, _⟩ | ⟨_, q1, q2, q3⟩)
        · rw [← ho, hm] at q; cases q
        · exact ⟨q1, _, q2, q3, fun _ hk => hk.imp id (fun q => q.1)⟩
      · rintro e w' (⟨q, _⟩ | ⟨_, q1, q2, q3⟩)
        · rw [hm] at q; cases q
        · exact ⟨q1, _, q2, q3, fun _ hk => hk.imp id (fun q => q.1)⟩
    · refine ⟨16, X, Y, p_low (fun w F b hX _ _ => (pRefer_any w p name on hX hf hp b3 hp8).mono ?_), r_low (fun w F b hR => (Refer_any w p name on hR (by omega) hp b3 hp8).mono ?_), h.up⟩
      · rintro e w' (⟨_, q1, q2⟩ | ⟨q, _⟩)
        · exact ⟨q1, q2⟩
        · rw [← ho, hm] at q; cases q
      · rintro e w' (⟨_, q1, q2⟩ | ⟨q, _⟩)
        · exact ⟨q1, q2⟩
        · rw [hm] at q; cases q
  · exact ⟨2, X, Y, p_same (fun w F b _ => pRefer_arg w pod name on hp hb), r_same (fun w F b _ => Refer_arg w pod name on hp hb), h.up⟩
theorem Rel2.needsOk (h : Rel2 n X Y) : NeedsOk Y := h.pods.ok
/-- The program's openedFor and the document's get, of the newest entry of a path. -/
theorem fetch_read (h : Rel2 n X Y) (hn : n ≤ 50000000) {i : Nat} {p : PSrv} {sn : Int} {u : RUnd} (hzn : (sn == 0) = false) (hpp : X.servers[i]? = some p) (ha : At Y i sn u) (hS : Same2 Y.keys Y.epoch p sn u) (name : ByteArray) :
    ∃ (A : ByteArray) (B C : Int) (E : Ent), newestOf X.entries name X.rev = E ∧ (∀ (w : World) (F : Nat → Prop) (b : Nat), XIn w F b X → Fours w → 1 ≤ w.heap.size → Calls Tryz.prog 79 #[.pointer (some ⟨b, 0, none⟩), .int .i64 (i : Int), .agg #[.string E.path, .int .i64 E.rev, .int .i64 E.key, .int .i64 E.draw, .string E.sealed, .bool E.gone]] w fun e w' => e = .returned (.tuple #[.string A, .int .i64 C]) ∧ Low w.heap.size w w') ∧
      (∀ (w : World) (F : Nat → Prop) (b : Nat), RIn w F b Y → Calls Tryz.prog 75 #[.pointer (some ⟨b, 0, none⟩), .int .i64 (i : Int), .string name, .int .i64 (Y.all.length : Int), .bool false] w fun e w' => e = .returned (.tuple #[.string A, .int .i64 B, .int .i64 C]) ∧ Low w.heap.size w w') := by
  have hA := h.all
  have hN : newestOf X.entries name X.rev = (lastOf (Y.all.take (Y.all.length : Int).toNat) name).getD Ent.zero := by rw [h.ent, h.rev]; exact newest_last _ _ _ h.revs
  cases hL : lastOf (Y.all.take (Y.all.length : Int).toNat) name with
  | none =>
    rw [hL] at hN
    have ht : thereOf (lastOf (Y.all.take (Y.all.length : Int).toNat) name) = false := by rw [hL]; rfl
    exact ⟨⟨#[]⟩, 0, 12, Ent.zero, hN, fun w F b _ _ _ => openedFor_none w i Ent.zero rfl, fun w F b hR => get_none_false w i sn u name _ hR ha hzn (by omega) ht⟩
  | some E =>
    rw [hL] at hN
    replace hN : newestOf X.entries name X.rev = E := hN
    obtain ⟨k, hk, hkE, hko, _⟩ := lastOf_mem hL
    have hkm : k ∈ Y.all := List.mem_of_mem_take hk
    obtain ⟨j, hj⟩ := List.getElem?_of_mem hkm
    have hrv := h.revs j k hj
    rw [hkE] at hrv
    have hz : (E.rev == 0) = false := by rw [beq_eq_false_iff_ne]; omega
    cases hg : E.gone
    · obtain ⟨ok1, jk, K, ok2, ok3, ok4⟩ := h.eok k hkm (by rw [hkE]; exact hg)
      rw [hkE] at ok1 ok2
      have hKg : K.gone = false := ok4 hko
      have hjl : jk < Y.keys.length := (List.getElem?_eq_some_iff.1 ok3).1
      have hj6 : jk ≤ 6 := by have := h.keys.few.2; omega
      obtain ⟨pk, hpk⟩ : ∃ pk, X.keys[jk]? = some pk := ⟨_, List.getElem?_eq_getElem (by rw [h.keys.len]; exact hjl)⟩
      have hks := h.keys.same jk pk K hpk ok3
      have htx := hks.text hKg
      have hkg : keyGone pk = false := keyGone_no (by rw [htx]; exact hks.size)
      have e1 : pRead pk E p.seen = openedOf K E sn := by
        unfold pRead openedOf pOpened
        rw [hS.seen, hkg, hks.came, hKg, htx]
      refine ⟨(openedOf K E sn).1, revOr (openedOf K E sn) E.rev, (openedOf K E sn).2, E, hN, fun w F b hX hF h1 => ?_, fun w F b hR => get_some_false w i sn u name _ E K jk hR ha hzn (by omega) hL hg ok3 ok2 hj6 hks.size ok1⟩
      have q := openedFor_some w i p E pk jk hX hpp hz hg hpk ok2 hj6 (by rw [htx]; exact hks.size) ok1 hF h1
      rw [e1] at q
      exact q
    · have ht : thereOf (lastOf (Y.all.take (Y.all.length : Int).toNat) name) = false := by rw [hL]; simp [thereOf, hg]
      exact ⟨⟨#[]⟩, 0, 12, E, hN, fun w F b _ _ _ => openedFor_none w i E (by rw [hg, Bool.or_true]), fun w F b hR => get_none_false w i sn u name _ hR ha hzn (by omega) ht⟩
theorem fetch_two (h : Rel2 n X Y) (hn : n ≤ 50000000) (s node : Int) (name : ByteArray) :
    ∃ (A : ByteArray) (C : Int), Pair2 35 36 [.int .i64 s, .int .i64 node, .string name] X Y n (.tuple #[.string A, .int .i64 C]) := by
  have hsm := h.pods.small
  have hfew := h.pods.few
  cases hs : isSrv Y.seen.length s
  · have hx : isSrv X.servers.length s = false := by rw [h.len.1]; exact hs
    exact ⟨⟨#[]⟩, 4, X, Y, p_same (fun w F b hX => pFetch_srv w s node name hX hx), r_same (fun w F b hR => Fetch_srv w s node name hR hs), h.up⟩
  · have hx : isSrv X.servers.length s = true := by rw [h.len.1]; exact hs
    cases hb : badNode node
    · have hnd := needed_same (X := X) (Y := Y) h.pods node name
      obtain ⟨i, p, sn, u, rfl, hpp, ha, hS, hi⟩ := h.at hs
      -- the document's Get, whatever it is
      cases hal : allowedOf Y node name
      · -- refused
        have hG : ∃ (A : ByteArray) (B C : Int), ∀ (w : World) (F : Nat → Prop) (b : Nat), RIn w F b Y → Calls Tryz.prog 32 #[.pointer (some ⟨b, 0, none⟩), .int .i64 (i : Int), .string name] w fun e w' => e = .returned (.tuple #[.string A, .int .i64 B, .int .i64 C]) ∧ Low w.heap.size w w' := by
          cases hzn : (sn == 0)
          · obtain ⟨A, B, C, _, q2⟩ := read_two h hn hzn hpp ha hS name (Y.all.length : Int) false (fun e => by cases e)
            exact ⟨A, B, C, fun w F b hR => rGet_via w i name hR _ _ _ (q2 w F b hR)⟩
          · exact ⟨⟨#[]⟩, 0, 6, fun w F b hR => rGet_via w i name hR _ _ _ (get_blind w i sn u name _ false hR ha hzn)⟩
        obtain ⟨A, B, C, hG⟩ := hG
        refine ⟨⟨#[]⟩, 21, X, Y, p_low (fun w F b hX _ _ => pFetch_denied w (i : Int) node name hX hx hb hfew (hnd.trans hal)), r_low (fun w F b hR => (Fetch_any w (i : Int) node name hR hs hb (by omega) h.needsOk A B C (hG w F b hR)).mono ?_), h.up⟩
        rintro e w' (⟨_, q1, q2⟩ | ⟨q, _⟩)
        · exact ⟨q1, by rw [q2]; exact Low.refl _ _⟩
        · rw [hal] at q; cases q
      · cases hzn : (sn == 0)
        · have hz : (p.seen == 0) = false := by rw [hS.seen]; exact hzn
          obtain ⟨A, B, C, E, hE, q1, q2⟩ := fetch_read h hn hzn hpp ha hS name
          refine ⟨A, C, X, Y, p_low (fun w F b hX hF h1 => pFetch_ok w i p node name E A C hX hpp hx hz hb hfew (hnd.trans hal) (by have := h.few; have := h.rooms; omega) hE (fun V l => q1 V F b (hX.low l) (fours_low hF h1 l) (Nat.le_trans h1 l.size))), r_low (fun w F b hR => (Fetch_any w (i : Int) node name hR hs hb (by omega) h.needsOk A B C (rGet_via w i name hR _ _ _ (q2 w F b hR))).mono ?_), h.up⟩
          rintro e w' (⟨q, _⟩ | ⟨_, q1, q2⟩)
          · rw [hal] at q; cases q
          · exact ⟨q1, q2⟩
        · have hz : (p.seen == 0) = true := by rw [hS.seen]; exact hzn
          refine ⟨⟨#[]⟩, 6, X, Y, p_low (fun w F b hX _ _ => pFetch_blind w i p node name hX hpp hx hz hb hfew (hnd.trans hal)), r_low (fun w F b hR => (Fetch_any w (i : Int) node name hR hs hb (by omega) h.needsOk ⟨#[]⟩ 0 6 (rGet_via w i name hR _ _ _ (get_blind w i sn u name _ false hR ha hzn))).mono ?_), h.up⟩
          rintro e w' (⟨q, _⟩ | ⟨_, q1, q2⟩)
          · rw [hal] at q; cases q
          · exact ⟨q1, q2⟩
    · exact ⟨⟨#[]⟩, 2, X, Y, p_same (fun w F b hX => pFetch_arg w s node name hX hx hb), r_same (fun w F b hR => Fetch_arg w s node name hR hs hb), h.up⟩
theorem sides4 : Sides4 Rel21 where
  sides := sides_of pturn
  plant := fun n X Y p m hn r hp => by
    obtain ⟨v, h⟩ := plant_two r (by omega) p m hp
    exact ⟨v, pair21 h⟩
  place := fun n X Y s m hn r => by
    obtain ⟨v, h⟩ := place_two r s m
    exact ⟨v, pair21 h⟩
  refer := fun n X Y s p on hn r hp => by
    obtain ⟨v, h⟩ := refer_two r s p on hp
    exact ⟨v, pair21 h⟩
  fetch := fun n X Y s m p hn r => by
    obtain ⟨A, e, h⟩ := fetch_two r (by omega) s m p
    exact ⟨A, e, pair21 h⟩
end Go.Proofs.YtphapknfkbgapaaGreatDoor
