import Derived.Test.YtphapknfkbgapaaDoorBlock
import Derived.BigRegion
import Derived.Deep.RegionWith
import Derived.StillTailTactics
import Derived.Deep.CutRange
namespace Go.Proofs.YtphapknfkbgapaaDoor
open Go.RowKit

/-! The reference's turns are the machine's. -/
theorem xor32_of (x y : Int) (hx : 0 ≤ x ∧ x < 4294967296) (hy : 0 ≤ y ∧ y < 4294967296) : bits .xor .i64 x y = xor32 x y := by
  unfold xor32
  rw [xor_i64 x y hx.1 hx.2 hy.1 hy.2, u32_xor x y hx.1 hx.2 hy.1 hy.2]
theorem xor32_bd (x y : Int) : 0 ≤ xor32 x y ∧ xor32 x y < 4294967296 := by
  unfold xor32 bits
  rw [IntKind.wrap_u32']
  omega
theorem rot32_bd (k x : Int) : 0 ≤ rot32 k x ∧ rot32 k x < 4294967296 := by
  unfold rot32 bits
  rw [IntKind.wrap_u32']
  omega
theorem add32_bd (x y : Int) : 0 ≤ add32 x y ∧ add32 x y < 4294967296 := by unfold add32; omega
theorem rot32_16 (x : Int) (h0 : 0 ≤ x) (h1 : x < 4294967296) : x * 65536 % 4294967296 + x * 65536 / 4294967296 = rot32 16 x := by
  have e1 : x * 65536 % 4294967296 = (x % 65536) * 65536 := by omega
  have e2 : x * 65536 / 4294967296 = x / 65536 := by omega
  have e : rot32 16 x = bits .or .u32 (x * 65536 % 4294967296) (x / 65536) := rfl
  rw [e, e1, e2, u32_or _ _ (by omega) (by omega) (by omega) (by omega), nat_join 16 _ _ (by omega) (by omega)]
  omega
theorem rot32_12 (x : Int) (h0 : 0 ≤ x) (h1 : x < 4294967296) : x * 4096 % 4294967296 + x * 4096 / 4294967296 = rot32 12 x := by
  have e1 : x * 4096 % 4294967296 = (x % 1048576) * 4096 := by omega
  have e2 : x * 4096 / 4294967296 = x / 1048576 := by omega
  have e : rot32 12 x = bits .or .u32 (x * 4096 % 4294967296) (x / 1048576) := rfl
  rw [e, e1, e2, u32_or _ _ (by omega) (by omega) (by omega) (by omega), nat_join 12 _ _ (by omega) (by omega)]
  omega
theorem rot32_8 (x : Int) (h0 : 0 ≤ x) (h1 : x < 4294967296) : x * 256 % 4294967296 + x * 256 / 4294967296 = rot32 8 x := by
  have e1 : x * 256 % 4294967296 = (x % 16777216) * 256 := by omega
  have e2 : x * 256 / 4294967296 = x / 16777216 := by omega
  have e : rot32 8 x = bits .or .u32 (x * 256 % 4294967296) (x / 16777216) := rfl
  rw [e, e1, e2, u32_or _ _ (by omega) (by omega) (by omega) (by omega), nat_join 8 _ _ (by omega) (by omega)]
  omega
theorem rot32_7 (x : Int) (h0 : 0 ≤ x) (h1 : x < 4294967296) : x * 128 % 4294967296 + x * 128 / 4294967296 = rot32 7 x := by
  have e1 : x * 128 % 4294967296 = (x % 33554432) * 128 := by omega
  have e2 : x * 128 / 4294967296 = x / 33554432 := by omega
  have e : rot32 7 x = bits .or .u32 (x * 128 % 4294967296) (x / 33554432) := rfl
  rw [e, e1, e2, u32_or _ _ (by omega) (by omega) (by omega) (by omega), nat_join 7 _ _ (by omega) (by omega)]
  omega

set_option maxHeartbeats 400000 in
theorem rturn_any (k x : Int) (hk : k = 16 ∨ k = 12 ∨ k = 8 ∨ k = 7) (w : World) (h0 : 0 ≤ x) (h1 : x < 4294967296) :
    Calls Tryd.prog 90 #[.int .i64 x, .int .i64 k] w fun e w' => e = .returned (.int .i64 (rot32 k x)) ∧ w' = w := by
  rcases hk with rfl | rfl | rfl | rfl
  · have hpw : Hid (∀ w, Calls Tryd.prog 114 #[.int .i64 16] w fun e w' => e = .returned (.int .i64 65536) ∧ w' = w) := fun w => power_any 16 w (by omega) (by omega)
    have E : Hid (x * 65536 % 4294967296 + x * 65536 / 4294967296 = rot32 16 x) := rot32_16 x h0 h1
    go_enter Tryd.func90, Tryd.ntmps90
    go_wp2_with (go_at_call 114; refine (hpw.out _).mono ?_; rintro e w' ⟨rfl, rfl⟩)
    go_ret
    exact ⟨ret_int E.out, rfl⟩
  · have hpw : Hid (∀ w, Calls Tryd.prog 114 #[.int .i64 12] w fun e w' => e = .returned (.int .i64 4096) ∧ w' = w) := fun w => power_any 12 w (by omega) (by omega)
    have E : Hid (x * 4096 % 4294967296 + x * 4096 / 4294967296 = rot32 12 x) := rot32_12 x h0 h1
    go_enter Tryd.func90, Tryd.ntmps90
    go_wp2_with (go_at_call 114; refine (hpw.out _).mono ?_; rintro e w' ⟨rfl, rfl⟩)
    go_ret
    exact ⟨ret_int E.out, rfl⟩
  · have hpw : Hid (∀ w, Calls Tryd.prog 114 #[.int .i64 8] w fun e w' => e = .returned (.int .i64 256) ∧ w' = w) := fun w => power_any 8 w (by omega) (by omega)
    have E : Hid (x * 256 % 4294967296 + x * 256 / 4294967296 = rot32 8 x) := rot32_8 x h0 h1
    go_enter Tryd.func90, Tryd.ntmps90
    go_wp2_with (go_at_call 114; refine (hpw.out _).mono ?_; rintro e w' ⟨rfl, rfl⟩)
    go_ret
    exact ⟨ret_int E.out, rfl⟩
  · have hpw : Hid (∀ w, Calls Tryd.prog 114 #[.int .i64 7] w fun e w' => e = .returned (.int .i64 128) ∧ w' = w) := fun w => power_any 7 w (by omega) (by omega)
    have E : Hid (x * 128 % 4294967296 + x * 128 / 4294967296 = rot32 7 x) := rot32_7 x h0 h1
    go_enter Tryd.func90, Tryd.ntmps90
    go_wp2_with (go_at_call 114; refine (hpw.out _).mono ?_; rintro e w' ⟨rfl, rfl⟩)
    go_ret
    exact ⟨ret_int E.out, rfl⟩
set_option maxHeartbeats 400000 in
theorem written_any (x : Int) (w : World) (h0 : 0 ≤ x) (h1 : x < 4294967296) :
    Calls Tryd.prog 64 #[.int .i64 x] w fun e w' => e = .returned (.string (wr32 x)) ∧ Below w.heap.size w w' := by
  have hcv := conv4i w (x % 256) (x / 256 % 256) (x / 65536 % 256) (x / 16777216) (by omega) (by omega) (by omega) (by omega)
  have ex : Hid (x / 16777216 % 256 = x / 16777216) := by show _ = _; omega
  go_enter Tryd.func64, Tryd.ntmps64
  go_wp2
  go_ret
  refine ⟨?_, (Below.refl _ _).alloc (Nat.le_refl _) _⟩
  unfold wr32
  rw [ex.out]
  rfl

/-- But for block g all that was there is as it was. -/
structure But (g : Nat) (w w' : World) : Prop where
  os : w'.os = w.os
  tape : w'.tape = w.tape
  output : w'.output = w.output
  size : w.heap.size ≤ w'.heap.size
  block : ∀ k, k < w.heap.size → k ≠ g → w'.heap[k]? = w.heap[k]?
theorem But.refl (g : Nat) (w : World) : But g w w := ⟨rfl, rfl, rfl, Nat.le_refl _, fun _ _ _ => rfl⟩
theorem But.trans {g : Nat} {a b c : World} (h : But g a b) (k : But g b c) : But g a c :=
  ⟨k.os.trans h.os, k.tape.trans h.tape, k.output.trans h.output, Nat.le_trans h.size k.size, fun i hi hn => (k.block i (Nat.lt_of_lt_of_le hi h.size) hn).trans (h.block i hi hn)⟩
theorem But.drew {g : Nat} {a w : World} (h : But g a w) : But g a w.drew := ⟨h.os, h.tape, h.output, h.size, h.block⟩
theorem But.alloc {g : Nat} {a w : World} (h : But g a w) (o : Obj) : But g a (w.alloc o) :=
  h.trans ⟨rfl, rfl, rfl, by simp, fun k hk _ => Below.heap_alloc _ _ _ hk⟩
theorem But.setCell {g : Nat} {a w : World} (h : But g a w) (o : Nat) (v : Value) : But g a (w.setCell ⟨g, o, none⟩ v) :=
  h.trans ⟨rfl, rfl, rfl, by simp [World.setCell], fun k _ hn => Below.heap_setCell _ _ _ _ hn⟩
theorem But.below {B g : Nat} {a w w' : World} (h : Below B a w) (k : But g w w') (hg : B ≤ g) (hB : B ≤ w.heap.size) : Below B a w' :=
  h.trans ⟨k.os, k.tape, k.output, k.size, fun i hi => k.block i (by omega) (by omega)⟩

/-- The reference's words lie in block g. -/
structure Zx (g : Nat) (G : Nat → Int) (w : World) : Prop where
  c : ∀ k, k < 16 → w.cell? ⟨g, k, none⟩ = some (.int .i64 (G k))
  f : ∀ k, k < 16 → w.frozen? ⟨g, k, none⟩ = false
  i : ∀ k, k < 16 → 0 ≤ G k ∧ G k < 4294967296
theorem Zx.drew {g : Nat} {G : Nat → Int} {w : World} (h : Zx g G w) : Zx g G w.drew := ⟨h.c, h.f, h.i⟩
theorem Zx.alloc {g : Nat} {G : Nat → Int} {w : World} (h : Zx g G w) (hg : g < w.heap.size) (o : Obj) : Zx g G (w.alloc o) :=
  ⟨fun k hk => by rw [← h.c k hk]; exact World.cell?_of_block (a := ⟨g, k, none⟩) (Below.heap_alloc w o g hg), fun k hk => by rw [← h.f k hk]; exact World.frozen?_of_block (a := ⟨g, k, none⟩) (Below.heap_alloc w o g hg), h.i⟩
theorem Zx.but {g g' : Nat} {G : Nat → Int} {w w1 : World} (h : Zx g G w) (k : But g' w w1) (hg : g < w.heap.size) (hn : g ≠ g') : Zx g G w1 :=
  ⟨fun i hi => by rw [← h.c i hi]; exact World.cell?_of_block (a := ⟨g, i, none⟩) (k.block g hg hn), fun i hi => by rw [← h.f i hi]; exact World.frozen?_of_block (a := ⟨g, i, none⟩) (k.block g hg hn), h.i⟩
theorem Zx.set {g : Nat} {G : Nat → Int} {w : World} (h : Zx g G w) (m : Nat) (hm : m < 16) (x : Int) (hx : 0 ≤ x ∧ x < 4294967296) : Zx g (upd G m x) (w.setCell ⟨g, m, none⟩ (.int .i64 x)) := by
  refine ⟨fun k hk => ?_, fun k hk => ?_, fun k hk => ?_⟩
  · by_cases e : k = m
    · subst e
      have hc := h.c k hk
      have he : upd G k x k = x := by simp [upd]
      rw [he]
      go_simp
    · rw [World.cell?_setCell_other w ⟨g, m, none⟩ ⟨g, k, none⟩ _ (by first | (simp; done) | (simp; omega)), h.c k hk]
      simp [upd, e]
  · have := h.f k hk
    simpa using this
  · by_cases e : k = m
    · simp [upd, e, hx]
    · simp [upd, e, h.i k hk]

/-- Half a stir: the sum at a, then what stands at d turned. -/
def half (G : Nat → Int) (a b d : Nat) (k : Int) : Nat → Int :=
  upd (upd G a (add32 (G a) (G b))) d (rot32 k (xor32 (G d) (add32 (G a) (G b))))
def halves (G : Nat → Int) (a b c d : Nat) : Nat → (Nat → Int)
  | 0 => G
  | 1 => half G a b d 16
  | 2 => half (half G a b d 16) c d b 12
  | 3 => half (half (half G a b d 16) c d b 12) a b d 8
  | _ => half (half (half (half G a b d 16) c d b 12) a b d 8) c d b 7

/-- Half-way through the reference's stir. -/
structure Tx (g bb : Nat) (J : Nat → Int) (w0 w : World) : Prop where
  z : Zx g J w
  b : But g w0 w
  y0 : w.cell? ⟨bb, 0, none⟩ = some (.int .i64 16)
  y1 : w.cell? ⟨bb, 1, none⟩ = some (.int .i64 12)
  y2 : w.cell? ⟨bb, 2, none⟩ = some (.int .i64 8)
  y3 : w.cell? ⟨bb, 3, none⟩ = some (.int .i64 7)
theorem Tx.set {g bb : Nat} {J : Nat → Int} {w0 w : World} (h : Tx g bb J w0 w) (hn : g ≠ bb) (m : Nat) (hm : m < 16) (x : Int) (hx : 0 ≤ x ∧ x < 4294967296) : Tx g bb (upd J m x) w0 (w.setCell ⟨g, m, none⟩ (.int .i64 x)).drew := by
  obtain ⟨z, b, y0, y1, y2, y3⟩ := h
  have hn' : bb ≠ g := fun e => hn e.symm
  exact ⟨(z.set m hm x hx).drew, (b.setCell _ _).drew, by go_simp, by go_simp, by go_simp, by go_simp⟩

set_option maxRecDepth 100000 in
set_option maxHeartbeats 4000000 in
theorem stirred_any (g cap a b c d : Nat) (G : Nat → Int) (w : World) (ha : a < 16) (hb : b < 16) (hc : c < 16) (hd : d < 16) (had : a ≠ d) (hbc : b ≠ c) (hz : Zx g G w) (hg : g < w.heap.size) :
    Calls Tryd.prog 63 #[.slice (some ⟨g, 0, none⟩) 16 cap, .int .i64 a, .int .i64 b, .int .i64 c, .int .i64 d] w fun e w' => e = .returned (.tuple #[]) ∧ Zx g (halves G a b c d 4) w' ∧ But g w w' := by
  have HZ : Hid (Zx g G w) := hz
  clear hz
  have hgn : g ≠ w.heap.size := by omega
  go_enter Tryd.func63, Tryd.ntmps63
  go_upto_region 2 with fail
  have hT0 : Hid (Tx g w.heap.size (halves G a b c d 0) w (w.alloc (.cells #[.int .i64 16, .int .i64 12, .int .i64 8, .int .i64 7] 3))) :=
    ⟨HZ.out.alloc hg _, (But.refl _ _).alloc _, by go_simp, by go_simp, by go_simp, by go_simp⟩
  go_loopw [11] (fun s wr => ∃ i : Nat, i ≤ 4 ∧ s = .int .i64 i ∧ Hid (Tx g w.heap.size (halves G a b c d i) w wr)) (fun s _ => 4 - (intOf s).toNat)
  case atStart => exact ⟨0, by omega, rfl, hT0⟩
  case round =>
    clear hT0 HZ
    obtain ⟨i, hi, rfl, hT⟩ := hrel
    by_cases hlt : i < 4
    · have hi4 : i = 0 ∨ i = 1 ∨ i = 2 ∨ i = 3 := by omega
      obtain ⟨J, hJ⟩ : ∃ J, Hid (J = halves G a b c d i) := ⟨_, rfl⟩
      rw [← hJ.out] at hT
      have ca := hT.out.z.c a ha
      have cb := hT.out.z.c b hb
      have cc := hT.out.z.c c hc
      have cd := hT.out.z.c d hd
      have fa := hT.out.z.f a ha
      have fb := hT.out.z.f b hb
      have fc := hT.out.z.f c hc
      have fd := hT.out.z.f d hd
      have ia := hT.out.z.i a ha
      have ib := hT.out.z.i b hb
      have ic := hT.out.z.i c hc
      have iD := hT.out.z.i d hd
      have y0 := hT.out.y0
      have y1 := hT.out.y1
      have y2 := hT.out.y2
      have y3 := hT.out.y3
      rcases hi4 with rfl | rfl | rfl | rfl
      · go_upto_region 5 with fail
        go_cut [] from 20 to 32 (fun wx => Tx g w.heap.size (upd J a (add32 (J a) (J b))) w wx)
        case first =>
          go_region
          all_goals (go_wp2_with fail; go_meet; exact hT.out.set hgn a ha _ (add32_bd _ _))
        case rest =>
        clear hT ca cb cc cd fa fb fc fd ia ib ic iD y0 y1 y2 y3
        obtain ⟨s, hs⟩ : ∃ s, Hid (s = add32 (J a) (J b)) := ⟨_, rfl⟩
        rw [← hs.out] at hcut
        have hT : Hid (Tx g w.heap.size (upd J a s) w wc) := hcut
        have e1 : upd J a s a = s := by simp [upd]
        have e2 : upd J a s d = J d := by simp [upd, had.symm]
        have q1 := hcut.z.c a ha
        have q2 := hcut.z.c d hd
        have q3 := hcut.z.f d hd
        have q4 := hcut.z.i a ha
        have q5 := hcut.z.i d hd
        have yy := hcut.y0
        rw [e1] at q1 q4
        rw [e2] at q2 q5
        clear hcut e1 e2
        have HX : Hid (bits .xor .i64 (J d) s = xor32 (J d) s) := xor32_of _ _ q5 q4
        have bx := xor32_bd (J d) s
        have hxx := HX.out
        have I1 : (d : Int) < 16 := by omega
        have I2 : (a : Int) < 16 := by omega
        go_upto_region 6 with fail
        refine wp_region_still_tail 17 (by kernel_rfl) (by kernel_rfl) ?_
        (try (change wpStill _ _ (World.drew _) _ _ _))
        simp only [List.take_succ_cons, List.take_zero, List.drop_succ_cons, List.drop_zero]
        repeat still_step
        refine wpStill_step (fun K hK => ?_)
        go_simp
        refine ⟨_, rturn_any 16 _ (by omega) _ bx.1 bx.2, hK _ ?_⟩
        clear hK K
        repeat still_step
        refine wpStill_nil ?_
        (try (change wpList _ _ _ _ _ (World.drew _)))
        go_wp2_with fail
        go_roundw
        case rel =>
          refine ⟨0 + 1, by omega, rfl, ?_⟩
          have e : halves G a b c d (0 + 1) = upd (upd J a s) d (rot32 16 (xor32 (J d) s)) := by rw [hs.out, hJ.out]; rfl
          rw [e]
          exact hT.out.set hgn d hd _ (rot32_bd _ _)
        case measure => simp [intOf]
      · go_upto_region 7 with fail
        go_cut [] from 50 to 62 (fun wx => Tx g w.heap.size (upd J c (add32 (J c) (J d))) w wx)
        case first =>
          go_region
          all_goals (go_wp2_with fail; go_meet; exact hT.out.set hgn c hc _ (add32_bd _ _))
        case rest =>
        clear hT ca cb cc cd fa fb fc fd ia ib ic iD y0 y1 y2 y3
        obtain ⟨s, hs⟩ : ∃ s, Hid (s = add32 (J c) (J d)) := ⟨_, rfl⟩
        rw [← hs.out] at hcut
        have hT : Hid (Tx g w.heap.size (upd J c s) w wc) := hcut
        have e1 : upd J c s c = s := by simp [upd]
        have e2 : upd J c s b = J b := by simp [upd, hbc]
        have q1 := hcut.z.c c hc
        have q2 := hcut.z.c b hb
        have q3 := hcut.z.f b hb
        have q4 := hcut.z.i c hc
        have q5 := hcut.z.i b hb
        have yy := hcut.y1
        rw [e1] at q1 q4
        rw [e2] at q2 q5
        clear hcut e1 e2
        have HX : Hid (bits .xor .i64 (J b) s = xor32 (J b) s) := xor32_of _ _ q5 q4
        have bx := xor32_bd (J b) s
        have hxx := HX.out
        have I1 : (b : Int) < 16 := by omega
        have I2 : (c : Int) < 16 := by omega
        go_upto_region 8 with fail
        refine wp_region_still_tail 17 (by kernel_rfl) (by kernel_rfl) ?_
        (try (change wpStill _ _ (World.drew _) _ _ _))
        simp only [List.take_succ_cons, List.take_zero, List.drop_succ_cons, List.drop_zero]
        repeat still_step
        refine wpStill_step (fun K hK => ?_)
        go_simp
        refine ⟨_, rturn_any 12 _ (by omega) _ bx.1 bx.2, hK _ ?_⟩
        clear hK K
        repeat still_step
        refine wpStill_nil ?_
        (try (change wpList _ _ _ _ _ (World.drew _)))
        go_wp2_with fail
        go_roundw
        case rel =>
          refine ⟨1 + 1, by omega, rfl, ?_⟩
          have e : halves G a b c d (1 + 1) = upd (upd J c s) b (rot32 12 (xor32 (J b) s)) := by rw [hs.out, hJ.out]; rfl
          rw [e]
          exact hT.out.set hgn b hb _ (rot32_bd _ _)
        case measure => simp [intOf]
      · go_upto_region 5 with fail
        go_cut [] from 20 to 32 (fun wx => Tx g w.heap.size (upd J a (add32 (J a) (J b))) w wx)
        case first =>
          go_region
          all_goals (go_wp2_with fail; go_meet; exact hT.out.set hgn a ha _ (add32_bd _ _))
        case rest =>
        clear hT ca cb cc cd fa fb fc fd ia ib ic iD y0 y1 y2 y3
        obtain ⟨s, hs⟩ : ∃ s, Hid (s = add32 (J a) (J b)) := ⟨_, rfl⟩
        rw [← hs.out] at hcut
        have hT : Hid (Tx g w.heap.size (upd J a s) w wc) := hcut
        have e1 : upd J a s a = s := by simp [upd]
        have e2 : upd J a s d = J d := by simp [upd, had.symm]
        have q1 := hcut.z.c a ha
        have q2 := hcut.z.c d hd
        have q3 := hcut.z.f d hd
        have q4 := hcut.z.i a ha
        have q5 := hcut.z.i d hd
        have yy := hcut.y2
        rw [e1] at q1 q4
        rw [e2] at q2 q5
        clear hcut e1 e2
        have HX : Hid (bits .xor .i64 (J d) s = xor32 (J d) s) := xor32_of _ _ q5 q4
        have bx := xor32_bd (J d) s
        have hxx := HX.out
        have I1 : (d : Int) < 16 := by omega
        have I2 : (a : Int) < 16 := by omega
        go_upto_region 6 with fail
        refine wp_region_still_tail 17 (by kernel_rfl) (by kernel_rfl) ?_
        (try (change wpStill _ _ (World.drew _) _ _ _))
        simp only [List.take_succ_cons, List.take_zero, List.drop_succ_cons, List.drop_zero]
        repeat still_step
        refine wpStill_step (fun K hK => ?_)
        go_simp
        refine ⟨_, rturn_any 8 _ (by omega) _ bx.1 bx.2, hK _ ?_⟩
        clear hK K
        repeat still_step
        refine wpStill_nil ?_
        (try (change wpList _ _ _ _ _ (World.drew _)))
        go_wp2_with fail
        go_roundw
        case rel =>
          refine ⟨2 + 1, by omega, rfl, ?_⟩
          have e : halves G a b c d (2 + 1) = upd (upd J a s) d (rot32 8 (xor32 (J d) s)) := by rw [hs.out, hJ.out]; rfl
          rw [e]
          exact hT.out.set hgn d hd _ (rot32_bd _ _)
        case measure => simp [intOf]
      · go_upto_region 7 with fail
        go_cut [] from 50 to 62 (fun wx => Tx g w.heap.size (upd J c (add32 (J c) (J d))) w wx)
        case first =>
          go_region
          all_goals (go_wp2_with fail; go_meet; exact hT.out.set hgn c hc _ (add32_bd _ _))
        case rest =>
        clear hT ca cb cc cd fa fb fc fd ia ib ic iD y0 y1 y2 y3
        obtain ⟨s, hs⟩ : ∃ s, Hid (s = add32 (J c) (J d)) := ⟨_, rfl⟩
        rw [← hs.out] at hcut
        have hT : Hid (Tx g w.heap.size (upd J c s) w wc) := hcut
        have e1 : upd J c s c = s := by simp [upd]
        have e2 : upd J c s b = J b := by simp [upd, hbc]
        have q1 := hcut.z.c c hc
        have q2 := hcut.z.c b hb
        have q3 := hcut.z.f b hb
        have q4 := hcut.z.i c hc
        have q5 := hcut.z.i b hb
        have yy := hcut.y3
        rw [e1] at q1 q4
        rw [e2] at q2 q5
        clear hcut e1 e2
        have HX : Hid (bits .xor .i64 (J b) s = xor32 (J b) s) := xor32_of _ _ q5 q4
        have bx := xor32_bd (J b) s
        have hxx := HX.out
        have I1 : (b : Int) < 16 := by omega
        have I2 : (c : Int) < 16 := by omega
        go_upto_region 8 with fail
        refine wp_region_still_tail 17 (by kernel_rfl) (by kernel_rfl) ?_
        (try (change wpStill _ _ (World.drew _) _ _ _))
        simp only [List.take_succ_cons, List.take_zero, List.drop_succ_cons, List.drop_zero]
        repeat still_step
        refine wpStill_step (fun K hK => ?_)
        go_simp
        refine ⟨_, rturn_any 7 _ (by omega) _ bx.1 bx.2, hK _ ?_⟩
        clear hK K
        repeat still_step
        refine wpStill_nil ?_
        (try (change wpList _ _ _ _ _ (World.drew _)))
        go_wp2_with fail
        go_roundw
        case rel =>
          refine ⟨3 + 1, by omega, rfl, ?_⟩
          have e : halves G a b c d (3 + 1) = upd (upd J c s) b (rot32 7 (xor32 (J b) s)) := by rw [hs.out, hJ.out]; rfl
          rw [e]
          exact hT.out.set hgn b hb _ (rot32_bd _ _)
        case measure => simp [intOf]
    · have hi4 : i = 4 := by omega
      rw [hi4] at hT
      clear hi4
      go_wp2_with fail
      go_end0
      exact ⟨rfl, hT.out.z, hT.out.b⟩
end Go.Proofs.YtphapknfkbgapaaDoor
