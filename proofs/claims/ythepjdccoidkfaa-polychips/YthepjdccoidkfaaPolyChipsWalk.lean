/- PolyChips, walked: whatever comes in, true comes out. -/
import Derived.Test.YthepjdccoidkfaaRing16
import Derived.Test.YthepjdccoidkfaaAwakeOne
import Derived.Deep.RegionHeld3
namespace Go.Proofs.Ythepjdccoidkfaa.polyChips
open Go.RowKit

/-- The period of a state of a chip's poly, the last state being its own. -/
def perOf (ones p x : Nat) : Nat := if x = ones then 1 else p

theorem ones4 : IsPer 4 1 15 1 := isPer_back (by decide) (by decide) (by decide)
theorem ones5 : IsPer 5 2 31 1 := isPer_back (by decide) (by decide) (by decide)
theorem ones6 : IsPer 6 1 63 1 := isPer_back (by decide) (by decide) (by decide)
theorem ones9 : IsPer 9 4 511 1 := isPer_back (by decide) (by decide) (by decide)

/-- The three tables lie in their blocks. -/
structure Tabs (w : World) (b : Nat) : Prop where
  s : w.heap[b]? = some (.cells #[.int .i64 4, .int .i64 5, .int .i64 6, .int .i64 9] 50 (0, 0))
  t : w.heap[b + 1]? = some (.cells #[.int .i64 1, .int .i64 2, .int .i64 1, .int .i64 4] 50 (0, 0))
  r : w.heap[b + 1 + 1]? = some (.cells #[.int .i64 15, .int .i64 31, .int .i64 63, .int .i64 511] 50 (0, 0))

theorem Tabs.below {w w' : World} {b n : Nat} (h : Tabs w b) (hb : Below n w w') (hn : b + 1 + 1 < n) : Tabs w' b :=
  ⟨(hb.block _ (by omega)).trans h.s, (hb.block _ (by omega)).trans h.t, (hb.block _ (by omega)).trans h.r⟩
theorem Tabs.only {w w' : World} {b c : Nat} (h : Tabs w b) (hb : Only c w w') (hn : b + 1 + 1 < c) : Tabs w' b :=
  ⟨(hb.block _ (by omega)).trans h.s, (hb.block _ (by omega)).trans h.t, (hb.block _ (by omega)).trans h.r⟩
theorem Tabs.lt {w : World} {b : Nat} (h : Tabs w b) : b + 1 + 1 < w.heap.size := lt_of_block h.r

set_option maxRecDepth 100000 in
set_option maxHeartbeats 2000000 in
theorem walk (a0 : Int) (w0 : (Lit.int .u16 a0).wf = true) (W : World) :
    Calls Try.prog 6 #[.int .u16 a0] W fun e w' => e = .returned (.bool true) ∧ Below W.heap.size W w' := by
  have hb := bounds_u16 w0
  obtain ⟨s, rfl⟩ := Int.eq_ofNat_of_zero_le (show 0 ≤ a0 by omega)
  have hs : s < 65536 := by omega
  clear hb w0
  go_enter Try.func6, Try.ntmps6
  go_wp2
  go_loopw [6] (fun v wr => ∃ k : Nat, k ≤ 4 ∧ v = .int .i64 (k : Int) ∧ Tabs wr W.heap.size ∧ Below W.heap.size W wr) (fun v _ => 4 - (intOf v).toNat)
  case atStart =>
    refine ⟨0, by omega, rfl, ?_, ((((Below.refl _ W).alloc (Nat.le_refl _) _).alloc (by simp) _).alloc (by simp; omega) _)⟩
    exact ⟨(Below.heap_alloc _ _ _ (by simp; omega)).trans ((Below.heap_alloc _ _ _ (by simp)).trans (heap_alloc_new W _)), (Below.heap_alloc _ _ _ (by simp)).trans (by have := heap_alloc_new (W.alloc (.cells #[.int .i64 4, .int .i64 5, .int .i64 6, .int .i64 9] 50)) (.cells #[.int .i64 1, .int .i64 2, .int .i64 1, .int .i64 4] 50); simpa using this), by have := heap_alloc_new ((W.alloc (.cells #[.int .i64 4, .int .i64 5, .int .i64 6, .int .i64 9] 50)).alloc (.cells #[.int .i64 1, .int .i64 2, .int .i64 1, .int .i64 4] 50)) (.cells #[.int .i64 15, .int .i64 31, .int .i64 63, .int .i64 511] 50); simpa using this⟩
  case round =>
    obtain ⟨k, hk, rfl, hT, hB⟩ := hrel
    match k, hk with
    | 0, _ =>
      obtain ⟨x, hx⟩ : ∃ x, x = s % 16 := ⟨_, rfl⟩
      have hxl : x < 16 := by omega
      have hband : bits .and .u16 (s : Int) 15 = (x : Int) := by
        rw [show (15 : Int) = ((15 : Nat) : Int) from rfl, u16_and_nat _ _ hs (by omega), nat_mask4, hx]
      clear hx
      have hG : Poly16.Good 4 1 x := ⟨by omega, by omega, by omega, by omega⟩
      have HS : Hid (setE 4 x = 0 ∧ setS 4 0 x = x) := ⟨setE_yes (by omega), setS_yes (by omega)⟩
      have hE := HS.out.1
      obtain ⟨s0, s1, s2, s3⟩ := cell4 hT.s
      obtain ⟨t0, t1, t2, t3⟩ := cell4 hT.t
      obtain ⟨r0, r1, r2, r3⟩ := cell4 hT.r
      have hlt := hT.lt
      have HT : Hid (Tabs wr W.heap.size) := hT
      have HB : Hid (Below W.heap.size W wr) := hB
      clear hT hB
      go_wp2
      go_region_held3 (fun w' => w'.cell? ⟨W.heap.size, 0, none⟩ = some (.int .i64 4) ∧ w'.cell? ⟨W.heap.size + 1, 0, none⟩ = some (.int .i64 1)) (go_keep) (first
        | (go_at_call 24; refine (Poly16.New 4 1 _ (by decide) (by decide) (by decide)).mono ?_; rintro e w2 ⟨b, rfl, hbl, hA2, hB2⟩; have HA2 : Hid (Poly16.At w2 b 0 0 4 1) := hA2; have hbW : W.heap.size + 1 + 1 < b := (by simp at hbl; omega); have HT2 : Hid (Tabs w2 W.heap.size) := Tabs.below (w := wr.drew) ⟨HT.out.s, HT.out.t, HT.out.r⟩ hB2 (by simpa using hlt); have HB2 : Hid (Below W.heap.size W w2) := HB.out.drew.trans (hB2.mono (by have := HB.out.size; simpa using this)); obtain ⟨v0, v1, v2, v3⟩ := cell4 HT2.out.s; obtain ⟨y0, y1, y2, y3⟩ := cell4 HT2.out.t; obtain ⟨z0, z1, z2, z3⟩ := cell4 HT2.out.r; clear hA2 hB2 hbl))
      rename_i hHeld
      clear s0 s1 s2 s3 t0 t1 t2 t3 r0 r1 r2 r3 HT HB hlt
      go_wp2_with (go_at_call 27; fail)
      refine (Poly16.Set b 0 0 4 1 x _ (by decide) (by decide) (by decide) HA2.out).mono ?_
      rintro e w3 ⟨rfl, hA3, ho3⟩
      have HA3 : Hid (Poly16.At w3 b 0 x 4 1) := by have := hA3; rwa [HS.out.2] at this
      have HT3 : Hid (Tabs w3 W.heap.size) := HT2.out.only ho3 hbW
      have HB3 : Hid (Below W.heap.size W w3) := HB2.out.trans (ho3.below (by omega))
      obtain ⟨r0, r1, r2, r3⟩ := cell4 HT3.out.r
      clear hA3 ho3 v0 v1 v2 v3 y0 y1 y2 y3 z0 z1 z2 z3 HA2 HT2 HB2 hHeld
      by_cases hones : x = 15
      · have ht : ((x : Int) == 15) = true := beq_iff_eq.2 (by omega)
        have hP : IsPer 4 1 x 1 := by rw [hones]; exact ones4
        have HX : Hid (x = 15) := hones
        clear hones
        go_wp2_with (go_at_call 26; refine (Poly16.Period b 0 x 4 1 1 _ hG hP HA3.out).mono ?_; rintro e w4 ⟨rfl, hB4⟩)
        go_roundw
        case rel => exact ⟨0 + 1, by omega, by go_num, HT3.out.below hB4 (by have := HA3.out.lt; omega), HB3.out.trans (hB4.mono HB3.out.size)⟩
        case measure => simp [intOf]
      · have ht : ((x : Int) == 15) = false := beq_eq_false_iff_ne.2 (by omega)
        have hP : IsPer 4 1 x 15 := chip_per chip4 (by decide) (by decide) (by omega)
        clear hones
        go_wp2_with (go_at_call 26; refine (Poly16.Period b 0 x 4 1 15 _ hG hP HA3.out).mono ?_; rintro e w4 ⟨rfl, hB4⟩)
        go_roundw
        case rel => exact ⟨0 + 1, by omega, by go_num, HT3.out.below hB4 (by have := HA3.out.lt; omega), HB3.out.trans (hB4.mono HB3.out.size)⟩
        case measure => simp [intOf]
    | 1, _ =>
      obtain ⟨x, hx⟩ : ∃ x, x = s % 32 := ⟨_, rfl⟩
      have hxl : x < 32 := by omega
      have hband : bits .and .u16 (s : Int) 31 = (x : Int) := by
        rw [show (31 : Int) = ((31 : Nat) : Int) from rfl, u16_and_nat _ _ hs (by omega), nat_mask5, hx]
      clear hx
      have hG : Poly16.Good 5 2 x := ⟨by omega, by omega, by omega, by omega⟩
      have HS : Hid (setE 5 x = 0 ∧ setS 5 0 x = x) := ⟨setE_yes (by omega), setS_yes (by omega)⟩
      have hE := HS.out.1
      obtain ⟨s0, s1, s2, s3⟩ := cell4 hT.s
      obtain ⟨t0, t1, t2, t3⟩ := cell4 hT.t
      obtain ⟨r0, r1, r2, r3⟩ := cell4 hT.r
      have hlt := hT.lt
      have HT : Hid (Tabs wr W.heap.size) := hT
      have HB : Hid (Below W.heap.size W wr) := hB
      clear hT hB
      go_wp2
      go_region_held3 (fun w' => w'.cell? ⟨W.heap.size, 1, none⟩ = some (.int .i64 5) ∧ w'.cell? ⟨W.heap.size + 1, 1, none⟩ = some (.int .i64 2)) (go_keep) (first
        | (go_at_call 24; refine (Poly16.New 5 2 _ (by decide) (by decide) (by decide)).mono ?_; rintro e w2 ⟨b, rfl, hbl, hA2, hB2⟩; have HA2 : Hid (Poly16.At w2 b 0 0 5 2) := hA2; have hbW : W.heap.size + 1 + 1 < b := (by simp at hbl; omega); have HT2 : Hid (Tabs w2 W.heap.size) := Tabs.below (w := wr.drew) ⟨HT.out.s, HT.out.t, HT.out.r⟩ hB2 (by simpa using hlt); have HB2 : Hid (Below W.heap.size W w2) := HB.out.drew.trans (hB2.mono (by have := HB.out.size; simpa using this)); obtain ⟨v0, v1, v2, v3⟩ := cell4 HT2.out.s; obtain ⟨y0, y1, y2, y3⟩ := cell4 HT2.out.t; obtain ⟨z0, z1, z2, z3⟩ := cell4 HT2.out.r; clear hA2 hB2 hbl))
      rename_i hHeld
      clear s0 s1 s2 s3 t0 t1 t2 t3 r0 r1 r2 r3 HT HB hlt
      go_wp2_with (go_at_call 27; fail)
      refine (Poly16.Set b 0 0 5 2 x _ (by decide) (by decide) (by decide) HA2.out).mono ?_
      rintro e w3 ⟨rfl, hA3, ho3⟩
      have HA3 : Hid (Poly16.At w3 b 0 x 5 2) := by have := hA3; rwa [HS.out.2] at this
      have HT3 : Hid (Tabs w3 W.heap.size) := HT2.out.only ho3 hbW
      have HB3 : Hid (Below W.heap.size W w3) := HB2.out.trans (ho3.below (by omega))
      obtain ⟨r0, r1, r2, r3⟩ := cell4 HT3.out.r
      clear hA3 ho3 v0 v1 v2 v3 y0 y1 y2 y3 z0 z1 z2 z3 HA2 HT2 HB2 hHeld
      by_cases hones : x = 31
      · have ht : ((x : Int) == 31) = true := beq_iff_eq.2 (by omega)
        have hP : IsPer 5 2 x 1 := by rw [hones]; exact ones5
        have HX : Hid (x = 31) := hones
        clear hones
        go_wp2_with (go_at_call 26; refine (Poly16.Period b 0 x 5 2 1 _ hG hP HA3.out).mono ?_; rintro e w4 ⟨rfl, hB4⟩)
        go_roundw
        case rel => exact ⟨1 + 1, by omega, by go_num, HT3.out.below hB4 (by have := HA3.out.lt; omega), HB3.out.trans (hB4.mono HB3.out.size)⟩
        case measure => simp [intOf]
      · have ht : ((x : Int) == 31) = false := beq_eq_false_iff_ne.2 (by omega)
        have hP : IsPer 5 2 x 31 := chip_per chip5 (by decide) (by decide) (by omega)
        clear hones
        go_wp2_with (go_at_call 26; refine (Poly16.Period b 0 x 5 2 31 _ hG hP HA3.out).mono ?_; rintro e w4 ⟨rfl, hB4⟩)
        go_roundw
        case rel => exact ⟨1 + 1, by omega, by go_num, HT3.out.below hB4 (by have := HA3.out.lt; omega), HB3.out.trans (hB4.mono HB3.out.size)⟩
        case measure => simp [intOf]
    | 2, _ =>
      obtain ⟨x, hx⟩ : ∃ x, x = s % 64 := ⟨_, rfl⟩
      have hxl : x < 64 := by omega
      have hband : bits .and .u16 (s : Int) 63 = (x : Int) := by
        rw [show (63 : Int) = ((63 : Nat) : Int) from rfl, u16_and_nat _ _ hs (by omega), nat_mask6, hx]
      clear hx
      have hG : Poly16.Good 6 1 x := ⟨by omega, by omega, by omega, by omega⟩
      have HS : Hid (setE 6 x = 0 ∧ setS 6 0 x = x) := ⟨setE_yes (by omega), setS_yes (by omega)⟩
      have hE := HS.out.1
      obtain ⟨s0, s1, s2, s3⟩ := cell4 hT.s
      obtain ⟨t0, t1, t2, t3⟩ := cell4 hT.t
      obtain ⟨r0, r1, r2, r3⟩ := cell4 hT.r
      have hlt := hT.lt
      have HT : Hid (Tabs wr W.heap.size) := hT
      have HB : Hid (Below W.heap.size W wr) := hB
      clear hT hB
      go_wp2
      go_region_held3 (fun w' => w'.cell? ⟨W.heap.size, 2, none⟩ = some (.int .i64 6) ∧ w'.cell? ⟨W.heap.size + 1, 2, none⟩ = some (.int .i64 1)) (go_keep) (first
        | (go_at_call 24; refine (Poly16.New 6 1 _ (by decide) (by decide) (by decide)).mono ?_; rintro e w2 ⟨b, rfl, hbl, hA2, hB2⟩; have HA2 : Hid (Poly16.At w2 b 0 0 6 1) := hA2; have hbW : W.heap.size + 1 + 1 < b := (by simp at hbl; omega); have HT2 : Hid (Tabs w2 W.heap.size) := Tabs.below (w := wr.drew) ⟨HT.out.s, HT.out.t, HT.out.r⟩ hB2 (by simpa using hlt); have HB2 : Hid (Below W.heap.size W w2) := HB.out.drew.trans (hB2.mono (by have := HB.out.size; simpa using this)); obtain ⟨v0, v1, v2, v3⟩ := cell4 HT2.out.s; obtain ⟨y0, y1, y2, y3⟩ := cell4 HT2.out.t; obtain ⟨z0, z1, z2, z3⟩ := cell4 HT2.out.r; clear hA2 hB2 hbl))
      rename_i hHeld
      clear s0 s1 s2 s3 t0 t1 t2 t3 r0 r1 r2 r3 HT HB hlt
      go_wp2_with (go_at_call 27; fail)
      refine (Poly16.Set b 0 0 6 1 x _ (by decide) (by decide) (by decide) HA2.out).mono ?_
      rintro e w3 ⟨rfl, hA3, ho3⟩
      have HA3 : Hid (Poly16.At w3 b 0 x 6 1) := by have := hA3; rwa [HS.out.2] at this
      have HT3 : Hid (Tabs w3 W.heap.size) := HT2.out.only ho3 hbW
      have HB3 : Hid (Below W.heap.size W w3) := HB2.out.trans (ho3.below (by omega))
      obtain ⟨r0, r1, r2, r3⟩ := cell4 HT3.out.r
      clear hA3 ho3 v0 v1 v2 v3 y0 y1 y2 y3 z0 z1 z2 z3 HA2 HT2 HB2 hHeld
      by_cases hones : x = 63
      · have ht : ((x : Int) == 63) = true := beq_iff_eq.2 (by omega)
        have hP : IsPer 6 1 x 1 := by rw [hones]; exact ones6
        have HX : Hid (x = 63) := hones
        clear hones
        go_wp2_with (go_at_call 26; refine (Poly16.Period b 0 x 6 1 1 _ hG hP HA3.out).mono ?_; rintro e w4 ⟨rfl, hB4⟩)
        go_roundw
        case rel => exact ⟨2 + 1, by omega, by go_num, HT3.out.below hB4 (by have := HA3.out.lt; omega), HB3.out.trans (hB4.mono HB3.out.size)⟩
        case measure => simp [intOf]
      · have ht : ((x : Int) == 63) = false := beq_eq_false_iff_ne.2 (by omega)
        have hP : IsPer 6 1 x 63 := chip_per chip6 (by decide) (by decide) (by omega)
        clear hones
        go_wp2_with (go_at_call 26; refine (Poly16.Period b 0 x 6 1 63 _ hG hP HA3.out).mono ?_; rintro e w4 ⟨rfl, hB4⟩)
        go_roundw
        case rel => exact ⟨2 + 1, by omega, by go_num, HT3.out.below hB4 (by have := HA3.out.lt; omega), HB3.out.trans (hB4.mono HB3.out.size)⟩
        case measure => simp [intOf]
    | 3, _ =>
      obtain ⟨x, hx⟩ : ∃ x, x = s % 512 := ⟨_, rfl⟩
      have hxl : x < 512 := by omega
      have hband : bits .and .u16 (s : Int) 511 = (x : Int) := by
        rw [show (511 : Int) = ((511 : Nat) : Int) from rfl, u16_and_nat _ _ hs (by omega), nat_mask9, hx]
      clear hx
      have hG : Poly16.Good 9 4 x := ⟨by omega, by omega, by omega, by omega⟩
      have HS : Hid (setE 9 x = 0 ∧ setS 9 0 x = x) := ⟨setE_yes (by omega), setS_yes (by omega)⟩
      have hE := HS.out.1
      obtain ⟨s0, s1, s2, s3⟩ := cell4 hT.s
      obtain ⟨t0, t1, t2, t3⟩ := cell4 hT.t
      obtain ⟨r0, r1, r2, r3⟩ := cell4 hT.r
      have hlt := hT.lt
      have HT : Hid (Tabs wr W.heap.size) := hT
      have HB : Hid (Below W.heap.size W wr) := hB
      clear hT hB
      go_wp2
      go_region_held3 (fun w' => w'.cell? ⟨W.heap.size, 3, none⟩ = some (.int .i64 9) ∧ w'.cell? ⟨W.heap.size + 1, 3, none⟩ = some (.int .i64 4)) (go_keep) (first
        | (go_at_call 24; refine (Poly16.New 9 4 _ (by decide) (by decide) (by decide)).mono ?_; rintro e w2 ⟨b, rfl, hbl, hA2, hB2⟩; have HA2 : Hid (Poly16.At w2 b 0 0 9 4) := hA2; have hbW : W.heap.size + 1 + 1 < b := (by simp at hbl; omega); have HT2 : Hid (Tabs w2 W.heap.size) := Tabs.below (w := wr.drew) ⟨HT.out.s, HT.out.t, HT.out.r⟩ hB2 (by simpa using hlt); have HB2 : Hid (Below W.heap.size W w2) := HB.out.drew.trans (hB2.mono (by have := HB.out.size; simpa using this)); obtain ⟨v0, v1, v2, v3⟩ := cell4 HT2.out.s; obtain ⟨y0, y1, y2, y3⟩ := cell4 HT2.out.t; obtain ⟨z0, z1, z2, z3⟩ := cell4 HT2.out.r; clear hA2 hB2 hbl))
      rename_i hHeld
      clear s0 s1 s2 s3 t0 t1 t2 t3 r0 r1 r2 r3 HT HB hlt
      go_wp2_with (go_at_call 27; fail)
      refine (Poly16.Set b 0 0 9 4 x _ (by decide) (by decide) (by decide) HA2.out).mono ?_
      rintro e w3 ⟨rfl, hA3, ho3⟩
      have HA3 : Hid (Poly16.At w3 b 0 x 9 4) := by have := hA3; rwa [HS.out.2] at this
      have HT3 : Hid (Tabs w3 W.heap.size) := HT2.out.only ho3 hbW
      have HB3 : Hid (Below W.heap.size W w3) := HB2.out.trans (ho3.below (by omega))
      obtain ⟨r0, r1, r2, r3⟩ := cell4 HT3.out.r
      clear hA3 ho3 v0 v1 v2 v3 y0 y1 y2 y3 z0 z1 z2 z3 HA2 HT2 HB2 hHeld
      by_cases hones : x = 511
      · have ht : ((x : Int) == 511) = true := beq_iff_eq.2 (by omega)
        have hP : IsPer 9 4 x 1 := by rw [hones]; exact ones9
        have HX : Hid (x = 511) := hones
        clear hones
        go_wp2_with (go_at_call 26; refine (Poly16.Period b 0 x 9 4 1 _ hG hP HA3.out).mono ?_; rintro e w4 ⟨rfl, hB4⟩)
        go_roundw
        case rel => exact ⟨3 + 1, by omega, by go_num, HT3.out.below hB4 (by have := HA3.out.lt; omega), HB3.out.trans (hB4.mono HB3.out.size)⟩
        case measure => simp [intOf]
      · have ht : ((x : Int) == 511) = false := beq_eq_false_iff_ne.2 (by omega)
        have hP : IsPer 9 4 x 511 := chip_per chip9 (by decide) (by decide) (by omega)
        clear hones
        go_wp2_with (go_at_call 26; refine (Poly16.Period b 0 x 9 4 511 _ hG hP HA3.out).mono ?_; rintro e w4 ⟨rfl, hB4⟩)
        go_roundw
        case rel => exact ⟨3 + 1, by omega, by go_num, HT3.out.below hB4 (by have := HA3.out.lt; omega), HB3.out.trans (hB4.mono HB3.out.size)⟩
        case measure => simp [intOf]
    | 4, _ =>
      go_wp2_with (go_at_call 20; refine (awake1 _).mono ?_; rintro e w3 ⟨rfl, hb⟩)
      go_ret
      exact ⟨rfl, hB.trans (hb.mono hB.size)⟩

end Go.Proofs.Ythepjdccoidkfaa.polyChips
