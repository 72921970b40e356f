/- PolyRound, walked: whatever comes in, true comes out. -/
import Derived.Test.YthepjdccoidkfaaRing16
import Derived.Test.YthepjdccoidkfaaAwakeOne
import Derived.Deep.RegionHeld3
namespace Go.Proofs.Ythepjdccoidkfaa.polyRound
open Go.RowKit

set_option maxRecDepth 100000 in
set_option maxHeartbeats 1000000 in
theorem great (size tap s n : Int) (W : World) (h : 12 < size) :
    Calls Try.prog 8 #[.agg #[.int .i64 size, .int .i64 tap, .int .u16 s, .int .i64 n]] W fun e w' => e = .returned (.bool true) ∧ Below W.heap.size W w' := by
  by_cases hv : 2 ≤ size ∧ size ≤ 16 ∧ 1 ≤ tap ∧ tap < size
  · obtain ⟨k, rfl⟩ := Int.eq_ofNat_of_zero_le (show 0 ≤ size by omega)
    obtain ⟨t, rfl⟩ := Int.eq_ofNat_of_zero_le (show 0 ≤ tap by omega)
    go_enter Try.func8, Try.ntmps8
    go_wp2_with (go_at_call 24; refine (Poly16.New_yes k t _ (by omega) (by omega) (by omega)).mono ?_; rintro e w1 ⟨rfl, rfl⟩)
    go_ret
    exact ⟨rfl, ((Below.refl _ W).alloc (Nat.le_refl _) _).alloc (by simp) _⟩
  · go_enter Try.func8, Try.ntmps8
    go_wp2_with (go_at_call 24; refine (Poly16.New_no size tap _ hv).mono ?_; rintro e w1 ⟨rfl, rfl⟩)
    go_ret
    exact ⟨rfl, (Below.refl _ W).alloc (Nat.le_refl _) _⟩

set_option maxRecDepth 100000 in
set_option maxHeartbeats 1000000 in
theorem bad (size tap s n : Int) (W : World) (h : size ≤ 12) (hv : ¬ (2 ≤ size ∧ size ≤ 16 ∧ 1 ≤ tap ∧ tap < size)) :
    Calls Try.prog 8 #[.agg #[.int .i64 size, .int .i64 tap, .int .u16 s, .int .i64 n]] W fun e w' => e = .returned (.bool true) ∧ Below W.heap.size W w' := by
  go_enter Try.func8, Try.ntmps8
  go_wp2_with (first
    | (go_at_call 24; refine (Poly16.New_no size tap _ hv).mono ?_; rintro e w1 ⟨rfl, rfl⟩)
    | (go_at_call 20; refine (awake1 _).mono ?_; rintro e w1 ⟨rfl, hb⟩))
  go_ret
  exact ⟨rfl, ((Below.refl _ W).alloc (Nat.le_refl _) _).trans (hb.mono (by simp))⟩

set_option maxRecDepth 100000 in
set_option maxHeartbeats 1000000 in
theorem wide (size tap s : Nat) (n : Int) (W : World) (h : size ≤ 12) (h1 : 1 ≤ tap) (h2 : tap < size) (hs : 2 ^ size ≤ s) :
    Calls Try.prog 8 #[.agg #[.int .i64 size, .int .i64 tap, .int .u16 s, .int .i64 n]] W fun e w' => e = .returned (.bool true) ∧ Below W.heap.size W w' := by
  have X0 : Hid ((W.alloc (.cells #[.int .i64 size, .int .i64 tap, .int .u16 s, .int .i64 n] 39)).heap[W.heap.size]? = some (.cells #[.int .i64 size, .int .i64 tap, .int .u16 s, .int .i64 n] 39 (0, 0))) := heap_alloc_new W _
  go_enter Try.func8, Try.ntmps8
  go_wp2_with (go_at_call 24; fail)
  refine (Poly16.New size tap _ h1 h2 (by omega)).mono ?_
  rintro e w1 ⟨b, rfl, hbl, hA, hB⟩
  have X1 := (hB.block W.heap.size (by simp)).trans X0.out
  obtain ⟨x0, x1, x2, x3⟩ := cell4 X1
  have hbW : W.heap.size < b := by simp at hbl; omega
  have HA : Hid (Poly16.At w1 b 0 0 size tap) := hA
  have HB : Hid (Below W.heap.size W w1) := ((Below.refl _ W).alloc (Nat.le_refl _) _).trans (hB.mono (by simp))
  clear hA hB hbl X1
  go_wp2_with (first
    | (go_at_call 27; refine (Poly16.Set_no b 0 0 size tap s _ (by omega) hs HA.out).mono ?_; rintro e w2 ⟨rfl, rfl⟩)
    | (go_at_call 20; refine (awake1 _).mono ?_; rintro e w3 ⟨rfl, hb⟩))
  go_ret
  exact ⟨rfl, HB.out.trans (hb.mono HB.out.size)⟩

set_option maxRecDepth 100000 in
set_option maxHeartbeats 1000000 in
theorem good (size tap s p : Nat) (n : Int) (W : World) (h : size ≤ 12) (h1 : 1 ≤ tap) (h2 : tap < size) (hs : s < 2 ^ size) (hp : IsPer size tap s p) :
    Calls Try.prog 8 #[.agg #[.int .i64 size, .int .i64 tap, .int .u16 s, .int .i64 n]] W fun e w' => e = .returned (.bool true) ∧ Below W.heap.size W w' := by
  have hG : Poly16.Good size tap s := ⟨h1, h2, by omega, hs⟩
  have X0 : Hid ((W.alloc (.cells #[.int .i64 size, .int .i64 tap, .int .u16 s, .int .i64 n] 39)).heap[W.heap.size]? = some (.cells #[.int .i64 size, .int .i64 tap, .int .u16 s, .int .i64 n] 39 (0, 0))) := heap_alloc_new W _
  have hpl : p ≤ 4096 := Nat.le_trans hp.le (Nat.pow_le_pow_right (n := 2) (by omega) h)
  have hp1 := hp.pos
  go_enter Try.func8, Try.ntmps8
  go_wp2_with (go_at_call 24; fail)
  refine (Poly16.New size tap _ h1 h2 (by omega)).mono ?_
  rintro e w1 ⟨b, rfl, hbl, hA, hB⟩
  have X1 : Hid (w1.heap[W.heap.size]? = some (.cells #[.int .i64 size, .int .i64 tap, .int .u16 s, .int .i64 n] 39 (0, 0))) := (hB.block W.heap.size (by simp)).trans X0.out
  obtain ⟨x0, x1, x2, x3⟩ := cell4 X1.out
  have hbW : W.heap.size < b := by simp at hbl; omega
  have HA : Hid (Poly16.At w1 b 0 0 size tap) := hA
  have HB : Hid (Below W.heap.size W w1) := ((Below.refl _ W).alloc (Nat.le_refl _) _).trans (hB.mono (by simp))
  clear hA hB hbl X0
  go_wp2_with (go_at_call 27; fail)
  refine (Poly16.Set_yes b 0 0 size tap s _ hG HA.out).mono ?_
  rintro e w2 ⟨rfl, hw2⟩
  have HW2 : Hid (w2 = w1.setCell ⟨b, 0, none⟩ (.int .u16 (s : Int))) := hw2
  clear hw2
  have HA2 : Hid (Poly16.At w2 b 0 s size tap) := by rw [HW2.out]; exact HA.out.put s
  have HB2 : Hid (Below W.heap.size W w2) := by rw [HW2.out]; exact HB.out.setCell (p := ⟨b, 0, none⟩) (by simp; omega) _
  have X2 : Hid (w2.heap[W.heap.size]? = some (.cells #[.int .i64 size, .int .i64 tap, .int .u16 s, .int .i64 n] 39 (0, 0))) := by rw [HW2.out]; exact (Below.heap_setCell _ _ _ _ (by simp; omega)).trans X1.out
  clear x0 x1 x2 x3 X1 HA HB HW2
  go_wp2_with (go_at_call 26; fail)
  refine (Poly16.Period b 0 s size tap p _ hG hp HA2.out).mono ?_
  rintro e w3 ⟨rfl, hB3⟩
  have HA3 : Hid (Poly16.At w3 b 0 s size tap) := HA2.out.below hB3 HA2.out.lt
  have X3 : Hid (w3.heap[W.heap.size]? = some (.cells #[.int .i64 size, .int .i64 tap, .int .u16 s, .int .i64 n] 39 (0, 0))) := (hB3.block _ (by have := HA2.out.lt; omega)).trans X2.out
  have HB3 : Hid (Below W.heap.size W w3) := HB2.out.trans (hB3.mono HB2.out.size)
  clear hB3 HA2 X2 HB2
  go_wp2
  go_loopw [5] (fun v wr => ∃ k : Nat, k ≤ p ∧ v = .int .i64 (k : Int) ∧ Poly16.At wr b 0 (orb size tap k s) size tap ∧ Below W.heap.size W wr ∧ wr.heap[W.heap.size]? = some (.cells #[.int .i64 size, .int .i64 tap, .int .u16 s, .int .i64 n] 39 (0, 0))) (fun v _ => p - (intOf v).toNat)
  case atStart => exact ⟨0, by omega, rfl, HA3.out, HB3.out, X3.out⟩
  case round =>
    obtain ⟨k, hk, rfl, hAr, hBr, hXr⟩ := hrel
    have HAr : Hid (Poly16.At wr b 0 (orb size tap k s) size tap) := hAr
    have HBr : Hid (Below W.heap.size W wr) := hBr
    have HXr : Hid (wr.heap[W.heap.size]? = some (.cells #[.int .i64 size, .int .i64 tap, .int .u16 s, .int .i64 n] 39 (0, 0))) := hXr
    clear hAr hBr hXr HA3 HB3 X3
    by_cases hl : k < p
    · go_wp2_with (go_at_call 32; refine (Poly16.Step b 0 (orb size tap k s) size tap _ (hG.orb k) HAr.out).mono ?_; rintro e w' ⟨rfl, rfl⟩)
      go_roundw
      case rel => exact ⟨k + 1, hl, by go_num, HAr.out.put _, HBr.out.setCell (p := ⟨b, 0, none⟩) (by simp; omega) _, (Below.heap_setCell _ _ _ _ (by simp; omega)).trans HXr.out⟩
      case measure => simp [intOf]; omega
    · have hkp : k = p := by omega
      subst hkp
      have h0 : wr.cell? ⟨b, 0, none⟩ = some (.int .u16 (s : Int)) := by have := HAr.out.c0; rwa [hp.back] at this
      obtain ⟨_, _, x2, _⟩ := cell4 HXr.out
      have hsz : W.heap.size < wr.heap.size := lt_of_block HXr.out
      go_wp2
      go_region_held3 (fun w' => w'.cell? ⟨W.heap.size, 2, none⟩ = some (.int .u16 (s : Int))) (go_keep) (first
        | (go_at_call 28; refine (Poly16.State b 0 s _ ?_).mono ?_; (simp [*]); rintro e w' ⟨rfl, rfl⟩)
        | (go_at_call 20; refine (awake1 _).mono ?_; rintro e w9 ⟨rfl, hb⟩; have hc9 : w9.cell? ⟨W.heap.size, 2, none⟩ = some (.int .u16 (s : Int)) := (hb.cell (p := ⟨W.heap.size, 2, none⟩) (by simpa using hsz)).trans x2))
      go_wp2
      go_ret
      exact ⟨rfl, HBr.out.drew.trans (hb.mono (by have := HBr.out.size; simpa using this))⟩

theorem walk (a0_0 a0_1 a0_2 a0_3 : Int) (_ : (Lit.int .i64 a0_0).wf = true) (_ : (Lit.int .i64 a0_1).wf = true) (w2 : (Lit.int .u16 a0_2).wf = true) (_ : (Lit.int .i64 a0_3).wf = true) (W : World) :
    Calls Try.prog 8 #[.agg #[.int .i64 a0_0, .int .i64 a0_1, .int .u16 a0_2, .int .i64 a0_3]] W fun e w' => e = .returned (.bool true) ∧ Below W.heap.size W w' := by
  by_cases h : 12 < a0_0
  · exact great _ _ _ _ W h
  by_cases hv : 2 ≤ a0_0 ∧ a0_0 ≤ 16 ∧ 1 ≤ a0_1 ∧ a0_1 < a0_0
  · have hb := bounds_u16 w2
    obtain ⟨k, rfl⟩ := Int.eq_ofNat_of_zero_le (show 0 ≤ a0_0 by omega)
    obtain ⟨t, rfl⟩ := Int.eq_ofNat_of_zero_le (show 0 ≤ a0_1 by omega)
    obtain ⟨s, rfl⟩ := Int.eq_ofNat_of_zero_le (show 0 ≤ a0_2 by omega)
    by_cases hs : s < 2 ^ k
    · obtain ⟨p, hp⟩ := isPer (tap := t) (by omega) (by omega) hs
      exact good k t s p a0_3 W (by omega) (by omega) (by omega) hs hp
    · exact wide k t s a0_3 W (by omega) (by omega) (by omega) (by omega)
  · exact bad _ _ _ _ W (by omega) hv

end Go.Proofs.Ythepjdccoidkfaa.polyRound
