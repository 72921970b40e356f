/- What since does: a line with starts of two ages. -/
import Derived.Test.YtienmoannnhhmaaDoorSpr2
import Derived.WalkSmall
set_option linter.unusedVariables false
namespace Go.Proofs.YtienmoannnhhmaaDoor.Sp
open Go.RowKit

theorem wd_or_same (X a : Nat) : wd (X ||| 2 ^ a) (a / 64) = wd X (a / 64) ||| 2 ^ (a % 64) := by
  apply Nat.eq_of_testBit_eq
  intro j
  rw [wd_bit, Nat.testBit_or, Nat.testBit_or, wd_bit, Nat.testBit_two_pow, Nat.testBit_two_pow]
  by_cases hj : j < 64
  · rw [decide_eq_true hj, Bool.true_and, Bool.true_and]
    congr 1
    rw [Bool.eq_iff_iff, decide_eq_true_iff, decide_eq_true_iff]
    omega
  · rw [decide_eq_false hj, Bool.false_and, Bool.false_and, decide_eq_false (by omega)]
    rfl
theorem wd_or_other (X a i : Nat) (h : i ≠ a / 64) : wd (X ||| 2 ^ a) i = wd X i := by
  apply Nat.eq_of_testBit_eq
  intro j
  rw [wd_bit, wd_bit, Nat.testBit_or, Nat.testBit_two_pow]
  by_cases hj : j < 64
  · rw [decide_eq_false (show ¬ a = 64 * i + j by omega), Bool.or_false]
  · rw [decide_eq_false hj, Bool.false_and, Bool.false_and]

theorem or_pow (v d : Nat) (hv : v < 18446744073709551616) (hd : d < 64) : bits .or .u64 (v : Int) (IntKind.u64.wrap (1 * 2 ^ d)) = ((v ||| 2 ^ d : Nat) : Int) := by
  have h1 : 2 ^ d < 18446744073709551616 := by have := Nat.pow_lt_pow_right (a := 2) (by decide) hd; simpa using this
  have e : IntKind.u64.wrap (1 * 2 ^ d) = ((2 ^ d : Nat) : Int) := by
    rw [IntKind.wrap_u64, Int.one_mul, show ((2 : Int) ^ d) = ((2 ^ d : Nat) : Int) by rw [Int.natCast_pow]; rfl]
    generalize (2 ^ d : Nat) = P at h1 ⊢
    omega
  rw [e, bits_or_u64_nat _ _ hv h1]

theorem or_pow2 (v d : Nat) (hv : v < 18446744073709551616) (hd : d < 64) : bits .or .u64 (v : Int) (IntKind.u64.wrap (2 ^ d)) = ((v ||| 2 ^ d : Nat) : Int) := by
  have h := or_pow v d hv hd
  rwa [Int.one_mul] at h

theorem DlAt.or {w : World} {b X a : Nat} (h : DlAt w b 0 X) (ha : a ≤ 255) {v : Int} (hv : v = ((wd X (a / 64) ||| 2 ^ (a % 64) : Nat) : Int)) : DlAt (w.setCell ⟨b, a / 64, none⟩ (.int .u64 v)) b 0 (X ||| 2 ^ a) := by
  refine ⟨fun i hi => ?_, fun i => by rw [World.frozen?_setCell]; exact h.fz i, Nat.or_lt_two_pow h.lt (Nat.pow_lt_pow_right (by decide) (by omega))⟩
  by_cases hia : i = a / 64
  · subst hia
    rw [Nat.zero_add, hv, wd_or_same]
    exact World.cell?_setCell_same' _ _ _ (by have := h.c (a / 64) hi; rw [Nat.zero_add] at this; rw [this]; rfl)
  · rw [wd_or_other _ _ _ hia]
    exact (World.cell?_setCell_other _ _ _ _ (by intro e; injection e; omega)).trans (h.c i hi)

set_option maxRecDepth 100000 in
set_option maxHeartbeats 2000000 in
theorem sinceA (y z u0 u1 u2 u3 : Nat) (w : World) (hy : y ≤ 255) (hz : z ≤ 255) (h0 : u0 = wd (2 ^ y ||| 2 ^ z) 0) (h1 : u1 = wd (2 ^ y ||| 2 ^ z) 1) (h2 : u2 = wd (2 ^ y ||| 2 ^ z) 2) (h3 : u3 = wd (2 ^ y ||| 2 ^ z) 3) : Calls Tryd.prog 29 #[.int .i64 (y : Int), .int .i64 (z : Int)] w fun e w' => e = .returned (.agg #[.int .u64 (u0 : Int), .int .u64 (u1 : Int), .int .u64 (u2 : Int), .int .u64 (u3 : Int)]) ∧ Below w.heap.size w w' := by
  obtain ⟨q1, hq1⟩ : ∃ q : Nat, (y : Int) / 64 = (q : Int) := ⟨y / 64, by omega⟩
  obtain ⟨d1, hd1⟩ : ∃ d : Nat, (y : Int) % 64 = (d : Int) := ⟨y % 64, by omega⟩
  obtain ⟨q2, hq2⟩ : ∃ q : Nat, (z : Int) / 64 = (q : Int) := ⟨z / 64, by omega⟩
  obtain ⟨d2, hd2⟩ : ∃ d : Nat, (z : Int) % 64 = (d : Int) := ⟨z % 64, by omega⟩
  have HU : Hid (u0 = wd (2 ^ y ||| 2 ^ z) 0 ∧ u1 = wd (2 ^ y ||| 2 ^ z) 1 ∧ u2 = wd (2 ^ y ||| 2 ^ z) 2 ∧ u3 = wd (2 ^ y ||| 2 ^ z) 3) := ⟨h0, h1, h2, h3⟩
  clear h0 h1 h2 h3
  go_enter Tryd.func29, Tryd.ntmps29
  go_wp2
  refine wp_loop_rounds 3 ?_
  have hh := heap_alloc_new (w.alloc (.cells #[.int .u64 0, .int .u64 0, .int .u64 0, .int .u64 0] 58)) (.cells #[.int .u64 0, .int .u64 0, .int .u64 0, .int .u64 0] 58)
  have hh0 := heap_alloc_new w (.cells #[.int .u64 0, .int .u64 0, .int .u64 0, .int .u64 0] 58)
  have hB1 : Below w.heap.size w (w.alloc (.cells #[.int .u64 0, .int .u64 0, .int .u64 0, .int .u64 0] 58)) := (Below.refl _ w).alloc (Nat.le_refl _) _
  have hB2 : Below (w.heap.size + 1) (w.alloc (.cells #[.int .u64 0, .int .u64 0, .int .u64 0, .int .u64 0] 58)) ((w.alloc (.cells #[.int .u64 0, .int .u64 0, .int .u64 0, .int .u64 0] 58)).alloc (.cells #[.int .u64 0, .int .u64 0, .int .u64 0, .int .u64 0] 58)) := (Below.refl _ _).alloc (by simp) _
  have hB3 : Below w.heap.size w ((w.alloc (.cells #[.int .u64 0, .int .u64 0, .int .u64 0, .int .u64 0] 58)).alloc (.cells #[.int .u64 0, .int .u64 0, .int .u64 0, .int .u64 0] 58)) := hB1.trans (hB2.mono (by omega))
  rw [World.size_alloc] at hh
  generalize (w.alloc (.cells #[.int .u64 0, .int .u64 0, .int .u64 0, .int .u64 0] 58)).alloc (.cells #[.int .u64 0, .int .u64 0, .int .u64 0, .int .u64 0] 58) = w2 at hh hB2 hB3 ⊢
  have HW : Hid (Below w.heap.size w w2) := hB3
  have hr := hB2.block w.heap.size (by omega)
  rw [hh0] at hr
  obtain ⟨R, hR⟩ : ∃ R, R = w.heap.size := ⟨_, rfl⟩
  obtain ⟨D, hD⟩ : ∃ D, D = w.heap.size + 1 := ⟨_, rfl⟩
  rw [← hD] at hh ⊢
  rw [← hR] at hr ⊢
  have HRD : Hid (R = w.heap.size ∧ D = w.heap.size + 1) := ⟨hR, hD⟩
  have HL : Hid (w2.heap[R]? = some (.cells #[.int .u64 0, .int .u64 0, .int .u64 0, .int .u64 0] 58 (0, 0))) := hr
  have HX0 : Hid (DlAt w2 D 0 0) := ⟨fun i hi => (by
    rw [wd_zero]
    rcases (show i = 0 ∨ i = 1 ∨ i = 2 ∨ i = 3 by omega) with rfl | rfl | rfl | rfl
    all_goals exact cell_of_row _ _ _ _ _ _ hh), fun i => frozen_of_row _ _ _ _ _ hh, by decide⟩
  clear hh hh0 hB1 hB2 hB3 hr hR hD
  have HQ1 : Hid ((q1 : Nat) = y / 64 ∧ d1 = y % 64) := (by constructor <;> omega : q1 = y / 64 ∧ d1 = y % 64)
  have c1 : w2.cell? ⟨D, q1, none⟩ = some (.int .u64 (wd (0) q1 : Int)) := (by have := HX0.out.c q1 (by omega); rwa [Nat.zero_add] at this)
  have f1 : w2.frozen? ⟨D, q1, none⟩ = false := HX0.out.fz q1
  obtain ⟨v1, hv1⟩ : ∃ v, v = wd (0) q1 := ⟨_, rfl⟩
  rw [← hv1] at c1
  have HV1 : Hid (v1 = wd (0) q1) := hv1
  have lv1 : v1 < 18446744073709551616 := hv1 ▸ wd_lt _ _
  have dd1 : d1 ≤ 64 := by omega
  have de1 : d1 < 64 := by omega
  have qq1 : (0 : Int) ≤ (q1 : Int) := by omega
  have qr1 : (q1 : Int) < 4 := by omega
  clear hv1
  have b1 : (0 : Int) ≤ (y : Int) / 64 := by omega
  have e1 : (y : Int) / 64 < 4 := by omega
  rw [rounds_succ]
  have i1 := at2_0 (y : Int) (z : Int)
  go_wp2
  go_region
  go_wp2
  generalize hw1 : World.setCell _ _ _ = w3
  have HX1 : Hid (DlAt w3 D 0 (0 ||| 2 ^ y)) := (by
    rw [← hw1]
    rw [show (q1 : Nat) = y / 64 from HQ1.out.1]
    refine HX0.out.or (a := y) (by omega) ?_
    rw [← HQ1.out.1, ← HQ1.out.2, ← HV1.out]
    exact or_pow2 v1 d1 lv1 de1 : DlAt w3 D 0 (0 ||| 2 ^ y))
  have HT1 : Hid (Tn (fun k => k = D) w2 w3) := (by rw [← hw1]; exact (Tn.refl _ _).set D _ _ rfl : Tn (fun k => k = D) w2 w3)
  clear hw1 c1 f1
  have HQ2 : Hid ((q2 : Nat) = z / 64 ∧ d2 = z % 64) := (by constructor <;> omega : q2 = z / 64 ∧ d2 = z % 64)
  have c2 : w3.cell? ⟨D, q2, none⟩ = some (.int .u64 (wd (0 ||| 2 ^ y) q2 : Int)) := (by have := HX1.out.c q2 (by omega); rwa [Nat.zero_add] at this)
  have f2 : w3.frozen? ⟨D, q2, none⟩ = false := HX1.out.fz q2
  obtain ⟨v2, hv2⟩ : ∃ v, v = wd (0 ||| 2 ^ y) q2 := ⟨_, rfl⟩
  rw [← hv2] at c2
  have HV2 : Hid (v2 = wd (0 ||| 2 ^ y) q2) := hv2
  have lv2 : v2 < 18446744073709551616 := hv2 ▸ wd_lt _ _
  have dd2 : d2 ≤ 64 := by omega
  have de2 : d2 < 64 := by omega
  have qq2 : (0 : Int) ≤ (q2 : Int) := by omega
  have qr2 : (q2 : Int) < 4 := by omega
  clear hv2
  have b2 : (0 : Int) ≤ (z : Int) / 64 := by omega
  have e2 : (z : Int) / 64 < 4 := by omega
  rw [rounds_succ]
  have i2 := at2_1 (y : Int) (z : Int)
  go_wp2
  go_region
  go_wp2
  generalize hw2 : World.setCell _ _ _ = w4
  have HX2 : Hid (DlAt w4 D 0 ((0 ||| 2 ^ y) ||| 2 ^ z)) := (by
    rw [← hw2]
    rw [show (q2 : Nat) = z / 64 from HQ2.out.1]
    refine HX1.out.or (a := z) (by omega) ?_
    rw [← HQ2.out.1, ← HQ2.out.2, ← HV2.out]
    exact or_pow2 v2 d2 lv2 de2 : DlAt w4 D 0 ((0 ||| 2 ^ y) ||| 2 ^ z))
  have HT2 : Hid (Tn (fun k => k = D) w3 w4) := (by rw [← hw2]; exact (Tn.refl _ _).set D _ _ rfl : Tn (fun k => k = D) w3 w4)
  clear hw2 c2 f2
  have hne : R ≠ D := by have := HRD.out; omega
  have hr4 : w4.heap[R]? = some (.cells #[.int .u64 0, .int .u64 0, .int .u64 0, .int .u64 0] 58 (0, 0)) := by
    have l2 := (Array.getElem?_eq_some_iff.1 HL.out).1
    have l3 := HT1.out.size
    exact ((HT2.out.block R (by omega) hne).trans (HT1.out.block R l2 hne)).trans HL.out
  obtain ⟨r0, r1, r2, r3⟩ := cell4 hr4
  have g0 : w4.frozen? ⟨R, 0, none⟩ = false := frozen_of_row _ _ _ _ _ hr4
  have g1 : w4.frozen? ⟨R, 1, none⟩ = false := frozen_of_row _ _ _ _ _ hr4
  have g2 : w4.frozen? ⟨R, 2, none⟩ = false := frozen_of_row _ _ _ _ _ hr4
  have g3 : w4.frozen? ⟨R, 3, none⟩ = false := frozen_of_row _ _ _ _ _ hr4
  have hX2 := HX2.out
  rw [Nat.zero_or] at hX2
  have k0 : w4.cell? ⟨D, 0, none⟩ = some (.int .u64 (u0 : Int)) := by rw [HU.out.1]; exact hX2.c 0 (by decide)
  have k1 : w4.cell? ⟨D, 1, none⟩ = some (.int .u64 (u1 : Int)) := by rw [HU.out.2.1]; exact hX2.c 1 (by decide)
  have k2 : w4.cell? ⟨D, 2, none⟩ = some (.int .u64 (u2 : Int)) := by rw [HU.out.2.2.1]; exact hX2.c 2 (by decide)
  have k3 : w4.cell? ⟨D, 3, none⟩ = some (.int .u64 (u3 : Int)) := by rw [HU.out.2.2.2]; exact hX2.c 3 (by decide)
  have HB4 : Hid (Below w.heap.size w w4) := (HW.out.trans ((HT1.out.trans HT2.out).below (fun k e => by have := HRD.out; omega) HW.out.size))
  clear HX0 HX1 HX2 HT1 HT2 HL hr4 hX2 HW HQ1 HQ2 HV1 HV2
  rw [rounds_succ]
  go_wp2
  clear k0 k1 k2 k3 g0 g1 g2 g3
  have s0 : ((((w4.setCell ⟨R, 0, none⟩ (.int .u64 (u0 : Int))).setCell ⟨R, 1, none⟩ (.int .u64 (u1 : Int))).setCell ⟨R, 2, none⟩ (.int .u64 (u2 : Int))).setCell ⟨R, 3, none⟩ (.int .u64 (u3 : Int))).cell? ⟨R, 0, none⟩ = some (.int .u64 (u0 : Int)) :=
    (World.cell?_setCell_other _ _ _ _ (by simp)).trans ((World.cell?_setCell_other _ _ _ _ (by simp)).trans ((World.cell?_setCell_other _ _ _ _ (by simp)).trans (World.cell?_setCell_same' _ _ _ (by rw [r0]; rfl))))
  have s1 : ((((w4.setCell ⟨R, 0, none⟩ (.int .u64 (u0 : Int))).setCell ⟨R, 1, none⟩ (.int .u64 (u1 : Int))).setCell ⟨R, 2, none⟩ (.int .u64 (u2 : Int))).setCell ⟨R, 3, none⟩ (.int .u64 (u3 : Int))).cell? ⟨R, 1, none⟩ = some (.int .u64 (u1 : Int)) :=
    (World.cell?_setCell_other _ _ _ _ (by simp)).trans ((World.cell?_setCell_other _ _ _ _ (by simp)).trans (World.cell?_setCell_same' _ _ _ (by rw [World.cell?_setCell_other _ _ _ _ (by simp), r1]; rfl)))
  have s2 : ((((w4.setCell ⟨R, 0, none⟩ (.int .u64 (u0 : Int))).setCell ⟨R, 1, none⟩ (.int .u64 (u1 : Int))).setCell ⟨R, 2, none⟩ (.int .u64 (u2 : Int))).setCell ⟨R, 3, none⟩ (.int .u64 (u3 : Int))).cell? ⟨R, 2, none⟩ = some (.int .u64 (u2 : Int)) :=
    (World.cell?_setCell_other _ _ _ _ (by simp)).trans (World.cell?_setCell_same' _ _ _ (by rw [World.cell?_setCell_other _ _ _ _ (by simp), World.cell?_setCell_other _ _ _ _ (by simp), r2]; rfl))
  have s3 : ((((w4.setCell ⟨R, 0, none⟩ (.int .u64 (u0 : Int))).setCell ⟨R, 1, none⟩ (.int .u64 (u1 : Int))).setCell ⟨R, 2, none⟩ (.int .u64 (u2 : Int))).setCell ⟨R, 3, none⟩ (.int .u64 (u3 : Int))).cell? ⟨R, 3, none⟩ = some (.int .u64 (u3 : Int)) :=
    World.cell?_setCell_same' _ _ _ (by rw [World.cell?_setCell_other _ _ _ _ (by simp), World.cell?_setCell_other _ _ _ _ (by simp), World.cell?_setCell_other _ _ _ _ (by simp), r3]; rfl)
  have hRw : w.heap.size ≤ R := by have := HRD.out; omega
  have hT6 : Below w.heap.size w ((((w4.setCell ⟨R, 0, none⟩ (.int .u64 (u0 : Int))).setCell ⟨R, 1, none⟩ (.int .u64 (u1 : Int))).setCell ⟨R, 2, none⟩ (.int .u64 (u2 : Int))).setCell ⟨R, 3, none⟩ (.int .u64 (u3 : Int))) := (((HB4.out.setCell (p := ⟨R, 0, none⟩) hRw _).setCell (p := ⟨R, 1, none⟩) hRw _).setCell (p := ⟨R, 2, none⟩) hRw _).setCell (p := ⟨R, 3, none⟩) hRw _
  generalize (((w4.setCell ⟨R, 0, none⟩ (.int .u64 (u0 : Int))).setCell ⟨R, 1, none⟩ (.int .u64 (u1 : Int))).setCell ⟨R, 2, none⟩ (.int .u64 (u2 : Int))).setCell ⟨R, 3, none⟩ (.int .u64 (u3 : Int)) = w6 at s0 s1 s2 s3 hT6 ⊢
  refine bodyPost_ret (v := .agg #[.int .u64 (u0 : Int), .int .u64 (u1 : Int), .int .u64 (u2 : Int), .int .u64 (u3 : Int)]) (by simp [results, Tryd.f29, go_sem, s0, s1, s2, s3]) rfl ?_
  exact ⟨rfl, below_drewN hT6 2⟩

theorem since (y z : Nat) (w : World) (hy : y ≤ 255) (hz : z ≤ 255) : Calls Tryd.prog 29 #[.int .i64 (y : Int), .int .i64 (z : Int)] w fun e w' => e = .returned (.agg #[.int .u64 (wd (2 ^ y ||| 2 ^ z) 0 : Int), .int .u64 (wd (2 ^ y ||| 2 ^ z) 1 : Int), .int .u64 (wd (2 ^ y ||| 2 ^ z) 2 : Int), .int .u64 (wd (2 ^ y ||| 2 ^ z) 3 : Int)]) ∧ Below w.heap.size w w' :=
  sinceA y z _ _ _ _ w hy hz rfl rfl rfl rfl

end Go.Proofs.YtienmoannnhhmaaDoor.Sp
