/- What Set and Copy of package tone do; many ticks. (Written by wip/gen/gen_tone6.py.) -/
import Derived.Test.YtdnfclhljahghaaTone5
namespace Go.Proofs.Ytdnfclhljahghaa.To
open Go.RowKit
set_option linter.unusedVariables false

theorem ix0 (v0 v1 v2 v3 v4 v5 v6 v7 : Go.Value) (w : World) : (Instr.index 30 (.agg #[v0, v1, v2, v3, v4, v5, v6, v7]) (.int .i64 0)).run Try.prog w = .ok v0 w := by kernel_rfl
theorem ix1 (v0 v1 v2 v3 v4 v5 v6 v7 : Go.Value) (w : World) : (Instr.index 30 (.agg #[v0, v1, v2, v3, v4, v5, v6, v7]) (.int .i64 1)).run Try.prog w = .ok v1 w := by kernel_rfl
theorem ix2 (v0 v1 v2 v3 v4 v5 v6 v7 : Go.Value) (w : World) : (Instr.index 30 (.agg #[v0, v1, v2, v3, v4, v5, v6, v7]) (.int .i64 2)).run Try.prog w = .ok v2 w := by kernel_rfl
theorem ix3 (v0 v1 v2 v3 v4 v5 v6 v7 : Go.Value) (w : World) : (Instr.index 30 (.agg #[v0, v1, v2, v3, v4, v5, v6, v7]) (.int .i64 3)).run Try.prog w = .ok v3 w := by kernel_rfl
theorem ix4 (v0 v1 v2 v3 v4 v5 v6 v7 : Go.Value) (w : World) : (Instr.index 30 (.agg #[v0, v1, v2, v3, v4, v5, v6, v7]) (.int .i64 4)).run Try.prog w = .ok v4 w := by kernel_rfl
theorem ix5 (v0 v1 v2 v3 v4 v5 v6 v7 : Go.Value) (w : World) : (Instr.index 30 (.agg #[v0, v1, v2, v3, v4, v5, v6, v7]) (.int .i64 5)).run Try.prog w = .ok v5 w := by kernel_rfl
theorem ix6 (v0 v1 v2 v3 v4 v5 v6 v7 : Go.Value) (w : World) : (Instr.index 30 (.agg #[v0, v1, v2, v3, v4, v5, v6, v7]) (.int .i64 6)).run Try.prog w = .ok v6 w := by kernel_rfl
theorem ix7 (v0 v1 v2 v3 v4 v5 v6 v7 : Go.Value) (w : World) : (Instr.index 30 (.agg #[v0, v1, v2, v3, v4, v5, v6, v7]) (.int .i64 7)).run Try.prog w = .ok v7 w := by kernel_rfl

/-- May these be a voice's words? -/
def rightV (x0 x1 x2 x3 x4 x5 x6 x7 : Int) : Bool := decide ((0 ≤ x0 ∧ x0 ≤ 15) ∧ (0 ≤ x1 ∧ x1 ≤ 31) ∧ (0 ≤ x2 ∧ x2 ≤ 15) ∧ (0 ≤ x3 ∧ x3 ≤ 15) ∧ (0 ≤ x4 ∧ x4 ≤ 31) ∧ (0 ≤ x5 ∧ x5 ≤ 511) ∧ (0 ≤ x6 ∧ x6 ≤ 95) ∧ (0 ≤ x7 ∧ x7 ≤ 1))

set_option maxRecDepth 100000 in
set_option maxHeartbeats 4000000 in
theorem canBe (x0 x1 x2 x3 x4 x5 x6 x7 : Int) (w : World) : Calls Try.prog 57 #[.agg #[.int .i64 x0, .int .i64 x1, .int .i64 x2, .int .i64 x3, .int .i64 x4, .int .i64 x5, .int .i64 x6, .int .i64 x7]] w fun e w' => e = .returned (.bool (rightV x0 x1 x2 x3 x4 x5 x6 x7)) ∧ Below w.heap.size w w' := by
  have i0 := ix0
  have i1 := ix1
  have i2 := ix2
  have i3 := ix3
  have i4 := ix4
  have i5 := ix5
  have i6 := ix6
  have i7 := ix7
  go_enter Try.func57, Try.ntmps57
  go_wp2_with (fail)
  refine wp_loop_rounds 10 ?_
  rw [rounds_succ]
  by_cases g0 : 0 ≤ x0 ∧ x0 ≤ 15
  rotate_left
  · have HE : Hid (rightV x0 x1 x2 x3 x4 x5 x6 x7 = false) := (show rightV x0 x1 x2 x3 x4 x5 x6 x7 = false from decide_eq_false (fun h => by obtain ⟨u0, u1, u2, u3, u4, u5, u6, u7⟩ := h; exact g0 u0))
    by_cases hneg : x0 < 0
    · clear g0
      go_wp2
      go_returns
      exact ⟨ret_bool HE.out.symm, by go_grown⟩
    · have hbig : 15 < x0 := by omega
      clear g0
      go_wp2
      go_returns
      exact ⟨ret_bool HE.out.symm, by go_grown⟩
  have G0 : Hid (0 ≤ x0 ∧ x0 ≤ 15) := g0
  have n0 : ¬ x0 < 0 := by omega
  have m0 : ¬ 15 < x0 := by omega
  clear g0
  go_wp2_with (fail)
  clear n0 m0
  rw [rounds_succ]
  by_cases g1 : 0 ≤ x1 ∧ x1 ≤ 31
  rotate_left
  · have HE : Hid (rightV x0 x1 x2 x3 x4 x5 x6 x7 = false) := (show rightV x0 x1 x2 x3 x4 x5 x6 x7 = false from decide_eq_false (fun h => by obtain ⟨u0, u1, u2, u3, u4, u5, u6, u7⟩ := h; exact g1 u1))
    by_cases hneg : x1 < 0
    · clear g1
      go_wp2
      go_returns
      exact ⟨ret_bool HE.out.symm, by go_grown⟩
    · have hbig : 31 < x1 := by omega
      clear g1
      go_wp2
      go_returns
      exact ⟨ret_bool HE.out.symm, by go_grown⟩
  have G1 : Hid (0 ≤ x1 ∧ x1 ≤ 31) := g1
  have n1 : ¬ x1 < 0 := by omega
  have m1 : ¬ 31 < x1 := by omega
  clear g1
  go_wp2_with (fail)
  clear n1 m1
  rw [rounds_succ]
  by_cases g2 : 0 ≤ x2 ∧ x2 ≤ 15
  rotate_left
  · have HE : Hid (rightV x0 x1 x2 x3 x4 x5 x6 x7 = false) := (show rightV x0 x1 x2 x3 x4 x5 x6 x7 = false from decide_eq_false (fun h => by obtain ⟨u0, u1, u2, u3, u4, u5, u6, u7⟩ := h; exact g2 u2))
    by_cases hneg : x2 < 0
    · clear g2
      go_wp2
      go_returns
      exact ⟨ret_bool HE.out.symm, by go_grown⟩
    · have hbig : 15 < x2 := by omega
      clear g2
      go_wp2
      go_returns
      exact ⟨ret_bool HE.out.symm, by go_grown⟩
  have G2 : Hid (0 ≤ x2 ∧ x2 ≤ 15) := g2
  have n2 : ¬ x2 < 0 := by omega
  have m2 : ¬ 15 < x2 := by omega
  clear g2
  go_wp2_with (fail)
  clear n2 m2
  rw [rounds_succ]
  by_cases g3 : 0 ≤ x3 ∧ x3 ≤ 15
  rotate_left
  · have HE : Hid (rightV x0 x1 x2 x3 x4 x5 x6 x7 = false) := (show rightV x0 x1 x2 x3 x4 x5 x6 x7 = false from decide_eq_false (fun h => by obtain ⟨u0, u1, u2, u3, u4, u5, u6, u7⟩ := h; exact g3 u3))
    by_cases hneg : x3 < 0
    · clear g3
      go_wp2
      go_returns
      exact ⟨ret_bool HE.out.symm, by go_grown⟩
    · have hbig : 15 < x3 := by omega
      clear g3
      go_wp2
      go_returns
      exact ⟨ret_bool HE.out.symm, by go_grown⟩
  have G3 : Hid (0 ≤ x3 ∧ x3 ≤ 15) := g3
  have n3 : ¬ x3 < 0 := by omega
  have m3 : ¬ 15 < x3 := by omega
  clear g3
  go_wp2_with (fail)
  clear n3 m3
  rw [rounds_succ]
  by_cases g4 : 0 ≤ x4 ∧ x4 ≤ 31
  rotate_left
  · have HE : Hid (rightV x0 x1 x2 x3 x4 x5 x6 x7 = false) := (show rightV x0 x1 x2 x3 x4 x5 x6 x7 = false from decide_eq_false (fun h => by obtain ⟨u0, u1, u2, u3, u4, u5, u6, u7⟩ := h; exact g4 u4))
    by_cases hneg : x4 < 0
    · clear g4
      go_wp2
      go_returns
      exact ⟨ret_bool HE.out.symm, by go_grown⟩
    · have hbig : 31 < x4 := by omega
      clear g4
      go_wp2
      go_returns
      exact ⟨ret_bool HE.out.symm, by go_grown⟩
  have G4 : Hid (0 ≤ x4 ∧ x4 ≤ 31) := g4
  have n4 : ¬ x4 < 0 := by omega
  have m4 : ¬ 31 < x4 := by omega
  clear g4
  go_wp2_with (fail)
  clear n4 m4
  rw [rounds_succ]
  by_cases g5 : 0 ≤ x5 ∧ x5 ≤ 511
  rotate_left
  · have HE : Hid (rightV x0 x1 x2 x3 x4 x5 x6 x7 = false) := (show rightV x0 x1 x2 x3 x4 x5 x6 x7 = false from decide_eq_false (fun h => by obtain ⟨u0, u1, u2, u3, u4, u5, u6, u7⟩ := h; exact g5 u5))
    by_cases hneg : x5 < 0
    · clear g5
      go_wp2
      go_returns
      exact ⟨ret_bool HE.out.symm, by go_grown⟩
    · have hbig : 511 < x5 := by omega
      clear g5
      go_wp2
      go_returns
      exact ⟨ret_bool HE.out.symm, by go_grown⟩
  have G5 : Hid (0 ≤ x5 ∧ x5 ≤ 511) := g5
  have n5 : ¬ x5 < 0 := by omega
  have m5 : ¬ 511 < x5 := by omega
  clear g5
  go_wp2_with (fail)
  clear n5 m5
  rw [rounds_succ]
  by_cases g6 : 0 ≤ x6 ∧ x6 ≤ 95
  rotate_left
  · have HE : Hid (rightV x0 x1 x2 x3 x4 x5 x6 x7 = false) := (show rightV x0 x1 x2 x3 x4 x5 x6 x7 = false from decide_eq_false (fun h => by obtain ⟨u0, u1, u2, u3, u4, u5, u6, u7⟩ := h; exact g6 u6))
    by_cases hneg : x6 < 0
    · clear g6
      go_wp2
      go_returns
      exact ⟨ret_bool HE.out.symm, by go_grown⟩
    · have hbig : 95 < x6 := by omega
      clear g6
      go_wp2
      go_returns
      exact ⟨ret_bool HE.out.symm, by go_grown⟩
  have G6 : Hid (0 ≤ x6 ∧ x6 ≤ 95) := g6
  have n6 : ¬ x6 < 0 := by omega
  have m6 : ¬ 95 < x6 := by omega
  clear g6
  go_wp2_with (fail)
  clear n6 m6
  rw [rounds_succ]
  by_cases g7 : 0 ≤ x7 ∧ x7 ≤ 1
  rotate_left
  · have HE : Hid (rightV x0 x1 x2 x3 x4 x5 x6 x7 = false) := (show rightV x0 x1 x2 x3 x4 x5 x6 x7 = false from decide_eq_false (fun h => by obtain ⟨u0, u1, u2, u3, u4, u5, u6, u7⟩ := h; exact g7 u7))
    by_cases hneg : x7 < 0
    · clear g7
      go_wp2
      go_returns
      exact ⟨ret_bool HE.out.symm, by go_grown⟩
    · have hbig : 1 < x7 := by omega
      clear g7
      go_wp2
      go_returns
      exact ⟨ret_bool HE.out.symm, by go_grown⟩
  have G7 : Hid (0 ≤ x7 ∧ x7 ≤ 1) := g7
  have n7 : ¬ x7 < 0 := by omega
  have m7 : ¬ 1 < x7 := by omega
  clear g7
  go_wp2_with (fail)
  clear n7 m7
  rw [rounds_succ]
  go_wp2_with (fail)
  go_returns
  exact ⟨ret_bool (show true = rightV x0 x1 x2 x3 x4 x5 x6 x7 from (decide_eq_true ⟨G0.out, G1.out, G2.out, G3.out, G4.out, G5.out, G6.out, G7.out⟩).symm), by go_grown⟩

end Go.Proofs.Ytdnfclhljahghaa.To
