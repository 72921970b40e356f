/- What the document's own answers of layer 20 come to. -/
import Derived.Test.YtdnfclhljahghaaPot5
import Derived.Test.YtdnfclhljahghaaRefP
namespace Go.Proofs.Ytdnfclhljahghaa.Po
open Go.RowKit
set_option linter.unusedVariables false

set_option maxRecDepth 100000 in
set_option maxHeartbeats 2000000 in
theorem RHigh (p : Pt) (n : Int) (w : World) : Calls Try.prog 40 #[p.rv, .int .i64 n] w fun e w' => e = .returned (.bool (p.high n)) ∧ Below w.heap.size w w' := by
  obtain ⟨v0, v1, v2, v3, c, d, l, h0, t0, h1, t1⟩ := p
  unfold Pt.rv
  by_cases hn : 0 ≤ n ∧ n < 6
  · rcases six hn with rfl | rfl | rfl | rfl | rfl | rfl
    iterate 4
      · cases d
        · go_enter Try.func40, Try.ntmps40
          go_wp2_with (fail)
          generalize hw1 : w.alloc _ = w1
          have hr : Row w1 w.heap.size (Pt.rc ⟨v0, v1, v2, v3, c, false, l, h0, t0, h1, t1⟩) := by rw [← hw1]; exact Row.new w _ _
          have HB : Hid (Below w.heap.size w w1) := by rw [← hw1]; exact (Below.refl _ w).alloc (Nat.le_refl _) _
          have y0 := hr.at_ 0 _ rfl
          have y1 := hr.at_ 1 _ rfl
          have y2 := hr.at_ 2 _ rfl
          have y3 := hr.at_ 3 _ rfl
          have y4 := hr.at_ 4 _ rfl
          have y5 := hr.at_ 5 _ rfl
          clear hr hw1
          generalize hX : w.heap.size = X at y0 y1 y2 y3 y4 y5 HB ⊢
          have HX : Hid (w.heap.size = X) := hX
          clear hX
          go_quiet (fail)
          go_wp2
          go_returns
          exact ⟨ret_bool (by simp [Pt.high]), by rw [HX.out]; exact below_drewN HB.out _⟩
        · go_enter Try.func40, Try.ntmps40
          go_wp2_with (fail)
          generalize hw1 : w.alloc _ = w1
          have hr : Row w1 w.heap.size (Pt.rc ⟨v0, v1, v2, v3, c, true, l, h0, t0, h1, t1⟩) := by rw [← hw1]; exact Row.new w _ _
          have HB : Hid (Below w.heap.size w w1) := by rw [← hw1]; exact (Below.refl _ w).alloc (Nat.le_refl _) _
          have y0 := hr.at_ 0 _ rfl
          have y1 := hr.at_ 1 _ rfl
          have y2 := hr.at_ 2 _ rfl
          have y3 := hr.at_ 3 _ rfl
          have y4 := hr.at_ 4 _ rfl
          have y5 := hr.at_ 5 _ rfl
          clear hr hw1
          generalize hX : w.heap.size = X at y0 y1 y2 y3 y4 y5 HB ⊢
          have HX : Hid (w.heap.size = X) := hX
          clear hX
          go_quiet (fail)
          go_wp2
          go_returns
          exact ⟨ret_bool (by simp [Pt.high]), by rw [HX.out]; exact below_drewN HB.out _⟩
    all_goals
      cases l
      all_goals
        go_enter Try.func40, Try.ntmps40
        go_wp2
        go_returns
        exact ⟨rfl, by go_grown⟩
  · rw [high_no hn]
    by_cases h0 : n < 0
    · have h1 : ¬ 0 ≤ n := by omega
      have h2 : (n == 4) = false := beq_eq_false_iff_ne.2 (by omega)
      have h3 : (n == 5) = false := beq_eq_false_iff_ne.2 (by omega)
      clear hn
      go_enter Try.func40, Try.ntmps40
      go_wp2
      go_returns
      exact ⟨rfl, by go_grown⟩
    · have h6 : 0 ≤ n := by omega
      have h7 : ¬ n ≤ 3 := by omega
      have h2 : (n == 4) = false := beq_eq_false_iff_ne.2 (by omega)
      have h3 : (n == 5) = false := beq_eq_false_iff_ne.2 (by omega)
      clear hn h0
      go_enter Try.func40, Try.ntmps40
      go_wp2
      go_returns
      exact ⟨rfl, by go_grown⟩

end Go.Proofs.Ytdnfclhljahghaa.Po
