/- The document's own answers of layer 16: which counts start. -/
import Derived.Test.YtienmoannnhhmaaDoorAwakeS
set_option linter.unusedVariables false
namespace Go.Proofs.YtienmoannnhhmaaDoor.Sp
open Go.RowKit

theorem stB_cases (n c : Nat) : stB n c = (if n = 0 then true else if n = 16 then (decide (c % 8 = 1) || decide (c % 8 = 3)) else if n = 32 then (decide (c % 8 = 2) || decide (c % 8 = 3) || decide (c % 8 = 6)) else if n = 64 then (decide (c % 8 = 4) || decide (c % 8 = 6)) else false) := by
  have h8 : c % 8 < 8 := Nat.mod_lt _ (by decide)
  unfold stB ofB whichN
  generalize c % 8 = k at h8
  by_cases h0 : n = 0
  · subst h0
    rcases (show k = 0 ∨ k = 1 ∨ k = 2 ∨ k = 3 ∨ k = 4 ∨ k = 5 ∨ k = 6 ∨ k = 7 by omega) with rfl | rfl | rfl | rfl | rfl | rfl | rfl | rfl <;> decide
  by_cases h1 : n = 16
  · subst h1
    rcases (show k = 0 ∨ k = 1 ∨ k = 2 ∨ k = 3 ∨ k = 4 ∨ k = 5 ∨ k = 6 ∨ k = 7 by omega) with rfl | rfl | rfl | rfl | rfl | rfl | rfl | rfl <;> decide
  by_cases h2 : n = 32
  · subst h2
    rcases (show k = 0 ∨ k = 1 ∨ k = 2 ∨ k = 3 ∨ k = 4 ∨ k = 5 ∨ k = 6 ∨ k = 7 by omega) with rfl | rfl | rfl | rfl | rfl | rfl | rfl | rfl <;> decide
  by_cases h3 : n = 64
  · subst h3
    rcases (show k = 0 ∨ k = 1 ∨ k = 2 ∨ k = 3 ∨ k = 4 ∨ k = 5 ∨ k = 6 ∨ k = 7 by omega) with rfl | rfl | rfl | rfl | rfl | rfl | rfl | rfl <;> decide
  rw [if_neg h0, if_neg h1, if_neg h2, if_neg h3, if_neg h0, if_neg h1, if_neg h2, if_neg h3]
  simp

set_option maxRecDepth 100000 in
set_option maxHeartbeats 2000000 in
theorem RStart (n c : Nat) (w : World) (hn : n < 1000) (hc : c < 256) : Calls Tryd.prog 35 #[.int .i64 (c : Int), .int .i64 (n : Int)] w fun e w' => e = .returned (.bool (stB n c)) ∧ w' = w := by
  obtain ⟨k, hk⟩ : ∃ k : Nat, (c : Int) % 8 = (k : Int) := ⟨c % 8, by omega⟩
  have hkc : k = c % 8 := by omega
  have HS := stB_cases n c
  rw [← hkc] at HS
  have HSH : Hid (stB n c = (if n = 0 then true else if n = 16 then (decide (k = 1) || decide (k = 3)) else if n = 32 then (decide (k = 2) || decide (k = 3) || decide (k = 6)) else if n = 64 then (decide (k = 4) || decide (k = 6)) else false)) := HS
  have hk8 : k < 8 := by omega
  clear HS hkc
  by_cases h0 : n = 0
  · subst h0
    go_enter Tryd.func35, Tryd.ntmps35
    go_wp2
    go_returns
    exact ⟨ret_bool (by rw [HSH.out]; rfl), rfl⟩
  by_cases h1 : n = 16
  · subst h1
    rcases (show k = 0 ∨ k = 1 ∨ k = 2 ∨ k = 3 ∨ k = 4 ∨ k = 5 ∨ k = 6 ∨ k = 7 by omega) with rfl | rfl | rfl | rfl | rfl | rfl | rfl | rfl
    all_goals
      go_enter Tryd.func35, Tryd.ntmps35
      go_wp2
      go_returns
      exact ⟨ret_bool (by rw [HSH.out]; rfl), rfl⟩
  by_cases h2 : n = 32
  · subst h2
    rcases (show k = 0 ∨ k = 1 ∨ k = 2 ∨ k = 3 ∨ k = 4 ∨ k = 5 ∨ k = 6 ∨ k = 7 by omega) with rfl | rfl | rfl | rfl | rfl | rfl | rfl | rfl
    all_goals
      go_enter Tryd.func35, Tryd.ntmps35
      go_wp2
      go_returns
      exact ⟨ret_bool (by rw [HSH.out]; rfl), rfl⟩
  by_cases h3 : n = 64
  · subst h3
    rcases (show k = 0 ∨ k = 1 ∨ k = 2 ∨ k = 3 ∨ k = 4 ∨ k = 5 ∨ k = 6 ∨ k = 7 by omega) with rfl | rfl | rfl | rfl | rfl | rfl | rfl | rfl
    all_goals
      go_enter Tryd.func35, Tryd.ntmps35
      go_wp2
      go_returns
      exact ⟨ret_bool (by rw [HSH.out]; rfl), rfl⟩
  have e0 : ((n : Int) == 0) = false := beq_eq_false_iff_ne.2 (by omega)
  have e1 : ((n : Int) == 16) = false := beq_eq_false_iff_ne.2 (by omega)
  have e2 : ((n : Int) == 32) = false := beq_eq_false_iff_ne.2 (by omega)
  have e3 : ((n : Int) == 64) = false := beq_eq_false_iff_ne.2 (by omega)
  have HE : Hid (stB n c = false) := (by rw [HSH.out, if_neg h0, if_neg h1, if_neg h2, if_neg h3] : stB n c = false)
  go_enter Tryd.func35, Tryd.ntmps35
  go_wp2
  go_returns
  exact ⟨ret_bool HE.out.symm, rfl⟩

end Go.Proofs.YtienmoannnhhmaaDoor.Sp
