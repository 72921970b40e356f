/- CellGrids: the sizes that are not walked through. -/
import Derived.Test.YtneapdegjofodaaGridLaw
namespace Go.Proofs.Ytneapdegjofodaa.cellGrids
open Go.RowKit

set_option maxRecDepth 100000 in
set_option maxHeartbeats 1000000 in
theorem great (a0 a1 : Int) {ao : Option Addr} {n cap : Nat} {W : World} (hm : n ≤ 9223372036854775807) (h : 100 < n ∨ (60 < a0 ∧ a0 ≤ 1024) ∨ (60 < a1 ∧ a1 ≤ 1024)) :
    Calls Try.prog 4 #[.int .i64 a0, .int .i64 a1, .slice ao n cap] W fun e w' => e = .returned (.bool true) ∧ Below W.heap.size W w' := by
  have h' : (100 : Int) < (n : Int) ∨ ((n : Int) ≤ 100 ∧ 60 < a0 ∧ a0 ≤ 1024) ∨ ((n : Int) ≤ 100 ∧ a0 ≤ 60 ∧ 60 < a1 ∧ a1 ≤ 1024) ∨ ((n : Int) ≤ 100 ∧ 60 < a0 ∧ 1024 < a0 ∧ 60 < a1 ∧ a1 ≤ 1024) := by omega
  rcases h' with h1 | ⟨h1, h2, h3⟩ | ⟨h1, h2, h3, h4⟩ | ⟨h1, h2, h3, h4, h5⟩
  all_goals
    go_enter Try.func4, Try.ntmps4
    go_wp2
    go_ret
    exact ⟨rfl, Below.refl _ _⟩

set_option maxRecDepth 100000 in
set_option maxHeartbeats 2000000 in
theorem bad (a0 a1 : Int) {ao : Option Addr} {n cap : Nat} {W : World} (hn : n ≤ 100) (h0 : a0 ≤ 60 ∨ 1024 < a0) (h1 : a1 ≤ 60 ∨ 1024 < a1) (h : ¬ (1 ≤ a0 ∧ a0 ≤ 1024 ∧ 1 ≤ a1 ∧ a1 ≤ 1024)) :
    Calls Try.prog 4 #[.int .i64 a0, .int .i64 a1, .slice ao n cap] W fun e w' => e = .returned (.bool true) ∧ Below W.heap.size W w' := by
  have HN : Hid (¬ (1 ≤ a0 ∧ a0 ≤ 1024 ∧ 1 ≤ a1 ∧ a1 ≤ 1024)) := h
  have hni : (n : Int) ≤ 100 := by omega
  have h' : (1 ≤ a0 ∧ a0 ≤ 60) ∨ (a0 < 1 ∧ a0 ≤ 60) ∨ (60 < a0 ∧ ¬ a0 ≤ 1024 ∧ 1 ≤ a0) := by omega
  have h'' : (1 ≤ a1 ∧ a1 ≤ 60 ∧ a1 ≤ 1024) ∨ (a1 < 1 ∧ a1 ≤ 60 ∧ a1 ≤ 1024) ∨ (60 < a1 ∧ ¬ a1 ≤ 1024 ∧ 1 ≤ a1) := by omega
  have hm : n ≤ 9223372036854775807 := by omega
  clear h h0 h1 hn
  rcases h' with ⟨p1, p2⟩ | ⟨p1, p2⟩ | ⟨p1, p2, p3⟩ <;> rcases h'' with ⟨q1, q2, q3⟩ | ⟨q1, q2, q3⟩ | ⟨q1, q2, q3⟩
  · have := HN.out; omega
  all_goals
    go_enter Try.func4, Try.ntmps4
    go_wp2_with (first
      | (go_at_call 18; refine (Grid.New_no a0 a1 7 _ HN.out).mono ?_; rintro e w1 ⟨rfl, hw⟩; subst w1)
      | (go_at_call 19; refine (Grid.Size_nil _).mono ?_; rintro e w1 ⟨rfl, hw⟩; subst w1)
      | (go_at_call 20; refine (Grid.Get_nil 0 0 _).mono ?_; rintro e w1 ⟨rfl, hw⟩; subst w1)
      | (go_at_call 21; refine (Grid.Set_nil 0 0 1 _).mono ?_; rintro e w1 ⟨rfl, hw⟩; subst w1)
      | (go_at_call 22; refine (Grid.Row_nil 0 _).mono ?_; rintro e w1 ⟨rfl, hw⟩; subst w1)
      | (go_at_call 15; refine (awake3 _).mono ?_; rintro e w4 ⟨rfl, hb4⟩; have HB7 : Hid (Below W.heap.size W w4) := hb4; clear hb4))
    all_goals first
      | (exfalso; have hno : ¬ ((!decide (a1 ≤ 1024)) = false) := (by simp only [decide_eq_false (show ¬ a1 ≤ 1024 from by omega)]; simp); contradiction)
      | skip
    go_ret
    exact ⟨rfl, HB7.out⟩

end Go.Proofs.Ytneapdegjofodaa.cellGrids
