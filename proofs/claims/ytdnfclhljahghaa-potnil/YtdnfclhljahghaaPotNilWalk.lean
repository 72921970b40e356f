/- PotNil, walked. -/
import Derived.Test.YtdnfclhljahghaaPot4
import Derived.Test.YtdnfclhljahghaaArrEq
set_option linter.unusedVariables false
namespace Go.Proofs.Ytdnfclhljahghaa.potNil
open Go.RowKit Po

theorem zeros_self (w : World) : (Op.equalIn 10000 55 zeros zeros).run Try.prog w = .ok true w :=
  equal_self (n := 11) (e := 3) (k' := .i64) (by kernel_rfl) (by kernel_rfl) (by kernel_rfl) (by kernel_rfl) _ (fun j hj => by
    have : j < 11 := hj
    rcases (show j = 0 ∨ j = 1 ∨ j = 2 ∨ j = 3 ∨ j = 4 ∨ j = 5 ∨ j = 6 ∨ j = 7 ∨ j = 8 ∨ j = 9 ∨ j = 10 by omega) with rfl | rfl | rfl | rfl | rfl | rfl | rfl | rfl | rfl | rfl | rfl <;> exact ⟨_, _, rfl⟩) w

set_option maxRecDepth 100000 in
set_option maxHeartbeats 2000000 in
theorem walk (a0 : Int) (_ : (Lit.int .i64 a0).wf = true) (a1 : Int) (_ : (Lit.int .u8 a1).wf = true) (W : World) :
    Calls Try.prog 11 #[.int .i64 a0, .int .u8 a1] W fun e w' => e = .returned (.bool true) ∧ Below W.heap.size W w' := by
  have heq := zeros_self
  unfold zeros at heq
  go_enter Try.func11, Try.ntmps11
  go_wp2_with (first
    | (go_at_call 28; refine (In_nil _ _ _).mono ?_; rintro e w1 ⟨rfl, rfl⟩)
    | (go_at_call 30; refine (Line_nil _).mono ?_; rintro e w1 ⟨rfl, rfl⟩)
    | (go_at_call 32; refine (Dump_nil _ _).mono ?_; rintro e w1 ⟨rfl, rfl⟩)
    | (go_at_call 34; refine (Latch_nil _ _).mono ?_; rintro e w1 ⟨rfl, rfl⟩)
    | (go_at_call 39; refine (High_nil _ _).mono ?_; rintro e w1 ⟨rfl, rfl⟩)
    | (go_at_call 41; refine (Words_nil _).mono ?_; rintro e w2 ⟨rfl, hB2⟩; unfold zeros)
    | (go_at_call 36; refine (Set_nil (.bool true) _).mono ?_; rintro e w3 ⟨rfl, hB3⟩)
    | (go_at_call 44; refine (Copy_nil _).mono ?_; rintro e w1 ⟨rfl, rfl⟩)
    | (go_at_call 43; refine (awake20 _).mono ?_; rintro e w5 ⟨rfl, hB5⟩))
  go_returns
  exact ⟨rfl, (hB2.trans (hB3.mono hB2.size)).trans (hB5.mono (Nat.le_trans hB2.size hB3.size))⟩

end Go.Proofs.Ytdnfclhljahghaa.potNil
