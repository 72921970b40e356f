/- ToneNil, walked. -/
import Derived.Test.YtdnfclhljahghaaTone5
import Derived.Test.YtdnfclhljahghaaArrEq
set_option linter.unusedVariables false
namespace Go.Proofs.Ytdnfclhljahghaa.toneNil
open Go.RowKit To

theorem zeros_self (w : World) : (Op.equalIn 10000 30 (.agg #[.int .i64 0, .int .i64 0, .int .i64 0, .int .i64 0, .int .i64 0, .int .i64 0, .int .i64 0, .int .i64 0]) (.agg #[.int .i64 0, .int .i64 0, .int .i64 0, .int .i64 0, .int .i64 0, .int .i64 0, .int .i64 0, .int .i64 0])).run Try.prog w = .ok true w :=
  equal_self (n := 8) (e := 3) (k' := .i64) (by kernel_rfl) (by kernel_rfl) (by kernel_rfl) (by kernel_rfl) _ (fun j hj => by
    have : j < 8 := hj
    rcases (show j = 0 ∨ j = 1 ∨ j = 2 ∨ j = 3 ∨ j = 4 ∨ j = 5 ∨ j = 6 ∨ j = 7 by omega) with rfl | rfl | rfl | rfl | rfl | rfl | rfl | rfl <;> exact ⟨_, _, rfl⟩) w

theorem nil_below {w w' W : World} (h : Below W.heap.size W w) (hb : Below w.heap.size w w') : Below W.heap.size W w' := h.trans (hb.mono h.size)

set_option maxRecDepth 100000 in
set_option maxHeartbeats 2000000 in
theorem walk (a0 : Int) (_ : (Lit.int .u8 a0).wf = true) (W : World) :
    Calls Try.prog 7 #[.int .u8 a0] W fun e w' => e = .returned (.bool true) ∧ Below W.heap.size W w' := by
  have heq := zeros_self
  go_enter Try.func7, Try.ntmps7
  go_wp2_with (first
    | (go_at_call 19; refine (Control_nil _ _).mono ?_; rintro e w1 ⟨rfl, hB1⟩)
    | (go_at_call 20; refine (Rate_nil _ _).mono ?_; rintro e w2 ⟨rfl, hB2⟩)
    | (go_at_call 21; refine (Volume_nil _ _).mono ?_; rintro e w3 ⟨rfl, hB3⟩)
    | (go_at_call 25; refine (Tick_nil _).mono ?_; rintro e w1 ⟨rfl, rfl⟩)
    | (go_at_call 16; refine (Level_nil _).mono ?_; rintro e w1 ⟨rfl, rfl⟩)
    | (go_at_call 14; refine (Words_nil _).mono ?_; rintro e w4 ⟨rfl, hB4⟩)
    | (go_at_call 23; refine (Set_nil _).mono ?_; rintro e w5 ⟨rfl, hB5⟩)
    | (go_at_call 24; refine (Copy_nil _).mono ?_; rintro e w1 ⟨rfl, rfl⟩)
    | (go_at_call 18; refine (awake19 _).mono ?_; rintro e w6 ⟨rfl, hB6⟩))
  go_returns
  exact ⟨rfl, nil_below (nil_below (nil_below (nil_below (nil_below hB1 hB2) hB3) hB4) hB5) hB6⟩

end Go.Proofs.Ytdnfclhljahghaa.toneNil
