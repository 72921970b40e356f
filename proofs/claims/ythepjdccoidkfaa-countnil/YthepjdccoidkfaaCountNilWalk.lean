/- CountNil, walked: whatever comes in, true comes out. -/
import Derived.Test.YthepjdccoidkfaaAwakeTwo
namespace Go.Proofs.Ythepjdccoidkfaa.countNil
open Go.RowKit Count

set_option maxRecDepth 100000 in
set_option maxHeartbeats 1000000 in
theorem walk (a0 : Int) (_ : (Lit.int .i64 a0).wf = true) (W : World) :
    Calls Try.prog 14 #[.int .i64 a0] W fun e w' => e = .returned (.bool true) ∧ Below W.heap.size W w' := by
  go_enter Try.func14, Try.ntmps14
  go_wp2_with (first
    | (go_at_call 52; refine (PlTick_nil _).mono ?_; rintro e w2 ⟨rfl, rfl⟩)
    | (go_at_call 50; refine (PlCount_nil _).mono ?_; rintro e w2 ⟨rfl, rfl⟩)
    | (go_at_call 51; refine (PlAt_nil _ _).mono ?_; rintro e w2 ⟨rfl, rfl⟩)
    | (go_at_call 49; refine (PlSet_nil _ _).mono ?_; rintro e w2 ⟨rfl, rfl⟩)
    | (go_at_call 53; refine (PlCopy_nil _).mono ?_; rintro e w2 ⟨rfl, rfl⟩)
    | (go_at_call 38; refine (awake2 _).mono ?_; rintro e w3 ⟨rfl, hb⟩))
  go_ret
  exact ⟨rfl, hb⟩

end Go.Proofs.Ythepjdccoidkfaa.countNil
