/- SpriteNil, walked: whatever comes in, true comes out. -/
import Derived.Test.YtienmoannnhhmaaDoorAwakeS
import Derived.Test.YtienmoannnhhmaaDoorArrEq
set_option linter.unusedVariables false
namespace Go.Proofs.YtienmoannnhhmaaDoor.spriteNil
open Go.RowKit Sp

theorem words_self (x y z : Int) (w : World) : (Op.equalIn 10000 29 (.agg #[.int .i64 x, .int .i64 y, .int .i64 z]) (.agg #[.int .i64 x, .int .i64 y, .int .i64 z])).run Tryd.prog w = .ok true w :=
  equal_self (P := Tryd.prog) (t := 29) (e := 3) Tryd.underlying29 (by kernel_rfl) (by kernel_rfl) Tryd.underlying3 _ (fun j hj => by
    match j, hj with
    | 0, _ => exact ⟨_, _, rfl⟩
    | 1, _ => exact ⟨_, _, rfl⟩
    | 2, _ => exact ⟨_, _, rfl⟩) w

set_option maxRecDepth 100000 in
set_option maxHeartbeats 2000000 in
theorem walk (a0 : Int) (w0 : (Lit.int .i64 a0).wf = true) (W : World) (ht : Tb W) :
    Calls Tryd.prog 7 #[.int .i64 a0] W fun e w' => e = .returned (.bool true) ∧ Below W.heap.size W w' := by
  have heq := words_self
  have HT : Hid (Tb W) := ht
  clear ht
  go_enter Tryd.func7, Tryd.ntmps7
  go_wp2_with (first
    | (go_at_call 14; refine (Tick_nil 1 _).mono ?_; rintro e w1 ⟨rfl, rfl⟩)
    | (go_at_call 20; refine (Count_nil _).mono ?_; rintro e w1 ⟨rfl, rfl⟩)
    | (go_at_call 10; refine (Put_nil a0 _).mono ?_; rintro e w1 ⟨rfl, rfl⟩)
    | (go_at_call 16; refine (Dot_nil a0 _).mono ?_; rintro e w1 ⟨rfl, rfl⟩)
    | (go_at_call 18; refine (Words_nil _).mono ?_; rintro e w2 ⟨rfl, hB2⟩)
    | (go_at_call 11; refine (Set_nil 0 0 0 _).mono ?_; rintro e w3 ⟨rfl, hB3⟩)
    | (go_at_call 25; refine (Copy_nil _).mono ?_; rintro e w4 ⟨rfl, rfl⟩)
    | (go_at_call 21; refine (awake16 _ (HT.out.below (b_keep hB2 hB3))).mono ?_; rintro e w5 ⟨rfl, hB5⟩))
  go_returns
  exact ⟨rfl, b_keep (b_keep hB2 hB3) hB5⟩

end Go.Proofs.YtienmoannnhhmaaDoor.spriteNil
