/- TimerNil, walked: whatever comes in, true comes out. -/
import Derived.Test.YtcidhklehhakdaaDoorAwake6
import Derived.Test.YtcidhklehhakdaaDoorArrEq
namespace Go.Proofs.YtcidhklehhakdaaDoor.timerNil
open Go.RowKit Tm

set_option maxRecDepth 100000 in
set_option maxHeartbeats 1000000 in
theorem walk (a0 a1 : Int) (W : World) (ht : Tab W) :
    Calls Tryd.prog 5 #[.int .u8 a0, .int .i64 a1] W fun e w' => e = .returned (.bool true) ∧ Below W.heap.size W w' := by
  have h0 := ht.lt
  have HT : Hid (Tab W) := ht
  have heq := fun w => equal_self (P := Tryd.prog) (t := 32) (e := 3) Tryd.underlying32 (by kernel_rfl) (by kernel_rfl) Tryd.underlying3 #[.int .i64 0, .int .i64 0, .int .i64 0, .int .i64 0, .int .i64 0] (fun j hj => by
    match j, hj with
    | 0, _ => exact ⟨_, _, rfl⟩
    | 1, _ => exact ⟨_, _, rfl⟩
    | 2, _ => exact ⟨_, _, rfl⟩
    | 3, _ => exact ⟨_, _, rfl⟩
    | 4, _ => exact ⟨_, _, rfl⟩) w
  clear ht
  go_enter Tryd.func5, Tryd.ntmps5
  go_wp2_with (first
    | (go_at_call 17; refine (Tick_nil _).mono ?_; rintro e w2 ⟨rfl, hw2⟩; rw [hw2]; clear hw2 w2)
    | (go_at_call 7; refine (Write_nil _ _ _).mono ?_; rintro e w2 ⟨rfl, hw2⟩; rw [hw2]; clear hw2 w2)
    | (go_at_call 13; refine (Read_nil _).mono ?_; rintro e w2 ⟨rfl, hw2⟩; rw [hw2]; clear hw2 w2)
    | (go_at_call 9; refine (Value_nil _).mono ?_; rintro e w2 ⟨rfl, hw2⟩; rw [hw2]; clear hw2 w2)
    | (go_at_call 10; refine (Flag_nil _).mono ?_; rintro e w2 ⟨rfl, hw2⟩; rw [hw2]; clear hw2 w2)
    | (go_at_call 12; refine (Fast_nil _).mono ?_; rintro e w2 ⟨rfl, hw2⟩; rw [hw2]; clear hw2 w2)
    | (go_at_call 15; fail))
  refine (Words_nil _).mono ?_
  rintro e w2 ⟨rfl, hB2⟩
  have HB2 : Hid (Below W.heap.size W w2) := hB2
  clear hB2
  go_wp2_with (go_at_call 14; fail)
  refine (Set_nil _ _ _ _ _ _).mono ?_
  rintro e w3 ⟨rfl, hB3⟩
  have HB3 : Hid (Below W.heap.size W w3) := HB2.out.trans (hB3.mono HB2.out.size)
  clear hB3 HB2
  go_wp2_with (first
    | (go_at_call 16; refine (Copy_nil _).mono ?_; rintro e w4 ⟨rfl, hw4⟩; rw [hw4]; clear hw4 w4)
    | (go_at_call 11; refine (awake6 _ (HT.out.below HB3.out h0)).mono ?_; rintro e w4 ⟨rfl, hB4⟩))
  go_returns
  exact ⟨rfl, HB3.out.trans (hB4.mono HB3.out.size)⟩

end Go.Proofs.YtcidhklehhakdaaDoor.timerNil
