/- CartNil, walked: whatever comes in, true comes out. -/
import Derived.Test.YtcohalkofahphaaDoorAwakeC
import Derived.Test.YtcohalkofahphaaDoorArrEq
set_option linter.unusedVariables false
namespace Go.Proofs.YtcohalkofahphaaDoor.Ca
open Go.RowKit Img

theorem ram_self (l : List Int) (h : l.length = 128) (w : World) : (Op.equalIn 10000 35 (.agg (bytes l).toArray) (.agg (bytes l).toArray)).run Tryd.prog w = .ok true w :=
  equal_self (P := Tryd.prog) (t := 35) (e := 5) Tryd.underlying35 (by kernel_rfl) (by kernel_rfl) Tryd.underlying5 _ (fun j hj => ⟨.u8, l[j]'(by omega), by simp [bytes]⟩) w

set_option maxRecDepth 100000 in
set_option maxHeartbeats 2000000 in
theorem cartNil_walk (a0 : Int) (W : World) (ht : Tab W) :
    Calls Tryd.prog 9 #[.int .u16 a0] W fun e w' => e = .returned (.bool true) ∧ Below W.heap.size W w' := by
  have h0 := ht.lt
  have HT : Hid (Tab W) := ht
  have hz := zero128
  have heq := ram_self zer (by rfl)
  clear ht
  go_enter Tryd.func9, Tryd.ntmps9
  go_wp2_with (first
    | (go_at_call 25; refine (Watch_nil _ _ _ _).mono ?_; rintro e w2 ⟨rfl, hw2⟩; rw [hw2]; clear hw2 w2)
    | (go_at_call 21; refine (Peek_nil _ _).mono ?_; rintro e w2 ⟨rfl, hw2⟩; rw [hw2]; clear hw2 w2)
    | (go_at_call 27; refine (Show_nil _).mono ?_; rintro e w2 ⟨rfl, hw2⟩; rw [hw2]; clear hw2 w2)
    | (go_at_call 23; refine (Where_nil _ _).mono ?_; rintro e w2 ⟨rfl, hw2⟩; rw [hw2]; clear hw2 w2)
    | (go_at_call 28; fail))
  refine (Extra_nil _).mono ?_
  rintro e w3 ⟨rfl, hB3⟩
  have HB3 : Hid (Below W.heap.size W w3) := hB3
  clear hB3
  go_wp2_with (first
    | (go_at_call 33; refine (Copy_nil _).mono ?_; rintro e w4 ⟨rfl, hw4⟩; rw [hw4]; clear hw4 w4)
    | (go_at_call 20; refine (awake5 _ (HT.out.below HB3.out h0)).mono ?_; rintro e w4 ⟨rfl, hB4⟩))
  go_returns
  exact ⟨rfl, HB3.out.trans (hB4.mono HB3.out.size)⟩

end Go.Proofs.YtcohalkofahphaaDoor.Ca
