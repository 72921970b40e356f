/- MicroNil, walked: whatever comes in, true comes out. -/
import Derived.Test.YtelmohajdmcnmaaDoorMiFY
namespace Go.Proofs.YtelmohajdmcnmaaDoor.Mi
open Go.RowKit Alu Ex
set_option linter.unusedVariables false

set_option maxRecDepth 100000 in
set_option maxHeartbeats 4000000 in
theorem microNil_walk (v : Int) (hv : (Lit.int .u8 v).wf = true) (w : World) (ht : Co.Tab w) : Calls Tryd.prog 7 #[.int .u8 v] w fun e w' => e = .returned (.bool true) ∧ Below w.heap.size w w' := by
  have HT : Hid (Co.Tab w) := ht
  clear ht hv
  go_enter Tryd.func7, Tryd.ntmps7
  go_wp2_with (first
    | (go_at_call 21; refine (nilClock _ _).mono ?_; rintro e w' ⟨rfl, rfl⟩)
    | (go_at_call 18; refine (nilPins _).mono ?_; rintro e w1 ⟨rfl, hB1⟩; have HB1 : Hid (Below _ _ w1) := hB1; clear hB1)
    | (go_at_call 19; refine (nilRegs _).mono ?_; rintro e w2 ⟨rfl, hB2⟩; have HB2 : Hid (Below _ _ w2) := HB1.out.trans (hB2.mono HB1.out.size); clear hB2)
    | (go_at_call 13; refine (nilFresh _).mono ?_; rintro e w' ⟨rfl, rfl⟩)
    | (go_at_call 23; refine (nilJammed _).mono ?_; rintro e w' ⟨rfl, rfl⟩)
    | (go_at_call 15; refine (nilCode _).mono ?_; rintro e w' ⟨rfl, rfl⟩)
    | (go_at_call 24; refine (nilCopy _).mono ?_; rintro e w' ⟨rfl, rfl⟩)
    | (go_at_call 17; refine (awake12 _ (HT.out.next HB2.out)).mono ?_; rintro e w3 ⟨rfl, hB3⟩; have HB3 : Hid (Below _ _ w3) := HB2.out.trans (hB3.mono HB2.out.size); clear hB3))
  go_ret
  exact ⟨rfl, HB3.out⟩

end Go.Proofs.YtelmohajdmcnmaaDoor.Mi
