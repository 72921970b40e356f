/- What 'awake' of the second layer's laws tells: true. -/
import Derived.Test.YthepjdccoidkfaaPlace
namespace Go.Proofs.Ythepjdccoidkfaa
open Go.RowKit Count

theorem mark_0 : Count.mark 0 = 0 := rfl
theorem mark_1 : Count.mark 1 = 32 := by decide

set_option maxRecDepth 100000 in
set_option maxHeartbeats 1000000 in
theorem awake2 (w : World) : Calls Try.prog 38 #[] w fun e w' => e = .returned (.bool true) ∧ Below w.heap.size w w' := by
  have m0 := mark_0
  have m1 := mark_1
  have k1 : rndB 0 3 = false := by decide
  have k2 : cntE 160 159 = 0 := by decide
  have k3 : rndB 159 160 = true := by decide
  go_enter Try.func38, Try.ntmps38
  go_wp2_with (go_at_call 41; fail)
  refine (Of_yes 3 _ (by decide) (by decide)).mono ?_
  rintro e w1 ⟨b, rfl, hb, hC1, hB1⟩
  have HC1 : Hid (CAt w1 b 0 0 3) := hC1
  have HB1 : Hid (Below w.heap.size w w1) := hB1
  clear hC1 hB1
  go_wp2_with (go_at_call 45; refine (CMark b 0 0 3 _ HC1.out).mono ?_; rintro e w2 ⟨rfl, rfl⟩)
  go_wp2_with (go_at_call 43; fail)
  refine (CTick b 0 0 3 _ HC1.out).mono ?_
  rintro e w3 ⟨rfl, hC3, hT3⟩
  have HC3 : Hid (CAt w3 b 0 1 3) := hC3
  have HB3 : Hid (Below w.heap.size w w3) := HB1.out.trans (hT3.below hb HB1.out.size)
  clear hC3 hT3 HC1 HB1
  go_wp2_with (first
    | (go_at_call 45; refine (CMark b 0 1 3 _ HC3.out).mono ?_; rintro e w4 ⟨rfl, rfl⟩))
  go_wp2_with (go_at_call 48; fail)
  refine (Begin _).mono ?_
  rintro e w5 ⟨c, rfl, hc, hP5, hB5⟩
  have HP5 : Hid (PlAt w5 c 0) := hP5
  have HB5 : Hid (Below w.heap.size w w5) := HB3.out.trans (hB5.mono HB3.out.size)
  have hcw : w.heap.size ≤ c := Nat.le_trans HB3.out.size hc
  clear hP5 hB5 HC3 HB3 hc
  go_wp2_with (go_at_call 49; fail)
  refine (PlSet c 0 159 _ HP5.out).mono ?_
  rintro e w6 ⟨rfl, hP6, hT6⟩
  have HP6 : Hid (PlAt w6 c 159) := hP6
  have HB6 : Hid (Below w.heap.size w w6) := HB5.out.trans (hT6.below hcw HB5.out.size)
  clear hP6 hT6 HP5 HB5
  go_wp2_with (go_at_call 52; fail)
  refine (PlTick c 159 _ HP6.out).mono ?_
  rintro e w7 ⟨rfl, hP7, hT7⟩
  have HP7 : Hid (PlAt w7 c 0) := hP7
  have HB7 : Hid (Below w.heap.size w w7) := HB6.out.trans (hT7.below hcw HB6.out.size)
  clear hP7 hT7 HP6 HB6
  go_wp2_with (go_at_call 50; refine (PlCount c 0 _ HP7.out).mono ?_; rintro e w8 ⟨rfl, hb8⟩)
  go_ret
  exact ⟨rfl, HB7.out.trans (hb8.mono HB7.out.size)⟩

end Go.Proofs.Ythepjdccoidkfaa
