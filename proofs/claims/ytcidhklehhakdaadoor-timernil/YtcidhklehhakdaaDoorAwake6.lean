/- What the chapter's examples come to; a timer that is not there. -/
import Derived.Test.YtcidhklehhakdaaDoorTimer2
namespace Go.Proofs.YtcidhklehhakdaaDoor.Tm
open Go.RowKit

set_option maxRecDepth 100000 in
set_option maxHeartbeats 2000000 in
theorem awake6 (w : World) (ht : Tab w) : Calls Tryd.prog 11 #[] w fun e w' => e = .returned (.bool true) ∧ Below w.heap.size w w' := by
  have h0 := ht.lt
  have HT : Hid (Tab w) := ht
  clear ht
  go_enter Tryd.func11, Tryd.ntmps11
  go_wp2_with (go_at_call 6; fail)
  refine (New w HT.out).mono ?_
  rintro e w1 ⟨b, rfl, hb, hA1, hB1⟩
  have HB1 : Hid (Below w.heap.size w w1) := hB1
  have HA1 : Hid (TAt w1 b 0 (wr 255 3)) := hA1
  clear hA1 hB1
  go_wp2_with (go_at_call 7; fail)
  refine (Write b 0 _ 2 1 _ (HT.out.below HB1.out h0) HA1.out).mono ?_
  rintro e w2 ⟨rfl, hA2, hT2⟩
  have HB2 : Hid (Below w.heap.size w w2) := HB1.out.trans (hT2.below hb HB1.out.size)
  have HA2 : Hid (TAt w2 b 0 (wr 2 1)) := hA2
  clear hA2 hT2 HA1 HB1
  go_wp2_with (go_at_call 8; fail)
  refine (ticked b 0 1 _ _ (by omega) (wr_ok (by omega) _) HA2.out).mono ?_
  rintro e w3 ⟨rfl, hA3, hT3⟩
  have HB3 : Hid (Below w.heap.size w w3) := HB2.out.trans (hT3.below hb HB2.out.size)
  have HA3 : Hid (TAt w3 b 0 ⟨1, 8, 8, false, false⟩) := hA3
  clear hA3 hT3 HA2 HB2
  go_wp2_with (go_at_call 9; fail)
  refine (Value b 0 _ _ HA3.out).mono ?_
  rintro e w4 ⟨rfl, rfl⟩
  simp only
  go_wp2_with (go_at_call 8; fail)
  refine (ticked b 0 17 _ _ (by omega) (show St.ok ⟨1, 8, 8, false, false⟩ from ⟨by decide, .inr (.inl rfl), by decide, by decide⟩) HA3.out).mono ?_
  rintro e w5 ⟨rfl, hA5, hT5⟩
  have HB5 : Hid (Below w.heap.size w w5) := HB3.out.trans (hT5.below hb HB3.out.size)
  have HA5 : Hid (TAt w5 b 0 ⟨254, 8, 8, true, true⟩) := hA5
  clear hA5 hT5 HA3 HB3
  go_wp2_with (go_at_call 9; fail)
  refine (Value b 0 _ _ HA5.out).mono ?_
  rintro e w6 ⟨rfl, rfl⟩
  simp only
  go_wp2_with (go_at_call 10; fail)
  refine (Flag b 0 _ _ HA5.out).mono ?_
  rintro e w7 ⟨rfl, rfl⟩
  simp only
  go_wp2_with (go_at_call 13; fail)
  refine (Read b 0 _ _ HA5.out).mono ?_
  rintro e w8 ⟨rfl, hA8, hT8⟩
  have HB8 : Hid (Below w.heap.size w w8) := HB5.out.trans (hT8.below hb HB5.out.size)
  have HA8 : Hid (TAt w8 b 0 ⟨254, 8, 8, false, false⟩) := hA8
  clear hA8 hT8 HA5 HB5
  simp only
  go_wp2_with (go_at_call 8; fail)
  refine (ticked b 0 8 _ _ (by omega) (show St.ok ⟨254, 8, 8, false, false⟩ from ⟨by decide, .inr (.inl rfl), by decide, by decide⟩) HA8.out).mono ?_
  rintro e w9 ⟨rfl, hA9, hT9⟩
  have HB9 : Hid (Below w.heap.size w w9) := HB8.out.trans (hT9.below hb HB8.out.size)
  have HA9 : Hid (TAt w9 b 0 ⟨253, 8, 8, false, false⟩) := hA9
  clear hA9 hT9 HA8 HB8
  go_wp2_with (first
    | (go_at_call 9; refine (Value b 0 _ _ HA9.out).mono ?_; rintro e w6 ⟨rfl, rfl⟩; simp only)
    | (go_at_call 10; refine (Flag b 0 _ _ HA9.out).mono ?_; rintro e w6 ⟨rfl, rfl⟩; simp only))
  go_returns
  exact ⟨rfl, HB9.out⟩

end Go.Proofs.YtcidhklehhakdaaDoor.Tm
