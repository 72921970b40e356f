/- What the chapter's examples come to; what is not there. -/
import Derived.Test.YtgclgegdojnpcaaPort1
namespace Go.Proofs.Ytgclgegdojnpcaa.Po
open Go.RowKit

set_option maxRecDepth 100000 in
set_option maxHeartbeats 2000000 in
theorem awake7 (w : World) : Calls Try.prog 18 #[] w fun e w' => e = .returned (.bool true) ∧ Below w.heap.size w w' := by
  go_enter Try.func18, Try.ntmps18
  go_wp2_with (go_at_call 8; fail)
  refine (New 255 w).mono ?_
  rintro e w1 ⟨b, rfl, hb, hA1, hB1⟩
  have HB1 : Hid (Below w.heap.size w w1) := hB1
  have HA1 : Hid (PAt w1 b ⟨255, 0, 0⟩) := hA1
  clear hA1 hB1
  go_wp2_with (go_at_call 10; fail)
  refine (Out b 18 _ _ HA1.out).mono ?_
  rintro e w2 ⟨rfl, hA2, hT2⟩
  have HB2 : Hid (Below w.heap.size w w2) := HB1.out.trans (hT2.below hb HB1.out.size)
  have HA2 : Hid (PAt w2 b ⟨255, 18, 0⟩) := hA2
  clear hA2 hT2 HA1 HB1
  go_wp2_with (go_at_call 11; fail)
  refine (Way b 15 _ _ HA2.out).mono ?_
  rintro e w3 ⟨rfl, hA3, hT3⟩
  have HB3 : Hid (Below w.heap.size w w3) := HB2.out.trans (hT3.below hb HB2.out.size)
  have HA3 : Hid (PAt w3 b ⟨255, 18, 15⟩) := hA3
  clear hA3 hT3 HA2 HB2
  go_wp2_with (go_at_call 19; fail)
  refine (NewEdge true w3).mono ?_
  rintro e w4 ⟨c, rfl, hc, hE4, hB4⟩
  have HB4 : Hid (Below w.heap.size w w4) := HB3.out.trans (hB4.mono HB3.out.size)
  have HE4 : Hid (EAt w4 c ⟨true, false, false⟩) := hE4
  have HA4 : Hid (PAt w4 b ⟨255, 18, 15⟩) := HA3.out.below hB4
  have hbc : b < c := by have := HA3.out.lt; omega
  clear hE4 hB4 HA3 HB3
  go_wp2_with (go_at_call 24; fail)
  refine (See c false _ _ HE4.out).mono ?_
  rintro e w5 ⟨rfl, hE5, hT5⟩
  have HB5 : Hid (Below w.heap.size w w5) := HB4.out.trans (hT5.below (by omega) HB4.out.size)
  have HE5 : Hid (EAt w5 c ⟨false, false, true⟩) := hE5
  have HA5 : Hid (PAt w5 b ⟨255, 18, 15⟩) := HA4.out.turn hT5 (by omega)
  clear hE5 hT5 HA4 HB4 HE4
  go_wp2_with (go_at_call 14; fail)
  refine (Level b _ _ ⟨by decide, by decide, by decide⟩ HA5.out).mono ?_
  rintro e w6 ⟨rfl, q6, rfl⟩
  rw [show lev ⟨255, 18, 15⟩ = 242 by decide]
  go_wp2_with (go_at_call 21; fail)
  refine (Take c _ _ (HE5.out.draws _)).mono ?_
  rintro e w7 ⟨rfl, hE7, hT7⟩
  have HB7 : Hid (Below w.heap.size w w7) := HB5.out.trans ((turn_draws hT7).below (by omega) HB5.out.size)
  have HE7 : Hid (EAt w7 c ⟨false, false, false⟩) := hE7
  clear hE7 hT7 HB5 HE5 HA5
  simp only
  go_wp2_with (go_at_call 21; fail)
  refine (Take c _ _ HE7.out).mono ?_
  rintro e w8 ⟨rfl, hE8, hT8⟩
  have HB8 : Hid (Below w.heap.size w w8) := HB7.out.trans (hT8.below (by omega) HB7.out.size)
  clear hE8 hT8 HB7 HE7
  simp only
  go_wp2
  go_returns
  exact ⟨rfl, HB8.out⟩

end Go.Proofs.Ytgclgegdojnpcaa.Po
