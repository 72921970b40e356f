/- What the chapter's example comes to; the document's own answers of layer 15. -/
import Derived.Test.YtienmoannnhhmaaBeam2
import Derived.Handy
set_option linter.unusedVariables false
namespace Go.Proofs.Ytienmoannnhhmaa.Bm
open Go.RowKit Count

set_option maxRecDepth 100000 in
set_option maxHeartbeats 2000000 in
theorem awake15 (w : World) : Calls Try.prog 15 #[] w fun e w' => e = .returned (.bool true) ∧ Below w.heap.size w w' := by
  go_enter Try.func15, Try.ntmps15
  go_wp2_with (go_at_call 5; fail)
  refine (New_yes 67 w (by decide)).mono ?_
  rintro e w1 ⟨b, cb, db, rfl, hb, hcb, hdb, hA1, hB1⟩
  have HA1 : Hid (BAt w1 b cb db 67 false) := hA1
  have HB1 : Hid (Below w.heap.size w w1) := hB1
  have HS : Hid (∀ k, S3 b cb db k → w.heap.size ≤ k) := (by rintro k (rfl | rfl | rfl) <;> omega)
  clear hA1 hB1
  go_wp2_with (go_at_call 11; fail)
  refine (Dark b cb db 67 false _ HA1.out).mono ?_
  rintro e w2 ⟨rfl, hB2⟩
  have HA2 : Hid (BAt w2 b cb db 67 false) := HA1.out.below hB2
  have HB2 : Hid (Below w.heap.size w w2) := HB1.out.trans (hB2.mono HB1.out.size)
  clear hB2 HA1 HB1
  rw [show dark 67 false = true by decide]
  go_wp2_with (go_at_call 6; fail)
  refine (Bm.Next b cb db 67 false _ HA2.out).mono ?_
  rintro e w3 ⟨rfl, hA3, hT3⟩
  have HA3 : Hid (BAt w3 b cb db 68 false) := hA3
  have HB3 : Hid (Below w.heap.size w w3) := HB2.out.trans (hT3.below HS.out HB2.out.size)
  clear hA3 hT3 HA2 HB2
  go_wp2_with (go_at_call 11; fail)
  refine (Dark b cb db 68 false _ HA3.out).mono ?_
  rintro e w4 ⟨rfl, hB4⟩
  have HA4 : Hid (BAt w4 b cb db 68 false) := HA3.out.below hB4
  have HB4 : Hid (Below w.heap.size w w4) := HB3.out.trans (hB4.mono HB3.out.size)
  clear hB4 HA3 HB3
  rw [show dark 68 false = false by decide]
  go_wp2_with (go_at_call 7; fail)
  refine (Comb b cb db 68 false _ HA4.out).mono ?_
  rintro e w5 ⟨rfl, hA5, hT5⟩
  have HA5 : Hid (BAt w5 b cb db 68 true) := hA5
  have HB5 : Hid (Below w.heap.size w w5) := HB4.out.trans (hT5.below HS.out HB4.out.size)
  clear hA5 hT5 HA4 HB4
  go_wp2_with (go_at_call 11; fail)
  refine (Dark b cb db 68 true _ HA5.out).mono ?_
  rintro e w6 ⟨rfl, hB6⟩
  have HA6 : Hid (BAt w6 b cb db 68 true) := HA5.out.below hB6
  have HB6 : Hid (Below w.heap.size w w6) := HB5.out.trans (hB6.mono HB5.out.size)
  clear hB6 HA5 HB5
  rw [show dark 68 true = true by decide]
  go_wp2_with (go_at_call 9; fail)
  refine (Clock b cb db 68 true _ HA6.out).mono ?_
  rintro e w7 ⟨rfl, hB7⟩
  go_wp2
  go_returns
  exact ⟨rfl, HB6.out.trans (hB7.mono HB6.out.size)⟩

end Go.Proofs.Ytienmoannnhhmaa.Bm
