/- What the chapter's examples come to. -/
import Derived.Test.YtkondnlilkpdoaaMotS
set_option linter.unusedVariables false
namespace Go.Proofs.Ytkondnlilkpdoaa.Mo
open Go.RowKit

theorem m_back {W w w' : World} {b : Nat} (hb : W.heap.size ≤ b) (hB : Below W.heap.size W w) (hT : Turn b w w') : Below W.heap.size W w' := hB.trans (hT.below hb hB.size)
theorem b_keep {W w w' : World} (hB : Below W.heap.size W w) (h : Below w.heap.size w w') : Below W.heap.size W w' := hB.trans (h.mono hB.size)

set_option maxRecDepth 100000 in
set_option maxHeartbeats 2000000 in
theorem awake17 (w : World) : Calls Try.prog 21 #[] w fun e w' => e = .returned (.bool true) ∧ Below w.heap.size w w' := by
  go_enter Try.func21, Try.ntmps21
  go_wp2_with (go_at_call 9; fail)
  refine (New w).mono ?_
  rintro e w1 ⟨b, rfl, hb, hA1, hB1⟩
  have HA1 : Hid (MAt w1 b 16 0 0) := hA1
  have HB1 : Hid (Below w.heap.size w w1) := hB1
  have HS : Hid (w.heap.size ≤ b) := hb
  clear hA1 hB1 hb
  go_wp2_with (go_at_call 11; fail)
  refine (Strobe b 16 0 0 _ HA1.out).mono ?_
  rintro e w2 ⟨rfl, hA2, hT2⟩
  have HA2 : Hid (MAt w2 b 0 0 31) := hA2
  have HB2 : Hid (Below w.heap.size w w2) := m_back HS.out HB1.out hT2
  clear hA2 hT2 HA1 HB1
  have s1 : shI 9 7 = 7 := by decide
  have s2 : shI 9 8 = -8 := by decide
  have s3 : shI 225 0 = 8 := by decide
  have s4 : shI 0 7 = 15 := by decide
  have s5 : shI 100 7 = 0 := by decide
  go_wp2_with (go_at_call 20; fail)
  refine (Busy b 0 0 31 _ HA2.out).mono ?_
  rintro e w3 ⟨rfl, rfl⟩
  rw [show decide (0 < 16) = true from rfl]
  go_wp2_with (go_at_call 22; fail)
  refine (Shift 9 7 _ (by decide) (by decide)).mono ?_
  rintro e w3 ⟨rfl, rfl⟩
  rw [s1]
  go_wp2_with (go_at_call 22; fail)
  refine (Shift 9 8 _ (by decide) (by decide)).mono ?_
  rintro e w3 ⟨rfl, rfl⟩
  rw [s2]
  go_wp2_with (go_at_call 22; fail)
  refine (Shift 225 0 _ (by decide) (by decide)).mono ?_
  rintro e w3 ⟨rfl, rfl⟩
  rw [s3]
  go_wp2_with (go_at_call 22; fail)
  refine (Shift 0 7 _ (by decide) (by decide)).mono ?_
  rintro e w3 ⟨rfl, rfl⟩
  rw [s4]
  go_wp2_with (go_at_call 22; fail)
  refine (Shift 100 7 _ (by decide) (by decide)).mono ?_
  rintro e w3 ⟨rfl, rfl⟩
  rw [s5]
  go_wp2
  go_returns
  exact ⟨rfl, HB2.out⟩

end Go.Proofs.Ytkondnlilkpdoaa.Mo
