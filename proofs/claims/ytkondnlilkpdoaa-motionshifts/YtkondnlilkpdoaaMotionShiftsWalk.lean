/- MotionShifts, walked: whatever comes in, true comes out. -/
import Derived.Test.YtkondnlilkpdoaaAwakeM
import Derived.Test.YtkondnlilkpdoaaMotR
import Derived.Test.YtkondnlilkpdoaaFrame
set_option linter.unusedVariables false
namespace Go.Proofs.Ytkondnlilkpdoaa.motionShifts
open Go.RowKit Mo

set_option maxRecDepth 100000 in
set_option maxHeartbeats 2000000 in
theorem walk (a0 : Int) (w0 : (Lit.int .i64 a0).wf = true) (a1 : Int) (w1 : (Lit.int .u8 a1).wf = true) (W : World) :
    Calls Try.prog 4 #[.int .i64 a0, .int .u8 a1] W fun e w' => e = .returned (.bool true) ∧ Below W.heap.size W w' := by
  have hb := bounds_u8 w1
  obtain ⟨n, rfl⟩ := Int.eq_ofNat_of_zero_le (show 0 ≤ a1 by omega)
  have hn : n < 256 := by omega
  have HN : Hid (n < 256) := hn
  clear w0 w1 hb
  rcases (show a0 < 0 ∨ 227 < a0 ∨ (0 ≤ a0 ∧ a0 ≤ 227) by omega) with h | h | h
  · have HS : Hid (wi a0 227 = false) := (by unfold wi; simp; omega : wi a0 227 = false)
    have HH : Hid (a0 < 0) := h
    clear h
    go_enter Try.func4, Try.ntmps4
    go_wp2_with (first
      | (go_at_call 22; refine (Shift_no a0 n _ HS.out).mono ?_; rintro e w1 ⟨rfl, rfl⟩)
      | (go_at_call 23; refine (RShift_low a0 n _ HH.out).mono ?_; rintro e w1 ⟨rfl, rfl⟩)
      | (go_at_call 21; refine (awake17 _).mono ?_; rintro e w2 ⟨rfl, hB⟩))
    go_returns
    exact ⟨rfl, hB⟩
  · have HS : Hid (wi a0 227 = false) := (by unfold wi; simp; omega : wi a0 227 = false)
    have HH : Hid (0 ≤ a0 ∧ 227 < a0) := (⟨by omega, h⟩ : 0 ≤ a0 ∧ 227 < a0)
    clear h
    go_enter Try.func4, Try.ntmps4
    go_wp2_with (first
      | (go_at_call 22; refine (Shift_no a0 n _ HS.out).mono ?_; rintro e w1 ⟨rfl, rfl⟩)
      | (go_at_call 23; refine (RShift_high a0 n _ (by have := HH.out; omega) HH.out.2).mono ?_; rintro e w1 ⟨rfl, rfl⟩)
      | (go_at_call 21; refine (awake17 _).mono ?_; rintro e w2 ⟨rfl, hB⟩))
    go_returns
    exact ⟨rfl, hB⟩
  · obtain ⟨s, rfl⟩ := Int.eq_ofNat_of_zero_le h.1
    have HS : Hid (s ≤ 227) := (by omega : s ≤ 227)
    obtain ⟨x, hx⟩ : ∃ x, shI s n = x := ⟨_, rfl⟩
    have HX : Hid (shI s n = x) := hx
    clear h hx
    go_enter Try.func4, Try.ntmps4
    go_wp2_with (first
      | (go_at_call 22; refine (Shift s n _ HS.out HN.out).mono ?_; rintro e w1 ⟨rfl, rfl⟩; rw [HX.out])
      | (go_at_call 23; refine (RShift s n _ HS.out HN.out).mono ?_; rintro e w1 ⟨rfl, rfl⟩; rw [HX.out])
      | (go_at_call 21; refine (awake17 _).mono ?_; rintro e w2 ⟨rfl, hB⟩))
    go_returns
    exact ⟨rfl, hB⟩

end Go.Proofs.Ytkondnlilkpdoaa.motionShifts
