/- AluDecimal, walked: whatever comes in, true comes out. -/
import Derived.Test.YtcbfhjgdnffjlaaAlu4
namespace Go.Proofs.Ytcbfhjgdnffjlaa.aluDecimal
open Go.RowKit Alu

/-- A number of two decimal digits, a byte a digit's four bits. -/
def bcd (a : Nat) : Int := (a : Int) / 10 * 16 + (a : Int) % 10
set_option maxRecDepth 100000 in
theorem add8 : ∀ a : Nat, a < 100 → ∀ m : Nat, m < 100 → addV (bcd a) (bcd m) 8 = ((a : Int) + m) % 100 / 10 * 16 + ((a : Int) + m) % 10 ∧ (bits .and .u8 ((addQ (bcd a) (bcd m) 8 : Nat) : Int) 1 != 0) = decide (100 ≤ (a : Int) + m) := by decide +kernel
set_option maxRecDepth 100000 in
theorem sub8 : ∀ a : Nat, a < 100 → ∀ m : Nat, m < 100 → subV (bcd a) (bcd m) 8 = ((a : Int) - m - 1) % 100 / 10 * 16 + ((a : Int) - m - 1) % 10 ∧ (bits .and .u8 ((binQ 8 (bcd a) (255 - bcd m) : Nat) : Int) 1 != 0) = decide (1 ≤ (a : Int) - m) := by decide +kernel
set_option maxRecDepth 100000 in
theorem add9 : ∀ a : Nat, a < 100 → ∀ m : Nat, m < 100 → addV (bcd a) (bcd m) 9 = ((a : Int) + m + 1) % 100 / 10 * 16 + ((a : Int) + m + 1) % 10 ∧ (bits .and .u8 ((addQ (bcd a) (bcd m) 9 : Nat) : Int) 1 != 0) = decide (100 ≤ (a : Int) + m + 1) := by decide +kernel
set_option maxRecDepth 100000 in
theorem sub9 : ∀ a : Nat, a < 100 → ∀ m : Nat, m < 100 → subV (bcd a) (bcd m) 9 = ((a : Int) - m) % 100 / 10 * 16 + ((a : Int) - m) % 10 ∧ (bits .and .u8 ((binQ 9 (bcd a) (255 - bcd m) : Nat) : Int) 1 != 0) = decide (0 ≤ (a : Int) - m) := by decide +kernel

set_option maxRecDepth 100000 in
set_option maxHeartbeats 1000000 in
theorem walk (a0 : Int) (w0 : (Lit.int .u8 a0).wf = true) (a1 : Int) (w1 : (Lit.int .u8 a1).wf = true) (c : Bool) (W : World) :
    Calls Try.prog 7 #[.int .u8 a0, .int .u8 a1, .bool c] W fun e w' => e = .returned (.bool true) ∧ Below W.heap.size W w' := by
  have b0 := bounds_u8 w0
  have b1 := bounds_u8 w1
  obtain ⟨a, rfl⟩ := Int.eq_ofNat_of_zero_le b0.1
  obtain ⟨m, rfl⟩ := Int.eq_ofNat_of_zero_le b1.1
  clear w0 w1
  have ho : bits .or .u8 8 1 = 9 := by decide
  by_cases h1 : 100 ≤ (a : Int)
  · go_enter Try.func7, Try.ntmps7
    go_wp2
    go_ret
    exact ⟨rfl, Below.refl _ _⟩
  by_cases h2 : 100 ≤ (m : Int)
  · go_enter Try.func7, Try.ntmps7
    go_wp2
    go_ret
    exact ⟨rfl, Below.refl _ _⟩
  clear b0 b1
  cases c
  · obtain ⟨e1, e2⟩ := add8 a (by omega) m (by omega)
    obtain ⟨e3, e4⟩ := sub8 a (by omega) m (by omega)
    unfold bcd at e1 e2 e3 e4
    go_enter Try.func7, Try.ntmps7
    go_wp2_with (first
      | (go_at_call 10; refine (Add _ _ 8 _ (by omega) (by omega) (by omega) (by omega) (by decide)).mono ?_; rintro e w1 ⟨rfl, hB1⟩)
      | (go_at_call 14; refine (Sub _ _ 8 _ (by omega) (by omega) (by omega) (by omega) (by decide)).mono ?_; rintro e w2 ⟨rfl, hB2⟩)
      | (go_at_call 13; refine (awake9 _).mono ?_; rintro e w3 ⟨rfl, hB3⟩))
    go_ret
    exact ⟨rfl, hB1.trans ((hB2.mono hB1.size).trans (hB3.mono (Nat.le_trans hB1.size hB2.size)))⟩
  · obtain ⟨e1, e2⟩ := add9 a (by omega) m (by omega)
    obtain ⟨e3, e4⟩ := sub9 a (by omega) m (by omega)
    unfold bcd at e1 e2 e3 e4
    go_enter Try.func7, Try.ntmps7
    go_wp2_with (first
      | (go_at_call 10; refine (Add _ _ 9 _ (by omega) (by omega) (by omega) (by omega) (by decide)).mono ?_; rintro e w1 ⟨rfl, hB1⟩)
      | (go_at_call 14; refine (Sub _ _ 9 _ (by omega) (by omega) (by omega) (by omega) (by decide)).mono ?_; rintro e w2 ⟨rfl, hB2⟩)
      | (go_at_call 13; refine (awake9 _).mono ?_; rintro e w3 ⟨rfl, hB3⟩))
    go_ret
    exact ⟨rfl, hB1.trans ((hB2.mono hB1.size).trans (hB3.mono (Nat.le_trans hB1.size hB2.size)))⟩

end Go.Proofs.Ytcbfhjgdnffjlaa.aluDecimal
