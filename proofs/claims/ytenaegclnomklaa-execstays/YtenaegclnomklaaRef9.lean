/- The document's own answers of layer 9: one contract a function. -/
import Derived.Test.YtenaegclnomklaaAlu4
namespace Go.Proofs.Ytenaegclnomklaa.Alu
open Go.RowKit

/-- A number's bit of that worth. -/
def hasB (n b : Int) : Bool := (n / b % 2 == 1)
theorem Has (n b : Int) (w : World) (n0 : 0 ≤ n) (n1 : n ≤ 1000) (b0 : 1 ≤ b) (b1 : b ≤ 255) : Calls Try.prog 36 #[.int .i64 n, .int .i64 b] w fun e w' => e = .returned (.bool (hasB n b)) ∧ w' = w := by
  have q0 : 0 ≤ n / b := Int.ediv_nonneg n0 (by omega)
  have q1 : n / b ≤ 1000 := Int.le_trans (Int.ediv_le_self b n0) n1
  go_enter Try.func36, Try.ntmps36
  go_wp2
  go_ret
  exact ⟨rfl, rfl⟩

/-- The flags that the chapter sets. -/
def isFlag (b : Int) : Bool := b == 1 || b == 2 || b == 4 || b == 8 || b == 16 || b == 32 || b == 64 || b == 128
theorem W_ref : ∀ p : Nat, p < 256 → ∀ b : Nat, b < 129 → isFlag b = true → ∀ is : Bool, ((W p b is : Nat) : Int) = if hasB p b = is then (p : Int) else if is then (p : Int) + b else (p : Int) - b := by
  intro p hp b hb hf
  have : b = 1 ∨ b = 2 ∨ b = 4 ∨ b = 8 ∨ b = 16 ∨ b = 32 ∨ b = 64 ∨ b = 128 := by
    simp [isFlag] at hf; omega
  rcases this with rfl | rfl | rfl | rfl | rfl | rfl | rfl | rfl
  · revert p; decide +kernel
  · revert p; decide +kernel
  · revert p; decide +kernel
  · revert p; decide +kernel
  · revert p; decide +kernel
  · revert p; decide +kernel
  · revert p; decide +kernel
  · revert p; decide +kernel

set_option maxHeartbeats 400000 in
theorem With (p : Nat) (b : Int) (is : Bool) (w : World) (hp : p < 256) (hf : isFlag b = true) : Calls Try.prog 31 #[.int .i64 (p : Int), .int .i64 b, .bool is] w fun e w' => e = .returned (.int .i64 ((W p b is : Nat) : Int)) ∧ w' = w := by
  have hb : b = 1 ∨ b = 2 ∨ b = 4 ∨ b = 8 ∨ b = 16 ∨ b = 32 ∨ b = 64 ∨ b = 128 := by simpa [isFlag, or_assoc] using hf
  have b0 : 1 ≤ b := by omega
  have b1 : b ≤ 128 := by omega
  obtain ⟨c, rfl⟩ := Int.eq_ofNat_of_zero_le (show 0 ≤ b by omega)
  have HR : Hid (((W p c is : Nat) : Int) = if hasB p c = is then (p : Int) else if is then (p : Int) + c else (p : Int) - c) := W_ref p hp c (by omega) hf is
  clear hb
  have HF : Hid (isFlag c = true) := hf
  clear hf
  cases hx : hasB p c
  all_goals
    cases is
    all_goals
      go_enter Try.func31, Try.ntmps31
      go_wp2_with (go_at_call 36; refine (Has _ _ _ (by omega) (by omega) (by omega) (by omega)).mono ?_; rintro e w' ⟨rfl, rfl⟩)
      go_ret
      exact ⟨ret_int (by rw [HR.out, hx]; rfl), rfl⟩

theorem RMark (p : Nat) (v : Int) (w : World) (hp : p < 256) : Calls Try.prog 47 #[.int .i64 (p : Int), .int .i64 v] w fun e w' => e = .returned (.int .i64 ((mk p v : Nat) : Int)) ∧ w' = w := by
  go_enter Try.func47, Try.ntmps47
  go_wp2_with (go_at_call 31; refine (With _ _ _ _ (by first | exact hp | exact W_lt _ _ _ hp (by decide)) (by decide)).mono ?_; rintro e w' ⟨rfl, rfl⟩)
  go_ret
  exact ⟨rfl, rfl⟩

theorem rone (b : Bool) (w : World) : Calls Try.prog 50 #[.bool b] w fun e w' => e = .returned (.int .i64 (oneI b)) ∧ w' = w := by
  cases b
  all_goals
    go_enter Try.func50, Try.ntmps50
    go_wp2
    go_ret
    exact ⟨rfl, rfl⟩

theorem over (a m t : Int) (w : World) (a0 : 0 ≤ a) (a1 : a ≤ 255) (m0 : 0 ≤ m) (m1 : m ≤ 255) (t0 : 0 ≤ t) (t1 : t ≤ 1000) : Calls Try.prog 49 #[.int .i64 a, .int .i64 m, .int .i64 t] w fun e w' => e = .returned (.bool (ov a m t)) ∧ w' = w := by
  have ha : hasB a 128 = H7 a := by unfold hasB H7; rfl
  have hm : hasB m 128 = H7 m := by unfold hasB H7; rfl
  have ht : hasB t 128 = H7 t := by unfold hasB H7; rfl
  have HO : Hid (ov a m t = ((H7 a == H7 m) && (H7 t != H7 a))) := (rfl : _ = _)
  cases h1 : H7 a
  all_goals
    cases h2 : H7 m
    all_goals
      cases h3 : H7 t
      all_goals
        rw [h1] at ha
        rw [h2] at hm
        rw [h3] at ht
        go_enter Try.func49, Try.ntmps49
        go_wp2_with (go_at_call 36; refine (Has _ _ _ (by omega) (by omega) (by omega) (by omega)).mono ?_; rintro e w' ⟨rfl, rfl⟩)
        go_ret
        refine ⟨?_, rfl⟩
        rw [HO.out, h1, h2, h3]
        rfl

end Go.Proofs.Ytenaegclnomklaa.Alu
