/- The document's own shifts, tests and its odd one; 'told'. -/
import Derived.Test.YtenaegclnomklaaRef9B
namespace Go.Proofs.Ytenaegclnomklaa.Alu
open Go.RowKit

theorem mod_next (n k : Nat) : n % 2 ^ (k + 1) = n % 2 ^ k + (if n / 2 ^ k % 2 = 1 then 2 ^ k else 0) := by
  rw [Nat.pow_succ, Nat.mod_mul]
  rcases Nat.mod_two_eq_zero_or_one (n / 2 ^ k) with h | h <;> rw [h] <;> simp
theorem bit_and (a m k : Nat) : ((a &&& m) / 2 ^ k % 2 = 1) ↔ (a / 2 ^ k % 2 = 1 ∧ m / 2 ^ k % 2 = 1) := by
  have h : ∀ x : Nat, (x / 2 ^ k % 2 = 1) ↔ x.testBit k = true := by
    intro x; rw [Nat.testBit_eq_decide_div_mod_eq]; simp
  rw [h, h, h, Nat.testBit_and]; simp
theorem hasB_nat (a k : Nat) : hasB (a : Int) ((2 ^ k : Nat) : Int) = decide (a / 2 ^ k % 2 = 1) := by
  unfold hasB
  rw [Bool.eq_iff_iff]
  simp only [beq_iff_eq, decide_eq_true_eq]
  constructor
  · intro h; exact_mod_cast h
  · intro h; exact_mod_cast h

theorem common_next (a m k : Nat) : (a &&& m) % 2 ^ (k + 1) = (a &&& m) % 2 ^ k + (if (hasB (a : Int) ((2 ^ k : Nat) : Int) && hasB (m : Int) ((2 ^ k : Nat) : Int)) = true then 2 ^ k else 0) := by
  rw [mod_next, hasB_nat, hasB_nat]
  have h := bit_and a m k
  by_cases x : (a &&& m) / 2 ^ k % 2 = 1
  · rw [if_pos x, if_pos (by have := h.1 x; simp [this])]
  · rw [if_neg x, if_neg (fun g => x (h.2 (by simpa using g)))]

set_option maxRecDepth 100000 in
set_option maxHeartbeats 1000000 in
theorem common (a m : Nat) (w : World) (ha : a < 256) (hm : m < 256) : Calls Try.prog 46 #[.int .i64 (a : Int), .int .i64 (m : Int)] w fun e w' => e = .returned (.int .i64 ((a &&& m : Nat) : Int)) ∧ w' = w := by
  have hT : a &&& m < 256 := Nat.and_lt_two_pow (n := 8) a hm
  go_enter Try.func46, Try.ntmps46
  go_wp2
  go_loop [5, 6] (fun o b => ∃ k : Nat, k ≤ 8 ∧ b = .int .i64 ((2 ^ k : Nat) : Int) ∧ o = .int .i64 (((a &&& m) % 2 ^ k : Nat) : Int)) (fun _ b => 300 - (intOf b).toNat)
  case atStart => exact ⟨0, by omega, rfl, by simp [Nat.mod_one]⟩
  case round =>
    obtain ⟨k, hk, rfl, rfl⟩ := hrel
    by_cases hl : k < 8
    · have p1 : 2 ^ k ≤ 128 := Nat.pow_le_pow_right (n := 2) (by omega) (show k ≤ 7 by omega)
      have p0 : 1 ≤ 2 ^ k := Nat.one_le_two_pow
      have HN : Hid ((a &&& m) % 2 ^ (k + 1) = (a &&& m) % 2 ^ k + (if (hasB (a : Int) ((2 ^ k : Nat) : Int) && hasB (m : Int) ((2 ^ k : Nat) : Int)) = true then 2 ^ k else 0)) := common_next a m k
      have HP : Hid (2 ^ (k + 1) = 2 ^ k * 2) := Nat.pow_succ 2 k
      have hlt : (a &&& m) % 2 ^ k < 2 ^ k := Nat.mod_lt _ (by omega)
      obtain ⟨C, HC⟩ : ∃ C : Nat, Hid ((a &&& m) % 2 ^ k = C) := ⟨_, (rfl : _ = _)⟩
      obtain ⟨B, HB⟩ : ∃ B : Nat, Hid (2 ^ k = B) := ⟨_, (rfl : _ = _)⟩
      rw [HC.out] at hlt
      rw [HB.out] at hlt p0 p1
      have HN' : Hid ((a &&& m) % 2 ^ (k + 1) = C + (if (hasB (a : Int) (B : Int) && hasB (m : Int) (B : Int)) = true then B else 0)) := by
        show _ = _; rw [HN.out, HC.out, HB.out]
      rw [HC.out, HB.out]
      cases b1 : hasB (a : Int) (B : Int)
      all_goals
        cases b2 : hasB (m : Int) (B : Int)
        all_goals
          go_wp2_with (go_at_call 36; refine (Has _ _ _ (by omega) (by omega) (by omega) (by omega)).mono ?_; rintro e w' ⟨rfl, rfl⟩)
          go_round
          case rel => exact ⟨k + 1, by omega, by rw [HP.out, HB.out]; go_num, by rw [HN'.out, b1, b2]; go_num⟩
          case measure => simp [intOf]; omega
    · have hk8 : k = 8 := by omega
      subst hk8
      go_wp2
      go_ret
      exact ⟨ret_int (by omega), rfl⟩

theorem has6 (t : Int) : hasB t 64 = H6 t := rfl
theorem has5 (t : Int) : hasB t 32 = H5 t := rfl

set_option maxHeartbeats 1000000 in
theorem RBit (a m p : Nat) (w : World) (ha : a < 256) (hm : m < 256) (hp : p < 256) : Calls Try.prog 30 #[.int .i64 (a : Int), .int .i64 (m : Int), .int .i64 (p : Int)] w fun e w' => e = .returned (.int .i64 ((W (W (W p 2 (((a &&& m : Nat) : Int) == 0)) 128 (H7 m)) 64 (H6 m) : Nat) : Int)) ∧ w' = w := by
  go_enter Try.func30, Try.ntmps30
  go_wp2_with (first
    | (go_at_call 46; refine (common _ _ _ ha hm).mono ?_; rintro e w' ⟨rfl, rfl⟩)
    | (go_at_call 36; refine (Has _ _ _ (by omega) (by omega) (by omega) (by omega)).mono ?_; rintro e w' ⟨rfl, rfl⟩)
    | (go_at_call 31; refine (With _ _ _ _ (by first | exact hp | exact W_lt _ _ _ hp (by decide) | exact W_lt _ _ _ (W_lt _ _ _ hp (by decide)) (by decide)) (by decide)).mono ?_; rintro e w' ⟨rfl, rfl⟩))
  go_ret
  exact ⟨rfl, rfl⟩

set_option maxHeartbeats 1000000 in
theorem RLeft (m : Int) (p : Nat) (turn : Bool) (w : World) (m0 : 0 ≤ m) (m1 : m ≤ 255) (hp : p < 256) : Calls Try.prog 39 #[.int .i64 m, .int .i64 (p : Int), .bool turn] w fun e w' => e = .returned (.tuple #[.int .i64 (leftV m p turn), .int .i64 ((leftQ m p turn : Nat) : Int)]) ∧ w' = w := by
  have c0 : 0 ≤ (p : Int) % 2 := by omega
  have c1 : (p : Int) % 2 ≤ 1 := by omega
  have HQ : Hid (∀ v, mk p v < 256) := fun v => mk_lt p v hp
  cases turn
  · have HV : Hid (m * 2 % 256 = leftV m p false) := by show _ = _; unfold leftV; simp
    go_enter Try.func39, Try.ntmps39
    go_wp2_with (first
      | (go_at_call 47; refine (RMark _ _ _ hp).mono ?_; rintro e w' ⟨rfl, rfl⟩)
      | (go_at_call 31; refine (With _ _ _ _ (HQ.out _) (by decide)).mono ?_; rintro e w' ⟨rfl, rfl⟩))
    go_ret2
    exact ⟨ret_two HV.out (by unfold leftQ; rw [← HV.out]), rfl⟩
  · have HV : Hid (m * 2 % 256 + (p : Int) % 2 = leftV m p true) := by show _ = _; unfold leftV; simp
    go_enter Try.func39, Try.ntmps39
    go_wp2_with (first
      | (go_at_call 47; refine (RMark _ _ _ hp).mono ?_; rintro e w' ⟨rfl, rfl⟩)
      | (go_at_call 31; refine (With _ _ _ _ (HQ.out _) (by decide)).mono ?_; rintro e w' ⟨rfl, rfl⟩))
    go_ret2
    exact ⟨ret_two HV.out (by unfold leftQ; rw [← HV.out]), rfl⟩

set_option maxHeartbeats 1000000 in
theorem RRight (m : Int) (p : Nat) (turn : Bool) (w : World) (m0 : 0 ≤ m) (m1 : m ≤ 255) (hp : p < 256) : Calls Try.prog 32 #[.int .i64 m, .int .i64 (p : Int), .bool turn] w fun e w' => e = .returned (.tuple #[.int .i64 (rightV m p turn), .int .i64 ((rightQ m p turn : Nat) : Int)]) ∧ w' = w := by
  have c0 : 0 ≤ (p : Int) % 2 := by omega
  have c1 : (p : Int) % 2 ≤ 1 := by omega
  have HQ : Hid (∀ v, mk p v < 256) := fun v => mk_lt p v hp
  cases turn
  · have HV : Hid (m / 2 = rightV m p false) := by show _ = _; unfold rightV; simp
    go_enter Try.func32, Try.ntmps32
    go_wp2_with (first
      | (go_at_call 47; refine (RMark _ _ _ hp).mono ?_; rintro e w' ⟨rfl, rfl⟩)
      | (go_at_call 31; refine (With _ _ _ _ (HQ.out _) (by decide)).mono ?_; rintro e w' ⟨rfl, rfl⟩))
    go_ret2
    exact ⟨ret_two HV.out (by unfold rightQ; rw [← HV.out]; rfl), rfl⟩
  · have HV : Hid (m / 2 + (p : Int) % 2 * 128 = rightV m p true) := by show _ = _; unfold rightV; simp
    go_enter Try.func32, Try.ntmps32
    go_wp2_with (first
      | (go_at_call 47; refine (RMark _ _ _ hp).mono ?_; rintro e w' ⟨rfl, rfl⟩)
      | (go_at_call 31; refine (With _ _ _ _ (HQ.out _) (by decide)).mono ?_; rintro e w' ⟨rfl, rfl⟩))
    go_ret2
    exact ⟨ret_two HV.out (by unfold rightQ; rw [← HV.out]; rfl), rfl⟩

theorem chain4 : ∀ p : Nat, p < 256 → ∀ z n c x o : Bool, W (W (W (W (W p 2 z) 128 n) 1 c) 1 x) 64 o = W (W (W (W p 2 z) 128 n) 1 x) 64 o := by decide +kernel
theorem chain5 : ∀ p : Nat, p < 256 → ∀ z n c x y o : Bool, W (W (W (W (W (W (W p 2 z) 128 n) 1 c) 128 x) 2 z) 64 o) 1 y = W (W (W (W p 2 z) 128 x) 64 o) 1 y := by decide +kernel

theorem odd_val (t v : Int) (x y : Bool) (hx : mend (t % 16) = x) (hy : mend (t / 16) = y) : oddW t v = ((if x then v / 16 * 16 + (v % 16 + 6) % 16 else v) + 96 * oneI y) % 256 := by
  unfold oddW
  rw [hx, hy]
  cases x <;> cases y <;> simp [oneI] <;> omega

end Go.Proofs.Ytenaegclnomklaa.Alu
