/- The document's own answers of layer 9 that its laws ask for. -/
import Derived.Test.YtenaegclnomklaaRef9
namespace Go.Proofs.Ytenaegclnomklaa.Alu
open Go.RowKit

theorem chain1 : ∀ p : Nat, p < 256 → ∀ z n c o : Bool, W (W (W (W p 1 c) 64 o) 2 z) 128 n = W (W (W (W p 2 z) 128 n) 1 c) 64 o := by decide +kernel
theorem chain2 : ∀ p : Nat, p < 256 → ∀ z n c o : Bool, W (W (W (W p 2 z) 128 n) 64 o) 1 c = (p &&& 60) ||| ((if z then 2 else 0) + (if n then 128 else 0) + (if o then 64 else 0) + (if c then 1 else 0)) := by decide +kernel
theorem chain3 : ∀ p : Nat, p < 256 → ∀ z n c o : Bool, W (W (W (W p 2 z) 128 n) 1 c) 64 o &&& 60 = p &&& 60 := by decide +kernel

theorem binQ_eq (p : Nat) (a m : Int) (hp : p < 256) : mk (W (W p 1 (decide (255 < a + m + (p : Int) % 2))) 64 (ov a m ((a + m + (p : Int) % 2) % 256))) ((a + m + (p : Int) % 2) % 256) = binQ p a m := chain1 p hp _ _ _ _
theorem sumQ_eq (p : Nat) (a m : Int) (hp : p < 256) (z n c o : Bool) : W (W (W (W (binQ p a m) 2 z) 128 n) 64 o) 1 c = W (W (W (W p 2 z) 128 n) 64 o) 1 c := by
  rw [chain2 _ (binQ_lt p a m hp), chain2 p hp]
  unfold binQ mk
  rw [chain3 p hp]

set_option maxHeartbeats 400000 in
theorem binary (a m : Int) (p : Nat) (w : World) (a0 : 0 ≤ a) (a1 : a ≤ 255) (m0 : 0 ≤ m) (m1 : m ≤ 255) (hp : p < 256) : Calls Try.prog 48 #[.int .i64 a, .int .i64 m, .int .i64 (p : Int)] w fun e w' => e = .returned (.tuple #[.int .i64 ((a + m + (p : Int) % 2) % 256), .int .i64 ((binQ p a m : Nat) : Int)]) ∧ w' = w := by
  have c0 : 0 ≤ (p : Int) % 2 := by omega
  have c1 : (p : Int) % 2 ≤ 1 := by omega
  have HE : Hid (mk (W (W p 1 (decide (255 < a + m + (p : Int) % 2))) 64 (ov a m ((a + m + (p : Int) % 2) % 256))) ((a + m + (p : Int) % 2) % 256) = binQ p a m) := binQ_eq p a m hp
  go_enter Try.func48, Try.ntmps48
  go_wp2_with (first
    | (go_at_call 49; refine (over _ _ _ _ a0 a1 m0 m1 (by omega) (by omega)).mono ?_; rintro e w' ⟨rfl, rfl⟩)
    | (go_at_call 31; refine (With _ _ _ _ (by first | exact hp | exact W_lt _ _ _ hp (by decide)) (by decide)).mono ?_; rintro e w' ⟨rfl, rfl⟩)
    | (go_at_call 47; refine (RMark _ _ _ (W_lt _ _ _ (W_lt _ _ _ hp (by decide)) (by decide))).mono ?_; rintro e w' ⟨rfl, rfl⟩))
  go_ret2
  exact ⟨ret_two rfl (by rw [HE.out]), rfl⟩

theorem hasD {p : Nat} : hasB p 8 = D p := by
  unfold hasB D
  rw [Bool.eq_iff_iff]; simp; omega
theorem has7 (t : Int) : hasB t 128 = H7 t := rfl

set_option maxRecDepth 100000 in
set_option maxHeartbeats 1000000 in
theorem RAdd (a m : Int) (p : Nat) (w : World) (a0 : 0 ≤ a) (a1 : a ≤ 255) (m0 : 0 ≤ m) (m1 : m ≤ 255) (hp : p < 256) : Calls Try.prog 27 #[.int .i64 a, .int .i64 m, .int .i64 (p : Int)] w fun e w' => e = .returned (.tuple #[.int .i64 (addV a m p), .int .i64 ((addQ a m p : Nat) : Int)]) ∧ w' = w := by
  have c0 : 0 ≤ (p : Int) % 2 := by omega
  have c1 : (p : Int) % 2 ≤ 1 := by omega
  have hq := binQ_lt p a m hp
  have HQ : Hid (∀ z n c o : Bool, W (W (W (W (binQ p a m) 2 z) 128 n) 64 o) 1 c = W (W (W (W p 2 z) 128 n) 64 o) 1 c) := sumQ_eq p a m hp
  have hD' := hasD (p := p)
  cases hD : D p
  · rw [hD] at hD'
    have HV : Hid ((a + m + (p : Int) % 2) % 256 = addV a m p ∧ binQ p a m = addQ a m p) := ⟨by unfold addV; rw [hD]; rfl, by unfold addQ; rw [hD]; rfl⟩
    clear hD
    go_enter Try.func27, Try.ntmps27
    go_wp2_with (first
      | (go_at_call 48; refine (binary _ _ _ _ a0 a1 m0 m1 hp).mono ?_; rintro e w' ⟨rfl, rfl⟩)
      | (go_at_call 36; refine (Has _ _ _ (by omega) (by omega) (by omega) (by omega)).mono ?_; rintro e w' ⟨rfl, rfl⟩))
    go_ret2
    exact ⟨ret_two HV.out.1 (by rw [HV.out.2]), rfl⟩
  · rw [hD] at hD'
    have HV : Hid (sumU a m p % 256 = addV a m p ∧ sumQ a m p = addQ a m p) := ⟨by unfold addV; rw [hD]; rfl, by unfold addQ; rw [hD]; rfl⟩
    clear hD
    by_cases h9 : 9 < a % 16 + m % 16 + (p : Int) % 2
    · have HT : Hid (a / 16 * 16 + m / 16 * 16 + ((a % 16 + m % 16 + (p : Int) % 2 + 6) % 16 + 16) = sumT a m p) := by
        show _ = _; unfold sumT lowS low0; rw [if_pos h9]; omega
      by_cases h160 : 160 ≤ a / 16 * 16 + m / 16 * 16 + ((a % 16 + m % 16 + (p : Int) % 2 + 6) % 16 + 16)
      · have HU : Hid (a / 16 * 16 + m / 16 * 16 + ((a % 16 + m % 16 + (p : Int) % 2 + 6) % 16 + 16) + 96 = sumU a m p) := by
          show _ = _; unfold sumU; rw [← HT.out, if_pos h160]
        go_enter Try.func27, Try.ntmps27
        go_wp2_with (first
          | (go_at_call 48; refine (binary _ _ _ _ a0 a1 m0 m1 hp).mono ?_; rintro e w' ⟨rfl, rfl⟩)
          | (go_at_call 36; refine (Has _ _ _ (by omega) (by omega) (by omega) (by omega)).mono ?_; rintro e w' ⟨rfl, rfl⟩)
          | (go_at_call 49; refine (over _ _ _ _ a0 a1 m0 m1 (by omega) (by omega)).mono ?_; rintro e w' ⟨rfl, rfl⟩)
          | (go_at_call 31; refine (With _ _ _ _ (by first | exact hq | exact W_lt _ _ _ hq (by decide) | exact W_lt _ _ _ (W_lt _ _ _ hq (by decide)) (by decide) | exact W_lt _ _ _ (W_lt _ _ _ (W_lt _ _ _ hq (by decide)) (by decide)) (by decide)) (by decide)).mono ?_; rintro e w' ⟨rfl, rfl⟩))
        go_ret2
        exact ⟨ret_two (by rw [← HV.out.1, ← HU.out]) (by have hu := HU.out; rw [HT.out] at hu; rw [HQ.out, has7, HT.out, ← HV.out.2]; unfold sumQ; rw [← hu]), rfl⟩
      · have HU : Hid (a / 16 * 16 + m / 16 * 16 + ((a % 16 + m % 16 + (p : Int) % 2 + 6) % 16 + 16) = sumU a m p) := by
          show _ = _; unfold sumU; rw [← HT.out, if_neg h160]
        go_enter Try.func27, Try.ntmps27
        go_wp2_with (first
          | (go_at_call 48; refine (binary _ _ _ _ a0 a1 m0 m1 hp).mono ?_; rintro e w' ⟨rfl, rfl⟩)
          | (go_at_call 36; refine (Has _ _ _ (by omega) (by omega) (by omega) (by omega)).mono ?_; rintro e w' ⟨rfl, rfl⟩)
          | (go_at_call 49; refine (over _ _ _ _ a0 a1 m0 m1 (by omega) (by omega)).mono ?_; rintro e w' ⟨rfl, rfl⟩)
          | (go_at_call 31; refine (With _ _ _ _ (by first | exact hq | exact W_lt _ _ _ hq (by decide) | exact W_lt _ _ _ (W_lt _ _ _ hq (by decide)) (by decide) | exact W_lt _ _ _ (W_lt _ _ _ (W_lt _ _ _ hq (by decide)) (by decide)) (by decide)) (by decide)).mono ?_; rintro e w' ⟨rfl, rfl⟩))
        go_ret2
        exact ⟨ret_two (by rw [← HV.out.1, ← HU.out]) (by have hu := HU.out; rw [HT.out] at hu; rw [HQ.out, has7, HT.out, ← HV.out.2]; unfold sumQ; rw [← hu]), rfl⟩
    · have HT : Hid (a / 16 * 16 + m / 16 * 16 + (a % 16 + m % 16 + (p : Int) % 2) = sumT a m p) := by
        show _ = _; unfold sumT lowS low0; rw [if_neg h9]; omega
      by_cases h160 : 160 ≤ a / 16 * 16 + m / 16 * 16 + (a % 16 + m % 16 + (p : Int) % 2)
      · have HU : Hid (a / 16 * 16 + m / 16 * 16 + (a % 16 + m % 16 + (p : Int) % 2) + 96 = sumU a m p) := by
          show _ = _; unfold sumU; rw [← HT.out, if_pos h160]
        go_enter Try.func27, Try.ntmps27
        go_wp2_with (first
          | (go_at_call 48; refine (binary _ _ _ _ a0 a1 m0 m1 hp).mono ?_; rintro e w' ⟨rfl, rfl⟩)
          | (go_at_call 36; refine (Has _ _ _ (by omega) (by omega) (by omega) (by omega)).mono ?_; rintro e w' ⟨rfl, rfl⟩)
          | (go_at_call 49; refine (over _ _ _ _ a0 a1 m0 m1 (by omega) (by omega)).mono ?_; rintro e w' ⟨rfl, rfl⟩)
          | (go_at_call 31; refine (With _ _ _ _ (by first | exact hq | exact W_lt _ _ _ hq (by decide) | exact W_lt _ _ _ (W_lt _ _ _ hq (by decide)) (by decide) | exact W_lt _ _ _ (W_lt _ _ _ (W_lt _ _ _ hq (by decide)) (by decide)) (by decide)) (by decide)).mono ?_; rintro e w' ⟨rfl, rfl⟩))
        go_ret2
        exact ⟨ret_two (by rw [← HV.out.1, ← HU.out]) (by have hu := HU.out; rw [HT.out] at hu; rw [HQ.out, has7, HT.out, ← HV.out.2]; unfold sumQ; rw [← hu]), rfl⟩
      · have HU : Hid (a / 16 * 16 + m / 16 * 16 + (a % 16 + m % 16 + (p : Int) % 2) = sumU a m p) := by
          show _ = _; unfold sumU; rw [← HT.out, if_neg h160]
        go_enter Try.func27, Try.ntmps27
        go_wp2_with (first
          | (go_at_call 48; refine (binary _ _ _ _ a0 a1 m0 m1 hp).mono ?_; rintro e w' ⟨rfl, rfl⟩)
          | (go_at_call 36; refine (Has _ _ _ (by omega) (by omega) (by omega) (by omega)).mono ?_; rintro e w' ⟨rfl, rfl⟩)
          | (go_at_call 49; refine (over _ _ _ _ a0 a1 m0 m1 (by omega) (by omega)).mono ?_; rintro e w' ⟨rfl, rfl⟩)
          | (go_at_call 31; refine (With _ _ _ _ (by first | exact hq | exact W_lt _ _ _ hq (by decide) | exact W_lt _ _ _ (W_lt _ _ _ hq (by decide)) (by decide) | exact W_lt _ _ _ (W_lt _ _ _ (W_lt _ _ _ hq (by decide)) (by decide)) (by decide)) (by decide)).mono ?_; rintro e w' ⟨rfl, rfl⟩))
        go_ret2
        exact ⟨ret_two (by rw [← HV.out.1, ← HU.out]) (by have hu := HU.out; rw [HT.out] at hu; rw [HQ.out, has7, HT.out, ← HV.out.2]; unfold sumQ; rw [← hu]), rfl⟩

theorem RCompare (a m : Int) (p : Nat) (w : World) (a0 : 0 ≤ a) (a1 : a ≤ 255) (m0 : 0 ≤ m) (m1 : m ≤ 255) (hp : p < 256) : Calls Try.prog 29 #[.int .i64 a, .int .i64 m, .int .i64 (p : Int)] w fun e w' => e = .returned (.int .i64 ((cmpQ a m p : Nat) : Int)) ∧ w' = w := by
  have HM : Hid (mk p ((a - m + 256) % 256) = mk p ((a - m) % 256)) := by show _ = _; rw [show (a - m + 256) % 256 = (a - m) % 256 by omega]
  go_enter Try.func29, Try.ntmps29
  go_wp2_with (first
    | (go_at_call 47; refine (RMark _ _ _ hp).mono ?_; rintro e w' ⟨rfl, rfl⟩)
    | (go_at_call 31; refine (With _ _ _ _ (mk_lt _ _ hp) (by decide)).mono ?_; rintro e w' ⟨rfl, rfl⟩))
  go_ret
  exact ⟨ret_int (by first | rfl | (rw [HM.out]; rfl)), rfl⟩

theorem tneg : ∀ n : Nat, n < 500 → (wrap64 ((-(n : Int)).tmod 256 + 256)).tmod 256 = (-(n : Int)) % 256 := by decide +kernel
theorem tmod256 (t : Int) (h0 : -500 < t) (h1 : t < 0) : (wrap64 (t.tmod 256 + 256)).tmod 256 = t % 256 := by
  obtain ⟨n, hn⟩ : ∃ n : Nat, t = -(n : Int) := ⟨(-t).toNat, by omega⟩
  subst hn
  exact tneg n (by omega)
theorem tsmall : ∀ n : Nat, n < 7 → (-(n : Int)).tmod 16 = -(n : Int) := by decide +kernel
theorem tmod16 (x : Int) (h0 : -6 ≤ x) (h1 : x < 0) : x.tmod 16 = x := by
  obtain ⟨n, hn⟩ : ∃ n : Nat, x = -(n : Int) := ⟨(-x).toNat, by omega⟩
  subst hn
  exact tsmall n (by omega)

set_option maxRecDepth 100000 in
set_option maxHeartbeats 1000000 in
theorem RSub (a m : Int) (p : Nat) (w : World) (a0 : 0 ≤ a) (a1 : a ≤ 255) (m0 : 0 ≤ m) (m1 : m ≤ 255) (hp : p < 256) : Calls Try.prog 28 #[.int .i64 a, .int .i64 m, .int .i64 (p : Int)] w fun e w' => e = .returned (.tuple #[.int .i64 (subV a m p), .int .i64 ((binQ p a (255 - m) : Nat) : Int)]) ∧ w' = w := by
  have c0 : 0 ≤ (p : Int) % 2 := by omega
  have c1 : (p : Int) % 2 ≤ 1 := by omega
  have hD' := hasD (p := p)
  cases hD : D p
  · rw [hD] at hD'
    have HV : Hid ((a + (255 - m) + (p : Int) % 2) % 256 = subV a m p) := by show _ = _; unfold subV; rw [hD]; rfl
    clear hD
    go_enter Try.func28, Try.ntmps28
    go_wp2_with (first
      | (go_at_call 48; refine (binary _ _ _ _ a0 a1 (by omega) (by omega) hp).mono ?_; rintro e w' ⟨rfl, rfl⟩)
      | (go_at_call 36; refine (Has _ _ _ (by omega) (by omega) (by omega) (by omega)).mono ?_; rintro e w' ⟨rfl, rfl⟩))
    go_ret2
    exact ⟨ret_two HV.out rfl, rfl⟩
  · rw [hD] at hD'
    have HV : Hid (difU a m p % 256 = subV a m p) := by show _ = _; unfold subV; rw [hD]; rfl
    clear hD
    have HL : Hid (difL a m p = if a % 16 - m % 16 + (p : Int) % 2 - 1 < 0 then (a % 16 - m % 16 + (p : Int) % 2 - 1 - 6) % 16 - 16 else a % 16 - m % 16 + (p : Int) % 2 - 1) := (rfl : _ = _)
    have HT : Hid (difT a m p = (a / 16 - m / 16) * 16 + difL a m p) := (rfl : _ = _)
    have HU : Hid (difU a m p = if difT a m p < 0 then difT a m p - 96 else difT a m p) := (rfl : _ = _)
    by_cases h9 : a % 16 - m % 16 - (1 - (p : Int) % 2) < 0
    · by_cases h10 : a % 16 - m % 16 - (1 - (p : Int) % 2) + 10 < 0
      · have hm := tmod16 (a % 16 - m % 16 - (1 - (p : Int) % 2) + 10) (by omega) h10
        by_cases ht : a / 16 * 16 - m / 16 * 16 + (a % 16 - m % 16 - (1 - (p : Int) % 2) + 10 - 16 + 16) < 0
        all_goals
          go_enter Try.func28, Try.ntmps28
          go_wp2_with (first
            | (go_at_call 48; refine (binary _ _ _ _ a0 a1 (by omega) (by omega) hp).mono ?_; rintro e w' ⟨rfl, rfl⟩)
            | (go_at_call 36; refine (Has _ _ _ (by omega) (by omega) (by omega) (by omega)).mono ?_; rintro e w' ⟨rfl, rfl⟩))
          go_ret2
          refine ⟨ret_two ?_ rfl, rfl⟩
          rw [← HV.out]
          have hl := HL.out
          have ht' := HT.out
          have hu := HU.out
          clear HL HT HU HV
          try rw [tmod256 _ (by omega) (by omega)]
          split at hl <;> split at hu <;> omega
      · by_cases ht : a / 16 * 16 - m / 16 * 16 + ((a % 16 - m % 16 - (1 - (p : Int) % 2) + 10) % 16 - 16) < 0
        all_goals
          go_enter Try.func28, Try.ntmps28
          go_wp2_with (first
            | (go_at_call 48; refine (binary _ _ _ _ a0 a1 (by omega) (by omega) hp).mono ?_; rintro e w' ⟨rfl, rfl⟩)
            | (go_at_call 36; refine (Has _ _ _ (by omega) (by omega) (by omega) (by omega)).mono ?_; rintro e w' ⟨rfl, rfl⟩))
          go_ret2
          refine ⟨ret_two ?_ rfl, rfl⟩
          rw [← HV.out]
          have hl := HL.out
          have ht' := HT.out
          have hu := HU.out
          clear HL HT HU HV
          try rw [tmod256 _ (by omega) (by omega)]
          split at hl <;> split at hu <;> omega
    · by_cases ht : a / 16 * 16 - m / 16 * 16 + (a % 16 - m % 16 - (1 - (p : Int) % 2)) < 0
      all_goals
        go_enter Try.func28, Try.ntmps28
        go_wp2_with (first
          | (go_at_call 48; refine (binary _ _ _ _ a0 a1 (by omega) (by omega) hp).mono ?_; rintro e w' ⟨rfl, rfl⟩)
          | (go_at_call 36; refine (Has _ _ _ (by omega) (by omega) (by omega) (by omega)).mono ?_; rintro e w' ⟨rfl, rfl⟩))
        go_ret2
        refine ⟨ret_two ?_ rfl, rfl⟩
        rw [← HV.out]
        have hl := HL.out
        have ht' := HT.out
        have hu := HU.out
        clear HL HT HU HV
        try rw [tmod256 _ (by omega) (by omega)]
        split at hl <;> split at hu <;> omega

end Go.Proofs.Ytenaegclnomklaa.Alu
