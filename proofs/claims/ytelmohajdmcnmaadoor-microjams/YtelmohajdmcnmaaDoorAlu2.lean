/- The decimal calls of package alu, and those that are told. -/
import Derived.Test.YtelmohajdmcnmaaDoorAlu1
import Derived.Deep.QuietTactic
import Derived.BigQuiet
namespace Go.Proofs.YtelmohajdmcnmaaDoor.Alu
open Go.RowKit

def low0 (a m : Int) (p : Nat) : Int := a % 16 + m % 16 + (p : Int) % 2
def lowS (a m : Int) (p : Nat) : Int := if 9 < low0 a m p then (low0 a m p + 6) % 16 + 16 else low0 a m p
def sumT (a m : Int) (p : Nat) : Int := (a / 16 + m / 16) * 16 + lowS a m p
def sumU (a m : Int) (p : Nat) : Int := if 160 ≤ sumT a m p then sumT a m p + 96 else sumT a m p
def sumQ (a m : Int) (p : Nat) : Nat := W (W (W (W p 2 ((a + m + (p : Int) % 2) % 256 == 0)) 128 (H7 (sumT a m p))) 64 (ov a m (sumT a m p))) 1 (decide (255 < sumU a m p))

theorem low0_le (a m : Int) (p : Nat) : 0 ≤ low0 a m p ∧ low0 a m p ≤ 31 := by unfold low0; omega
theorem lowS_le (a m : Int) (p : Nat) : 0 ≤ lowS a m p ∧ lowS a m p ≤ 31 := by unfold lowS; have := low0_le a m p; split <;> omega
theorem sumT_le (a m : Int) (p : Nat) (a0 : 0 ≤ a) (a1 : a ≤ 255) (m0 : 0 ≤ m) (m1 : m ≤ 255) : 0 ≤ sumT a m p ∧ sumT a m p ≤ 511 := by unfold sumT; have := lowS_le a m p; omega

theorem H7_mod (t : Int) : H7 (t % 256) = H7 t := by
  unfold H7
  rw [Bool.eq_iff_iff]; simp; omega
theorem ov_mod (a m t : Int) : ov a m (t % 256) = ov a m t := by unfold ov; rw [H7_mod]

theorem sum_end (a m t u s : Int) (p : Nat) (a0 : 0 ≤ a) (a1 : a ≤ 255) (m0 : 0 ≤ m) (m1 : m ≤ 255) (ht : t = sumT a m p) (hu : u = sumU a m p) (hs : s = t % 256) :
    ((W (W (W (W p 2 ((a + m + (p : Int) % 2) % 256 == 0)) 128 (bits .and .i64 t 128 != 0)) 64 (bits .and .u8 (bits .and .u8 (bits .xor .u8 a s) (bits .xor .u8 m s)) 128 != 0)) 1 (u / 256 != 0) : Nat) : Int) = ((sumQ a m p : Nat) : Int) := by
  subst hs ht hu
  have hl := sumT_le a m p a0 a1 m0 m1
  obtain ⟨t, ht⟩ := Int.eq_ofNat_of_zero_le hl.1
  obtain ⟨s, hs⟩ := Int.eq_ofNat_of_zero_le (show 0 ≤ (t : Int) % 256 by omega)
  have e : (sumU a m p / 256 != 0) = decide (255 < sumU a m p) := by
    have : 0 ≤ sumU a m p := by unfold sumU; split <;> omega
    rw [Bool.eq_iff_iff]; simp; omega
  unfold sumQ
  rw [e, ht, andI128 t (by omega)]
  obtain ⟨x, rfl⟩ := Int.eq_ofNat_of_zero_le a0
  obtain ⟨y, rfl⟩ := Int.eq_ofNat_of_zero_le m0
  rw [hs, flip x y s (by omega) (by omega) (by omega), ← hs, ov_mod]

theorem below_drewN {B : Nat} {a w : World} (h : Below B a w) (n : Nat) : Below B a (w.drewN n) := ⟨h.os, h.tape, h.output, h.size, h.block⟩
theorem below4 (w : World) (X1 X2 X3 X4 : Obj) : Below w.heap.size w ((((w.alloc X1).alloc X2).alloc X3).alloc X4) :=
  ((((Below.refl _ w).alloc (Nat.le_refl _) _).alloc (by simp) _).alloc (by simp; omega) _).alloc (by simp; omega) _

set_option maxRecDepth 100000 in
set_option maxHeartbeats 1000000 in
theorem decimalSum (a m : Int) (p : Nat) (w : World) (a0 : 0 ≤ a) (a1 : a ≤ 255) (m0 : 0 ≤ m) (m1 : m ≤ 255) (hp : p < 256) : Calls Tryd.prog 90 #[.int .u8 a, .int .u8 m, .int .u8 (p : Int)] w fun e w' => e = .returned (.tuple #[.int .u8 (sumU a m p % 256), .int .u8 ((sumQ a m p : Nat) : Int)]) ∧ Below w.heap.size w w' := by
  have c0 : 0 ≤ (p : Int) % 2 := by omega
  have c1 : (p : Int) % 2 ≤ 1 := by omega
  have hW := W_lt p 2 ((a + m + (p : Int) % 2) % 256 == 0) hp (by decide)
  by_cases h9 : 9 < a % 16 + m % 16 + (p : Int) % 2
  · have HT : Hid ((a / 16 + m / 16) * 16 + ((a % 16 + m % 16 + (p : Int) % 2 + 6) % 16 + 16) = sumT a m p) := by
      show _ = _; unfold sumT lowS low0; rw [if_pos h9]
    by_cases h160 : 160 ≤ (a / 16 + m / 16) * 16 + ((a % 16 + m % 16 + (p : Int) % 2 + 6) % 16 + 16)
    · have HU : Hid ((a / 16 + m / 16) * 16 + ((a % 16 + m % 16 + (p : Int) % 2 + 6) % 16 + 16) + 96 = sumU a m p) := by
        show _ = _; unfold sumU; rw [← HT.out, if_pos h160]
      go_enter Tryd.func90, Tryd.ntmps90
      go_wp2_with (go_at_call 102; refine (digits _ _ (by assumption) (by assumption)).mono ?_; rintro e w' ⟨rfl, rfl⟩)
      go_quiet ((go_at_call 103; exact Calls.quiet_of_same (carry _ _ hp)))
      go_wp2_with (first
        | (go_at_call 91; refine (binarySum _ _ _ _ a0 a1 m0 m1 hp).mono ?_; rintro e w' ⟨rfl, rfl⟩)
        | (go_at_call 97; refine (withZ _ _ _ hp).mono ?_; rintro e w' ⟨rfl, rfl⟩)
        | (go_at_call 104; refine (flipped _ _ _ _).mono ?_; rintro e w' ⟨rfl, rfl⟩)
        | (go_at_call 93; refine (withN _ _ _ _ (by first | exact hW | exact W_lt _ _ _ (W_lt _ _ _ hW (by decide)) (by decide)) (by decide) (by decide)).mono ?_; rintro e w' ⟨rfl, rfl⟩)
        | (go_at_call 96; refine (with8 _ _ _ _ (W_lt _ _ _ hW (by decide)) (by decide) (by decide)).mono ?_; rintro e w' ⟨rfl, rfl⟩))
      go_ret2
      exact ⟨ret_two (by have := HU.out; omega) (sum_end a m _ _ _ p a0 a1 m0 m1 HT.out HU.out (by omega)), below_drewN (below4 w _ _ _ _) _⟩
    · have HU : Hid ((a / 16 + m / 16) * 16 + ((a % 16 + m % 16 + (p : Int) % 2 + 6) % 16 + 16) = sumU a m p) := by
        show _ = _; unfold sumU; rw [← HT.out, if_neg h160]
      go_enter Tryd.func90, Tryd.ntmps90
      go_wp2_with (go_at_call 102; refine (digits _ _ (by assumption) (by assumption)).mono ?_; rintro e w' ⟨rfl, rfl⟩)
      go_quiet ((go_at_call 103; exact Calls.quiet_of_same (carry _ _ hp)))
      go_wp2_with (first
        | (go_at_call 91; refine (binarySum _ _ _ _ a0 a1 m0 m1 hp).mono ?_; rintro e w' ⟨rfl, rfl⟩)
        | (go_at_call 97; refine (withZ _ _ _ hp).mono ?_; rintro e w' ⟨rfl, rfl⟩)
        | (go_at_call 104; refine (flipped _ _ _ _).mono ?_; rintro e w' ⟨rfl, rfl⟩)
        | (go_at_call 93; refine (withN _ _ _ _ (by first | exact hW | exact W_lt _ _ _ (W_lt _ _ _ hW (by decide)) (by decide)) (by decide) (by decide)).mono ?_; rintro e w' ⟨rfl, rfl⟩)
        | (go_at_call 96; refine (with8 _ _ _ _ (W_lt _ _ _ hW (by decide)) (by decide) (by decide)).mono ?_; rintro e w' ⟨rfl, rfl⟩))
      go_ret2
      exact ⟨ret_two (by have := HU.out; omega) (sum_end a m _ _ _ p a0 a1 m0 m1 HT.out HU.out (by omega)), below_drewN (below4 w _ _ _ _) _⟩
  · have HT : Hid ((a / 16 + m / 16) * 16 + (a % 16 + m % 16 + (p : Int) % 2) = sumT a m p) := by
      show _ = _; unfold sumT lowS low0; rw [if_neg h9]
    by_cases h160 : 160 ≤ (a / 16 + m / 16) * 16 + (a % 16 + m % 16 + (p : Int) % 2)
    · have HU : Hid ((a / 16 + m / 16) * 16 + (a % 16 + m % 16 + (p : Int) % 2) + 96 = sumU a m p) := by
        show _ = _; unfold sumU; rw [← HT.out, if_pos h160]
      go_enter Tryd.func90, Tryd.ntmps90
      go_wp2_with (go_at_call 102; refine (digits _ _ (by assumption) (by assumption)).mono ?_; rintro e w' ⟨rfl, rfl⟩)
      go_quiet ((go_at_call 103; exact Calls.quiet_of_same (carry _ _ hp)))
      go_wp2_with (first
        | (go_at_call 91; refine (binarySum _ _ _ _ a0 a1 m0 m1 hp).mono ?_; rintro e w' ⟨rfl, rfl⟩)
        | (go_at_call 97; refine (withZ _ _ _ hp).mono ?_; rintro e w' ⟨rfl, rfl⟩)
        | (go_at_call 104; refine (flipped _ _ _ _).mono ?_; rintro e w' ⟨rfl, rfl⟩)
        | (go_at_call 93; refine (withN _ _ _ _ (by first | exact hW | exact W_lt _ _ _ (W_lt _ _ _ hW (by decide)) (by decide)) (by decide) (by decide)).mono ?_; rintro e w' ⟨rfl, rfl⟩)
        | (go_at_call 96; refine (with8 _ _ _ _ (W_lt _ _ _ hW (by decide)) (by decide) (by decide)).mono ?_; rintro e w' ⟨rfl, rfl⟩))
      go_ret2
      exact ⟨ret_two (by have := HU.out; omega) (sum_end a m _ _ _ p a0 a1 m0 m1 HT.out HU.out (by omega)), below_drewN (below4 w _ _ _ _) _⟩
    · have HU : Hid ((a / 16 + m / 16) * 16 + (a % 16 + m % 16 + (p : Int) % 2) = sumU a m p) := by
        show _ = _; unfold sumU; rw [← HT.out, if_neg h160]
      go_enter Tryd.func90, Tryd.ntmps90
      go_wp2_with (go_at_call 102; refine (digits _ _ (by assumption) (by assumption)).mono ?_; rintro e w' ⟨rfl, rfl⟩)
      go_quiet ((go_at_call 103; exact Calls.quiet_of_same (carry _ _ hp)))
      go_wp2_with (first
        | (go_at_call 91; refine (binarySum _ _ _ _ a0 a1 m0 m1 hp).mono ?_; rintro e w' ⟨rfl, rfl⟩)
        | (go_at_call 97; refine (withZ _ _ _ hp).mono ?_; rintro e w' ⟨rfl, rfl⟩)
        | (go_at_call 104; refine (flipped _ _ _ _).mono ?_; rintro e w' ⟨rfl, rfl⟩)
        | (go_at_call 93; refine (withN _ _ _ _ (by first | exact hW | exact W_lt _ _ _ (W_lt _ _ _ hW (by decide)) (by decide)) (by decide) (by decide)).mono ?_; rintro e w' ⟨rfl, rfl⟩)
        | (go_at_call 96; refine (with8 _ _ _ _ (W_lt _ _ _ hW (by decide)) (by decide) (by decide)).mono ?_; rintro e w' ⟨rfl, rfl⟩))
      go_ret2
      exact ⟨ret_two (by have := HU.out; omega) (sum_end a m _ _ _ p a0 a1 m0 m1 HT.out HU.out (by omega)), below_drewN (below4 w _ _ _ _) _⟩

def dif0 (a m : Int) (p : Nat) : Int := a % 16 - m % 16 + (p : Int) % 2 - 1
def difL (a m : Int) (p : Nat) : Int := if dif0 a m p < 0 then (dif0 a m p - 6) % 16 - 16 else dif0 a m p
def difT (a m : Int) (p : Nat) : Int := (a / 16 - m / 16) * 16 + difL a m p
def difU (a m : Int) (p : Nat) : Int := if difT a m p < 0 then difT a m p - 96 else difT a m p

theorem and15 (x : Int) (h0 : -16 ≤ x) (h1 : x < 0) : bits .and .i64 (x - 6) 15 = (x - 6) % 16 := by
  obtain ⟨k, hk⟩ := Int.eq_ofNat_of_zero_le (show 0 ≤ -x - 1 by omega)
  have := andI15 k (by omega)
  rw [show -(k : Int) - 1 - 6 = x - 6 by omega] at this
  omega

set_option maxRecDepth 100000 in
set_option maxHeartbeats 1000000 in
theorem decimalDifference (a m : Int) (p : Nat) (w : World) (a0 : 0 ≤ a) (a1 : a ≤ 255) (m0 : 0 ≤ m) (m1 : m ≤ 255) (hp : p < 256) : Calls Tryd.prog 92 #[.int .u8 a, .int .u8 m, .int .u8 (p : Int)] w fun e w' => e = .returned (.int .u8 (difU a m p % 256)) ∧ Below w.heap.size w w' := by
  have c0 : 0 ≤ (p : Int) % 2 := by omega
  have c1 : (p : Int) % 2 ≤ 1 := by omega
  by_cases h9 : a % 16 - m % 16 + (p : Int) % 2 - 1 < 0
  · have hb : bits .and .i64 (a % 16 - m % 16 + (p : Int) % 2 - 1 - 6) 15 = (a % 16 - m % 16 + (p : Int) % 2 - 1 - 6) % 16 := and15 _ (by omega) h9
    have HT : Hid ((a / 16 - m / 16) * 16 + ((a % 16 - m % 16 + (p : Int) % 2 - 1 - 6) % 16 - 16) = difT a m p) := by
      show _ = _; unfold difT difL dif0; rw [if_pos h9]
    by_cases h160 : (a / 16 - m / 16) * 16 + ((a % 16 - m % 16 + (p : Int) % 2 - 1 - 6) % 16 - 16) < 0
    · have HU : Hid ((a / 16 - m / 16) * 16 + ((a % 16 - m % 16 + (p : Int) % 2 - 1 - 6) % 16 - 16) - 96 = difU a m p) := by
        show _ = _; unfold difU; rw [← HT.out, if_pos h160]
      go_enter Tryd.func92, Tryd.ntmps92
      go_wp2_with (go_at_call 102; refine (digits _ _ (by assumption) (by assumption)).mono ?_; rintro e w' ⟨rfl, rfl⟩)
      go_quiet ((go_at_call 103; exact Calls.quiet_of_same (carry _ _ hp)))
      go_wp2
      go_ret
      exact ⟨ret_int (by have := HU.out; omega), below_drewN (below4 w _ _ _ _) _⟩
    · have HU : Hid ((a / 16 - m / 16) * 16 + ((a % 16 - m % 16 + (p : Int) % 2 - 1 - 6) % 16 - 16) = difU a m p) := by
        show _ = _; unfold difU; rw [← HT.out, if_neg h160]
      go_enter Tryd.func92, Tryd.ntmps92
      go_wp2_with (go_at_call 102; refine (digits _ _ (by assumption) (by assumption)).mono ?_; rintro e w' ⟨rfl, rfl⟩)
      go_quiet ((go_at_call 103; exact Calls.quiet_of_same (carry _ _ hp)))
      go_wp2
      go_ret
      exact ⟨ret_int (by have := HU.out; omega), below_drewN (below4 w _ _ _ _) _⟩
  · have HT : Hid ((a / 16 - m / 16) * 16 + (a % 16 - m % 16 + (p : Int) % 2 - 1) = difT a m p) := by
      show _ = _; unfold difT difL dif0; rw [if_neg h9]
    by_cases h160 : (a / 16 - m / 16) * 16 + (a % 16 - m % 16 + (p : Int) % 2 - 1) < 0
    · have HU : Hid ((a / 16 - m / 16) * 16 + (a % 16 - m % 16 + (p : Int) % 2 - 1) - 96 = difU a m p) := by
        show _ = _; unfold difU; rw [← HT.out, if_pos h160]
      go_enter Tryd.func92, Tryd.ntmps92
      go_wp2_with (go_at_call 102; refine (digits _ _ (by assumption) (by assumption)).mono ?_; rintro e w' ⟨rfl, rfl⟩)
      go_quiet ((go_at_call 103; exact Calls.quiet_of_same (carry _ _ hp)))
      go_wp2
      go_ret
      exact ⟨ret_int (by have := HU.out; omega), below_drewN (below4 w _ _ _ _) _⟩
    · have HU : Hid ((a / 16 - m / 16) * 16 + (a % 16 - m % 16 + (p : Int) % 2 - 1) = difU a m p) := by
        show _ = _; unfold difU; rw [← HT.out, if_neg h160]
      go_enter Tryd.func92, Tryd.ntmps92
      go_wp2_with (go_at_call 102; refine (digits _ _ (by assumption) (by assumption)).mono ?_; rintro e w' ⟨rfl, rfl⟩)
      go_quiet ((go_at_call 103; exact Calls.quiet_of_same (carry _ _ hp)))
      go_wp2
      go_ret
      exact ⟨ret_int (by have := HU.out; omega), below_drewN (below4 w _ _ _ _) _⟩

end Go.Proofs.YtelmohajdmcnmaaDoor.Alu
