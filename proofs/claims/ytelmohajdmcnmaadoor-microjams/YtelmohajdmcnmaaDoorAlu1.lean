/- What each call of package alu does: one contract a function. Flags are a number p below 256, bytes an integer from 0 to 255. -/
import Derived.Test.YtelmohajdmcnmaaDoorAluM
namespace Go.Proofs.YtelmohajdmcnmaaDoor.Alu
open Go.RowKit

theorem ret_int {k : IntKind} {a b : Int} (h : a = b) : Ending.returned (.int k a) = .returned (.int k b) := by rw [h]
theorem ret_two {k l : IntKind} {a b c d : Int} (h : a = c) (h2 : b = d) : Ending.returned (.tuple #[.int k a, .int l b]) = .returned (.tuple #[.int k c, .int l d]) := by rw [h, h2]

def oneI (b : Bool) : Int := if b then 1 else 0
theorem oneI_ne (b : Bool) : (oneI b != 0) = b := by cases b <;> rfl

theorem oneIf (b : Bool) (w : World) : Calls Tryd.prog 95 #[.bool b] w fun e w' => e = .returned (.int .i64 (oneI b)) ∧ w' = w := by
  cases b
  all_goals
    go_enter Tryd.func95, Tryd.ntmps95
    go_wp2
    go_ret
    exact ⟨rfl, rfl⟩

theorem with_eq (p : Nat) (f n : Int) (hp : p < 256) (f0 : 0 ≤ f) (f1 : f ≤ 255) : (if n = 0 then bits .andNot .u8 (p : Int) f else bits .or .u8 (p : Int) f) = ((W p f (n != 0) : Nat) : Int) := by
  obtain ⟨g, rfl⟩ := Int.eq_ofNat_of_zero_le f0
  unfold W
  by_cases h : n = 0
  · rw [if_pos h, u8_andNot_nat _ _ hp (by omega)]; simp [h]
  · rw [if_neg h, u8_or_nat _ _ hp (by omega)]; simp [h]

theorem withN (p : Nat) (f n : Int) (w : World) (hp : p < 256) (f0 : 0 ≤ f) (f1 : f ≤ 255) : Calls Tryd.prog 93 #[.int .u8 (p : Int), .int .u8 f, .int .i64 n] w fun e w' => e = .returned (.int .u8 ((W p f (n != 0) : Nat) : Int)) ∧ w' = w := by
  have H := with_eq p f n hp f0 f1
  by_cases h : n = 0
  all_goals
    simp only [h, if_true, if_false] at H
    have H' : Hid _ := H
    clear H
    go_enter Tryd.func93, Tryd.ntmps93
    go_wp2
    go_ret
    exact ⟨ret_int (H'.out.trans (by simp [h])), rfl⟩

theorem with8 (p : Nat) (f n : Int) (w : World) (hp : p < 256) (f0 : 0 ≤ f) (f1 : f ≤ 255) : Calls Tryd.prog 96 #[.int .u8 (p : Int), .int .u8 f, .int .u8 n] w fun e w' => e = .returned (.int .u8 ((W p f (n != 0) : Nat) : Int)) ∧ w' = w := by
  have H := with_eq p f n hp f0 f1
  by_cases h : n = 0
  all_goals
    simp only [h, if_true, if_false] at H
    have H' : Hid _ := H
    clear H
    go_enter Tryd.func96, Tryd.ntmps96
    go_wp2
    go_ret
    exact ⟨ret_int (H'.out.trans (by simp [h])), rfl⟩

theorem withZ (p : Nat) (v : Int) (w : World) (hp : p < 256) : Calls Tryd.prog 97 #[.int .u8 (p : Int), .int .u8 v] w fun e w' => e = .returned (.int .u8 ((W p 2 (v == 0) : Nat) : Int)) ∧ w' = w := by
  go_enter Tryd.func97, Tryd.ntmps97
  go_wp2_with (first
    | (go_at_call 95; refine (oneIf _ _).mono ?_; rintro e w' ⟨rfl, rfl⟩)
    | (go_at_call 93; refine (withN _ _ _ _ hp (by decide) (by decide)).mono ?_; rintro e w' ⟨rfl, rfl⟩))
  go_ret
  exact ⟨ret_int (by rw [oneI_ne]), rfl⟩

theorem carry (p : Nat) (w : World) (hp : p < 256) : Calls Tryd.prog 103 #[.int .u8 (p : Int)] w fun e w' => e = .returned (.int .i64 ((p : Int) % 2)) ∧ w' = w := by
  have h1 : bits .and .u8 (p : Int) 1 = (p : Int) % 2 := and1 p hp
  go_enter Tryd.func103, Tryd.ntmps103
  go_wp2_with (first
    | (go_at_call 95; refine (oneIf _ _).mono ?_; rintro e w' ⟨rfl, rfl⟩))
  go_ret
  refine ⟨ret_int ?_, rfl⟩
  by_cases h : (p : Int) % 2 = 0
  · simp [h, oneI]
  · have h2 : (p : Int) % 2 = 1 := by omega
    simp [h2, oneI]

theorem flipped (a m s : Int) (w : World) : Calls Tryd.prog 104 #[.int .u8 a, .int .u8 m, .int .u8 s] w fun e w' => e = .returned (.int .u8 (bits .and .u8 (bits .and .u8 (bits .xor .u8 a s) (bits .xor .u8 m s)) 128)) ∧ w' = w := by
  go_enter Tryd.func104, Tryd.ntmps104
  go_wp2
  go_ret
  exact ⟨rfl, rfl⟩

theorem digits (b : Int) (w : World) (h0 : 0 ≤ b) (h1 : b ≤ 255) : Calls Tryd.prog 102 #[.int .u8 b] w fun e w' => e = .returned (.agg #[.int .i64 (b % 16), .int .i64 (b / 16)]) ∧ w' = w.alloc (.cells #[.int .i64 (b % 16), .int .i64 (b / 16)] 117) := by
  go_enter Tryd.func102, Tryd.ntmps102
  go_wp2
  exact bodyPost_ret (v := .agg #[.int .i64 (b % 16), .int .i64 (b / 16)]) (by simp [results, Tryd.results102, go_sem]) rfl ⟨rfl, rfl⟩

/-- Is what the odd one makes of a digit mended? -/
def mend (d : Int) : Bool := decide (5 < d + d % 2)
theorem mended (d : Int) (w : World) (h0 : 0 ≤ d) (h1 : d ≤ 255) : Calls Tryd.prog 106 #[.int .i64 d] w fun e w' => e = .returned (.bool (mend d)) ∧ w' = w := by
  obtain ⟨n, rfl⟩ := Int.eq_ofNat_of_zero_le h0
  have h3 : bits .and .i64 (n : Int) 1 = (n : Int) % 2 := andI1 n (by omega)
  have h4 : 0 ≤ (n : Int) % 2 := by omega
  have h5 : (n : Int) % 2 ≤ 1 := by omega
  go_enter Tryd.func106, Tryd.ntmps106
  go_wp2
  go_ret
  exact ⟨rfl, rfl⟩

theorem Mark (p : Nat) (v : Int) (w : World) (hp : p < 256) (v0 : 0 ≤ v) (v1 : v ≤ 255) : Calls Tryd.prog 94 #[.int .u8 (p : Int), .int .u8 v] w fun e w' => e = .returned (.int .u8 ((mk p v : Nat) : Int)) ∧ w' = w := by
  go_enter Tryd.func94, Tryd.ntmps94
  go_wp2_with (first
    | (go_at_call 97; refine (withZ _ _ _ hp).mono ?_; rintro e w' ⟨rfl, rfl⟩)
    | (go_at_call 96; refine (with8 _ _ _ _ (W_lt _ _ _ hp (by decide)) (by decide) (by decide)).mono ?_; rintro e w' ⟨rfl, rfl⟩))
  go_ret
  refine ⟨ret_int ?_, rfl⟩
  obtain ⟨n, rfl⟩ := Int.eq_ofNat_of_zero_le v0
  rw [and128 n (by omega)]
  rfl

/-- The flags of a binary sum. -/
def binQ (p : Nat) (a m : Int) : Nat := W (W (mk p ((a + m + (p : Int) % 2) % 256)) 1 (decide (255 < a + m + (p : Int) % 2))) 64 (ov a m ((a + m + (p : Int) % 2) % 256))
theorem binQ_lt (p : Nat) (a m : Int) (hp : p < 256) : binQ p a m < 256 := W_lt _ _ _ (W_lt _ _ _ (mk_lt _ _ hp) (by decide)) (by decide)

set_option maxHeartbeats 400000 in
theorem binarySum (a m : Int) (p : Nat) (w : World) (a0 : 0 ≤ a) (a1 : a ≤ 255) (m0 : 0 ≤ m) (m1 : m ≤ 255) (hp : p < 256) : Calls Tryd.prog 91 #[.int .u8 a, .int .u8 m, .int .u8 (p : Int)] w fun e w' => e = .returned (.tuple #[.int .u8 ((a + m + (p : Int) % 2) % 256), .int .u8 ((binQ p a m : Nat) : Int)]) ∧ w' = w := by
  have c0 : 0 ≤ (p : Int) % 2 := by omega
  have c1 : (p : Int) % 2 ≤ 1 := by omega
  go_enter Tryd.func91, Tryd.ntmps91
  go_wp2_with (first
    | (go_at_call 103; refine (carry _ _ hp).mono ?_; rintro e w' ⟨rfl, rfl⟩)
    | (go_at_call 94; refine (Mark _ _ _ hp (by omega) (by omega)).mono ?_; rintro e w' ⟨rfl, rfl⟩)
    | (go_at_call 104; refine (flipped _ _ _ _).mono ?_; rintro e w' ⟨rfl, rfl⟩)
    | (go_at_call 93; refine (withN _ _ _ _ (mk_lt _ _ hp) (by decide) (by decide)).mono ?_; rintro e w' ⟨rfl, rfl⟩)
    | (go_at_call 96; refine (with8 _ _ _ _ (W_lt _ _ _ (mk_lt _ _ hp) (by decide)) (by decide) (by decide)).mono ?_; rintro e w' ⟨rfl, rfl⟩))
  go_ret2
  refine ⟨ret_two rfl ?_, rfl⟩
  obtain ⟨s, hs⟩ := Int.eq_ofNat_of_zero_le (show 0 ≤ (a + m + (p : Int) % 2) % 256 by omega)
  obtain ⟨x, rfl⟩ := Int.eq_ofNat_of_zero_le a0
  obtain ⟨y, rfl⟩ := Int.eq_ofNat_of_zero_le m0
  have e : (((x : Int) + y + (p : Int) % 2) / 256 != 0) = decide (255 < (x : Int) + y + (p : Int) % 2) := by
    rw [Bool.eq_iff_iff]; simp; omega
  unfold binQ
  rw [e, hs, flip x y s (by omega) (by omega) (by omega)]

end Go.Proofs.YtelmohajdmcnmaaDoor.Alu
