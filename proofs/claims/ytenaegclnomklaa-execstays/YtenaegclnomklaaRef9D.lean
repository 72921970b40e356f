/- The document's own odd one. -/
import Derived.Test.YtenaegclnomklaaRef9C
namespace Go.Proofs.Ytenaegclnomklaa.Alu
open Go.RowKit

theorem rightQ_lt (m : Int) (p : Nat) (b : Bool) (hp : p < 256) : rightQ m p b < 256 := W_lt _ _ _ (mk_lt _ _ hp) (by decide)
theorem odd1 (p : Nat) (t v : Int) (hp : p < 256) (c x o : Bool) (_ : t = t) : W (W (W (mk p v) 1 c) 1 x) 64 o = W (W (mk p v) 1 x) 64 o := chain4 p hp _ _ _ _ _
theorem odd2 (p : Nat) (t v : Int) (hp : p < 256) (c y : Bool) : W (W (W (W (W (mk p v) 1 c) 128 ((p : Int) % 2 == 1)) 2 (v == 0)) 64 (!(H6 t == H6 v))) 1 y = W (oddP t v p) 1 y := by
  have e : ((p : Int) % 2 == 1) = ((p : Int) % 2 != 0) := by rw [Bool.eq_iff_iff]; simp; omega
  unfold oddP mk
  rw [e]
  exact chain5 p hp _ _ _ _ _ _

set_option maxRecDepth 100000 in
set_option maxHeartbeats 2000000 in
theorem ROdd (a m p : Nat) (w : World) (ha : a < 256) (hm : m < 256) (hp : p < 256) : Calls Try.prog 33 #[.int .i64 (a : Int), .int .i64 (m : Int), .int .i64 (p : Int)] w fun e w' => e = .returned (.tuple #[.int .i64 (oddV a m p), .int .i64 ((oddQ a m p : Nat) : Int)]) ∧ w' = w := by
  have hT1 : ((a &&& m : Nat) : Int) ≤ 255 := by have := Nat.and_lt_two_pow (n := 8) a hm; omega
  have hT0 : 0 ≤ ((a &&& m : Nat) : Int) := by omega
  obtain ⟨v0, v1⟩ := rightV_le ((a &&& m : Nat) : Int) p true hT0 hT1
  have HC : Hid (∀ w, Calls Try.prog 46 #[.int .i64 (a : Int), .int .i64 (m : Int)] w fun e w' => e = .returned (.int .i64 ((a &&& m : Nat) : Int)) ∧ w' = w) := fun w => common a m w ha hm
  have HR : Hid (∀ w, Calls Try.prog 32 #[.int .i64 ((a &&& m : Nat) : Int), .int .i64 (p : Int), .bool true] w fun e w' => e = .returned (.tuple #[.int .i64 (rightV ((a &&& m : Nat) : Int) p true), .int .i64 ((rightQ ((a &&& m : Nat) : Int) p true : Nat) : Int)]) ∧ w' = w) := fun w => RRight _ _ _ _ hT0 hT1 hp
  have hq := rightQ_lt ((a &&& m : Nat) : Int) p true hp
  have HV : Hid (oddV a m p = if D p then oddW ((a &&& m : Nat) : Int) (rightV ((a &&& m : Nat) : Int) p true) else rightV ((a &&& m : Nat) : Int) p true) := (rfl : _ = _)
  have HQ : Hid (oddQ a m p = if D p then W (oddP ((a &&& m : Nat) : Int) (rightV ((a &&& m : Nat) : Int) p true) p) 1 (mend (((a &&& m : Nat) : Int) / 16))
    else W (W (mk p (rightV ((a &&& m : Nat) : Int) p true)) 1 (H6 (rightV ((a &&& m : Nat) : Int) p true))) 64 (H6 (rightV ((a &&& m : Nat) : Int) p true) != H5 (rightV ((a &&& m : Nat) : Int) p true))) := (rfl : _ = _)
  have HQ0 : Hid (rightQ ((a &&& m : Nat) : Int) p true = W (mk p (rightV ((a &&& m : Nat) : Int) p true)) 1 (decide (((a &&& m : Nat) : Int) % 2 = 1))) := (rfl : _ = _)
  obtain ⟨t, ht⟩ : ∃ t : Int, ((a &&& m : Nat) : Int) = t := ⟨_, rfl⟩
  rw [ht] at hT1 hT0 v0 v1 HC HR hq HV HQ HQ0
  obtain ⟨v, hv⟩ : ∃ v : Int, rightV t p true = v := ⟨_, rfl⟩
  rw [hv] at v0 v1 HR HV HQ HQ0
  obtain ⟨q, hq'⟩ : ∃ q : Nat, rightQ t p true = q := ⟨_, rfl⟩
  rw [hq'] at hq HR HQ0
  clear ht hv hq'
  have hD' := hasD (p := p)
  have o1 : oneI true = 1 := rfl
  have o0 : oneI false = 0 := rfl
  cases hD : D p
  · rw [hD] at hD' HV HQ
    clear hD
    go_enter Try.func33, Try.ntmps33
    go_wp2_with (first
      | (go_at_call 46; refine (HC.out _).mono ?_; rintro e w' ⟨rfl, rfl⟩)
      | (go_at_call 32; refine (HR.out _).mono ?_; rintro e w' ⟨rfl, rfl⟩)
      | (go_at_call 36; refine (Has _ _ _ (by omega) (by omega) (by omega) (by omega)).mono ?_; rintro e w' ⟨rfl, rfl⟩)
      | (go_at_call 31; refine (With _ _ _ _ (by first | exact hq | exact W_lt _ _ _ hq (by decide)) (by decide)).mono ?_; rintro e w' ⟨rfl, rfl⟩))
    go_ret2
    exact ⟨ret_two HV.out.symm (by rw [HQ.out, HQ0.out, odd1 p t v hp _ _ _ rfl]; rfl), rfl⟩
  · rw [hD] at hD' HV HQ
    clear hD
    cases hx : decide (5 < t % 16 + t % 2)
    all_goals
      cases hy : decide (5 < t / 16 + t / 16 % 2)
      all_goals
        have HM : Hid (mend (t / 16) = decide (5 < t / 16 + t / 16 % 2)) := (rfl : _ = _)
        have HX : Hid (mend (t % 16) = decide (5 < t % 16 + t % 2)) := by show _ = _; unfold mend; rw [Bool.eq_iff_iff]; simp
        have HO : Hid (oddW t v = ((if decide (5 < t % 16 + t % 2) then v / 16 * 16 + (v % 16 + 6) % 16 else v) + 96 * oneI (decide (5 < t / 16 + t / 16 % 2))) % 256) := odd_val t v _ _ HX.out HM.out
        go_enter Try.func33, Try.ntmps33
        go_wp2_with (first
          | (go_at_call 46; refine (HC.out _).mono ?_; rintro e w' ⟨rfl, rfl⟩)
          | (go_at_call 32; refine (HR.out _).mono ?_; rintro e w' ⟨rfl, rfl⟩)
          | (go_at_call 50; refine (rone _ _).mono ?_; rintro e w' ⟨rfl, rfl⟩)
          | (go_at_call 36; refine (Has _ _ _ (by omega) (by omega) (by omega) (by omega)).mono ?_; rintro e w' ⟨rfl, rfl⟩)
          | (go_at_call 31; refine (With _ _ _ _ (by first | exact hq | exact W_lt _ _ _ hq (by decide) | exact W_lt _ _ _ (W_lt _ _ _ hq (by decide)) (by decide) | exact W_lt _ _ _ (W_lt _ _ _ (W_lt _ _ _ hq (by decide)) (by decide)) (by decide)) (by decide)).mono ?_; rintro e w' ⟨rfl, rfl⟩))
        go_ret2
        refine ⟨ret_two ?_ ?_, rfl⟩
        · rw [HV.out]; show _ = oddW t v; rw [HO.out, hx, hy]; simp [oneI]; try omega
        · rw [HQ.out, HQ0.out, has6, has6, odd2 p t v hp, HM.out, hy]; rfl

end Go.Proofs.Ytenaegclnomklaa.Alu
