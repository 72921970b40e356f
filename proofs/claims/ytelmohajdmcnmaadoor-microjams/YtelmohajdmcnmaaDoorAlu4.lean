/- The odd one of package alu. -/
import Derived.Test.YtelmohajdmcnmaaDoorAlu3
namespace Go.Proofs.YtelmohajdmcnmaaDoor.Alu
open Go.RowKit

def oddW (t v : Int) : Int := ((if mend (t / 16) then v / 16 + 6 else v / 16) * 16 + (if mend (t % 16) then (v % 16 + 6) % 16 else v % 16)) % 256
def oddP (t v : Int) (p : Nat) : Nat := W (W (W p 2 (v == 0)) 128 ((p : Int) % 2 != 0)) 64 (H6 t != H6 v)
theorem oddP_lt (t v : Int) (p : Nat) (hp : p < 256) : oddP t v p < 256 := W_lt _ _ _ (W_lt _ _ _ (W_lt _ _ _ hp (by decide)) (by decide)) (by decide)

set_option maxRecDepth 100000 in
set_option maxHeartbeats 1000000 in
theorem decimalOdd (t v : Int) (p : Nat) (w : World) (t0 : 0 ≤ t) (t1 : t ≤ 255) (v0 : 0 ≤ v) (v1 : v ≤ 255) (hp : p < 256) : Calls Tryd.prog 105 #[.int .u8 t, .int .u8 v, .int .u8 (p : Int)] w fun e w' => e = .returned (.tuple #[.int .u8 (oddW t v), .int .u8 ((W (oddP t v p) 1 (mend (t / 16)) : Nat) : Int)]) ∧ Below w.heap.size w w' := by
  obtain ⟨t, rfl⟩ := Int.eq_ofNat_of_zero_le t0
  obtain ⟨v, rfl⟩ := Int.eq_ofNat_of_zero_le v0
  have h1 := and1 p hp
  have HA : Hid ((bits .and .u8 (bits .xor .u8 (t : Int) (v : Int)) 64 != 0) = (H6 t != H6 v)) := apart6 t v (by omega) (by omega)
  cases hx : mend ((t : Int) % 16)
  all_goals
    cases hy : mend ((t : Int) / 16)
    all_goals
      go_enter Tryd.func105, Tryd.ntmps105
      go_wp2_with (first
        | (go_at_call 102; refine (digits _ _ (by omega) (by omega)).mono ?_; rintro e w' ⟨rfl, rfl⟩)
        | (go_at_call 97; refine (withZ _ _ _ hp).mono ?_; rintro e w' ⟨rfl, rfl⟩)
        | (go_at_call 106; refine (mended _ _ (by omega) (by omega)).mono ?_; rintro e w' ⟨rfl, rfl⟩)
        | (go_at_call 95; refine (oneIf _ _).mono ?_; rintro e w' ⟨rfl, rfl⟩)
        | (go_at_call 93; refine (withN _ _ _ _ (by first | exact W_lt _ _ _ (W_lt _ _ _ (W_lt _ _ _ hp (by decide)) (by decide)) (by decide)) (by decide) (by decide)).mono ?_; rintro e w' ⟨rfl, rfl⟩)
        | (go_at_call 96; refine (with8 _ _ _ _ (by first | exact W_lt _ _ _ hp (by decide) | exact W_lt _ _ _ (W_lt _ _ _ hp (by decide)) (by decide)) (by decide) (by decide)).mono ?_; rintro e w' ⟨rfl, rfl⟩))
      go_ret2
      refine ⟨ret_two ?_ ?_, below4 _ _ _ _ _⟩
      · unfold oddW; rw [hx, hy]; simp; try omega
      · rw [oneI_ne, HA.out]; rfl

def oddV (a m p : Nat) : Int := if D p then oddW ((a &&& m : Nat) : Int) (rightV ((a &&& m : Nat) : Int) p true) else rightV ((a &&& m : Nat) : Int) p true
def oddQ (a m p : Nat) : Nat := if D p then W (oddP ((a &&& m : Nat) : Int) (rightV ((a &&& m : Nat) : Int) p true) p) 1 (mend (((a &&& m : Nat) : Int) / 16))
  else W (W (mk p (rightV ((a &&& m : Nat) : Int) p true)) 1 (H6 (rightV ((a &&& m : Nat) : Int) p true))) 64 (H6 (rightV ((a &&& m : Nat) : Int) p true) != H5 (rightV ((a &&& m : Nat) : Int) p true))

theorem rightV_le (m : Int) (p : Nat) (turn : Bool) (m0 : 0 ≤ m) (m1 : m ≤ 255) : 0 ≤ rightV m p turn ∧ rightV m p turn ≤ 255 := by
  unfold rightV; cases turn <;> simp <;> omega
theorem leftV_le (m : Int) (p : Nat) (turn : Bool) : 0 ≤ leftV m p turn ∧ leftV m p turn ≤ 255 := by
  unfold leftV; cases turn <;> simp <;> omega

set_option maxHeartbeats 1000000 in
theorem Odd (a m : Nat) (p : Nat) (w : World) (ha : a < 256) (hm : m < 256) (hp : p < 256) : Calls Tryd.prog 99 #[.int .u8 (a : Int), .int .u8 (m : Int), .int .u8 (p : Int)] w fun e w' => e = .returned (.tuple #[.int .u8 (oddV a m p), .int .u8 ((oddQ a m p : Nat) : Int)]) ∧ Below w.heap.size w w' := by
  have hT : bits .and .u8 (a : Int) (m : Int) = ((a &&& m : Nat) : Int) := u8_and_nat _ _ ha hm
  have hT1 : ((a &&& m : Nat) : Int) ≤ 255 := by have := Nat.and_lt_two_pow (n := 8) a hm; omega
  have hT0 : 0 ≤ ((a &&& m : Nat) : Int) := by omega
  obtain ⟨v0, v1⟩ := rightV_le ((a &&& m : Nat) : Int) p true hT0 hT1
  cases hD : D p
  · have hb := D_no hp hD
    have HD : Hid (D p = false) := hD
    have HV : Hid (oddV a m p = rightV ((a &&& m : Nat) : Int) p true) := by show _ = _; unfold oddV; rw [hD]; simp
    have HQ : Hid (oddQ a m p = W (W (mk p (rightV ((a &&& m : Nat) : Int) p true)) 1 (H6 (rightV ((a &&& m : Nat) : Int) p true))) 64 (H6 (rightV ((a &&& m : Nat) : Int) p true) != H5 (rightV ((a &&& m : Nat) : Int) p true))) := by show _ = _; unfold oddQ; rw [hD]; simp
    clear hD
    generalize hv : rightV ((a &&& m : Nat) : Int) p true = v at v0 v1 HV HQ
    have HV2 : Hid (rightV ((a &&& m : Nat) : Int) p true = v) := hv
    clear hv
    go_enter Tryd.func99, Tryd.ntmps99
    go_wp2_with (first
      | (go_at_call 80; refine (Right _ _ _ _ hT0 hT1 hp).mono ?_; rw [HV2.out]; rintro e w' ⟨rfl, rfl⟩)
      | (go_at_call 94; refine (Mark _ _ _ hp v0 v1).mono ?_; rintro e w' ⟨rfl, rfl⟩)
      | (go_at_call 96; refine (with8 _ _ _ _ (by first | exact mk_lt _ _ hp | exact W_lt _ _ _ (mk_lt _ _ hp) (by decide)) (by decide) (by decide)).mono ?_; rintro e w' ⟨rfl, rfl⟩))
    go_ret2
    refine ⟨ret_two HV.out.symm ?_, Below.refl _ _⟩
    obtain ⟨n, rfl⟩ := Int.eq_ofNat_of_zero_le v0
    rw [HQ.out, and64 n (by omega), and64' n (by omega)]
    rfl
  · have hb := D_yes hp hD
    have HV : Hid (oddV a m p = oddW ((a &&& m : Nat) : Int) (rightV ((a &&& m : Nat) : Int) p true)) := by show _ = _; unfold oddV; rw [hD]; simp
    have HQ : Hid (oddQ a m p = W (oddP ((a &&& m : Nat) : Int) (rightV ((a &&& m : Nat) : Int) p true) p) 1 (mend (((a &&& m : Nat) : Int) / 16))) := by show _ = _; unfold oddQ; rw [hD]; simp
    clear hD
    go_enter Tryd.func99, Tryd.ntmps99
    go_wp2_with (first
      | (go_at_call 80; refine (Right _ _ _ _ hT0 hT1 hp).mono ?_; rintro e w' ⟨rfl, rfl⟩)
      | (go_at_call 105; refine (decimalOdd _ _ _ _ hT0 hT1 v0 v1 hp).mono ?_; rintro e w2 ⟨rfl, hB⟩))
    go_ret2
    exact ⟨ret_two HV.out.symm (by rw [HQ.out]), hB⟩

end Go.Proofs.YtelmohajdmcnmaaDoor.Alu
