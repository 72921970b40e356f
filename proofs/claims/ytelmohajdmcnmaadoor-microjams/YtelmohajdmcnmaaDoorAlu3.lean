/- The calls of package alu that the chapter lists. -/
import Derived.Test.YtelmohajdmcnmaaDoorAlu2
namespace Go.Proofs.YtelmohajdmcnmaaDoor.Alu
open Go.RowKit

/-- Is D set? -/
def D (p : Nat) : Bool := decide (p / 8 % 2 = 1)
theorem D_yes {p : Nat} (hp : p < 256) (h : D p = true) : bits .and .u8 (p : Int) 8 = 8 := by rw [and8 p hp, if_pos (by simpa [D] using h)]
theorem D_no {p : Nat} (hp : p < 256) (h : D p = false) : bits .and .u8 (p : Int) 8 = 0 := by rw [and8 p hp, if_neg (by simpa [D] using h)]

def addV (a m : Int) (p : Nat) : Int := if D p then sumU a m p % 256 else (a + m + (p : Int) % 2) % 256
def addQ (a m : Int) (p : Nat) : Nat := if D p then sumQ a m p else binQ p a m
def subV (a m : Int) (p : Nat) : Int := if D p then difU a m p % 256 else (a + (255 - m) + (p : Int) % 2) % 256
def cmpQ (a m : Int) (p : Nat) : Nat := W (mk p ((a - m) % 256)) 1 (decide (m ≤ a))
def leftV (m : Int) (p : Nat) (turn : Bool) : Int := m * 2 % 256 + if turn then (p : Int) % 2 else 0
def leftQ (m : Int) (p : Nat) (turn : Bool) : Nat := W (mk p (leftV m p turn)) 1 (decide (128 ≤ m))
def rightV (m : Int) (p : Nat) (turn : Bool) : Int := m / 2 + if turn then (p : Int) % 2 * 128 else 0
def rightQ (m : Int) (p : Nat) (turn : Bool) : Nat := W (mk p (rightV m p turn)) 1 (decide (m % 2 = 1))

theorem sumQ_lt (a m : Int) (p : Nat) (hp : p < 256) : sumQ a m p < 256 := W_lt _ _ _ (W_lt _ _ _ (W_lt _ _ _ (W_lt _ _ _ hp (by decide)) (by decide)) (by decide)) (by decide)
theorem addQ_lt (a m : Int) (p : Nat) (hp : p < 256) : addQ a m p < 256 := by unfold addQ; split; exact sumQ_lt _ _ _ hp; exact binQ_lt _ _ _ hp

set_option maxHeartbeats 400000 in
theorem Add (a m : Int) (p : Nat) (w : World) (a0 : 0 ≤ a) (a1 : a ≤ 255) (m0 : 0 ≤ m) (m1 : m ≤ 255) (hp : p < 256) : Calls Tryd.prog 74 #[.int .u8 a, .int .u8 m, .int .u8 (p : Int)] w fun e w' => e = .returned (.tuple #[.int .u8 (addV a m p), .int .u8 ((addQ a m p : Nat) : Int)]) ∧ Below w.heap.size w w' := by
  cases hD : D p
  · have hb := D_no hp hD
    have HD : Hid (D p = false) := hD
    clear hD
    go_enter Tryd.func74, Tryd.ntmps74
    go_wp2_with (go_at_call 91; refine (binarySum _ _ _ _ a0 a1 m0 m1 hp).mono ?_; rintro e w' ⟨rfl, rfl⟩)
    go_ret2
    exact ⟨ret_two (by simp [addV, HD.out]) (by simp [addQ, HD.out]), Below.refl _ _⟩
  · have hb := D_yes hp hD
    have HD : Hid (D p = true) := hD
    clear hD
    go_enter Tryd.func74, Tryd.ntmps74
    go_wp2_with (go_at_call 90; refine (decimalSum _ _ _ _ a0 a1 m0 m1 hp).mono ?_; rintro e w' ⟨rfl, hB⟩)
    go_ret2
    exact ⟨ret_two (by simp [addV, HD.out]) (by simp [addQ, HD.out]), hB⟩

set_option maxHeartbeats 400000 in
theorem Sub (a m : Int) (p : Nat) (w : World) (a0 : 0 ≤ a) (a1 : a ≤ 255) (m0 : 0 ≤ m) (m1 : m ≤ 255) (hp : p < 256) : Calls Tryd.prog 75 #[.int .u8 a, .int .u8 m, .int .u8 (p : Int)] w fun e w' => e = .returned (.tuple #[.int .u8 (subV a m p), .int .u8 ((binQ p a (255 - m) : Nat) : Int)]) ∧ Below w.heap.size w w' := by
  obtain ⟨y, rfl⟩ := Int.eq_ofNat_of_zero_le m0
  have hsg : IntKind.u8.signed = false := rfl
  have hn : bits .xor .u8 IntKind.u8.max (y : Int) = 255 - (y : Int) := not8 y (by omega)
  cases hD : D p
  · have hb := D_no hp hD
    have HD : Hid (D p = false) := hD
    clear hD
    go_enter Tryd.func75, Tryd.ntmps75
    go_wp2_with (go_at_call 91; refine (binarySum _ _ _ _ a0 a1 (by omega) (by omega) hp).mono ?_; rintro e w' ⟨rfl, rfl⟩)
    go_ret2
    exact ⟨ret_two (by simp [subV, HD.out]) rfl, Below.refl _ _⟩
  · have hb := D_yes hp hD
    have HD : Hid (D p = true) := hD
    clear hD
    go_enter Tryd.func75, Tryd.ntmps75
    go_wp2_with (first
      | (go_at_call 91; refine (binarySum _ _ _ _ a0 a1 (by omega) (by omega) hp).mono ?_; rintro e w' ⟨rfl, rfl⟩)
      | (go_at_call 92; refine (decimalDifference _ _ _ _ a0 a1 m0 m1 hp).mono ?_; rintro e w' ⟨rfl, hB⟩))
    go_ret2
    exact ⟨ret_two (by simp [subV, HD.out]) rfl, hB⟩

set_option maxHeartbeats 400000 in
theorem Compare (a m : Int) (p : Nat) (w : World) (hp : p < 256) : Calls Tryd.prog 76 #[.int .u8 a, .int .u8 m, .int .u8 (p : Int)] w fun e w' => e = .returned (.int .u8 ((cmpQ a m p : Nat) : Int)) ∧ w' = w := by
  go_enter Tryd.func76, Tryd.ntmps76
  go_wp2_with (first
    | (go_at_call 94; refine (Mark _ _ _ hp (by omega) (by omega)).mono ?_; rintro e w' ⟨rfl, rfl⟩)
    | (go_at_call 95; refine (oneIf _ _).mono ?_; rintro e w' ⟨rfl, rfl⟩)
    | (go_at_call 93; refine (withN _ _ _ _ (mk_lt _ _ hp) (by decide) (by decide)).mono ?_; rintro e w' ⟨rfl, rfl⟩))
  go_ret
  exact ⟨ret_int (by rw [oneI_ne]; rfl), rfl⟩

set_option maxHeartbeats 400000 in
theorem Bit (a m : Nat) (p : Nat) (w : World) (ha : a < 256) (hm : m < 256) (hp : p < 256) : Calls Tryd.prog 77 #[.int .u8 (a : Int), .int .u8 (m : Int), .int .u8 (p : Int)] w fun e w' => e = .returned (.int .u8 ((W (W (W p 2 (((a &&& m : Nat) : Int) == 0)) 128 (H7 m)) 64 (H6 m) : Nat) : Int)) ∧ w' = w := by
  have hT : bits .and .u8 (a : Int) (m : Int) = ((a &&& m : Nat) : Int) := u8_and_nat _ _ ha hm
  go_enter Tryd.func77, Tryd.ntmps77
  go_wp2_with (first
    | (go_at_call 97; refine (withZ _ _ _ hp).mono ?_; rintro e w' ⟨rfl, rfl⟩)
    | (go_at_call 96; refine (with8 _ _ _ _ (by first | exact W_lt _ _ _ hp (by decide) | exact W_lt _ _ _ (W_lt _ _ _ hp (by decide)) (by decide)) (by decide) (by decide)).mono ?_; rintro e w' ⟨rfl, rfl⟩))
  go_ret
  refine ⟨ret_int ?_, rfl⟩
  rw [and128H m hm, and64 m hm]
  rfl

set_option maxHeartbeats 400000 in
theorem Left (m : Int) (p : Nat) (turn : Bool) (w : World) (m0 : 0 ≤ m) (m1 : m ≤ 255) (hp : p < 256) : Calls Tryd.prog 79 #[.int .u8 m, .int .u8 (p : Int), .bool turn] w fun e w' => e = .returned (.tuple #[.int .u8 (leftV m p turn), .int .u8 ((leftQ m p turn : Nat) : Int)]) ∧ w' = w := by
  obtain ⟨y, rfl⟩ := Int.eq_ofNat_of_zero_le m0
  have h1 := and1 p hp
  have ho := or1 y (by omega)
  have HE : Hid ((bits .and .u8 (y : Int) 128 != 0) = decide (128 ≤ (y : Int))) := and128 y (by omega)
  have HQ : Hid (∀ v, mk p v < 256) := fun v => mk_lt p v hp
  rcases (show (p : Int) % 2 = 0 ∨ (p : Int) % 2 = 1 by omega) with h2 | h2
  · have HV : Hid ((y : Int) * 2 % 256 = leftV y p turn) := by show _ = _; unfold leftV; rw [h2]; simp
    cases turn
    all_goals
      go_enter Tryd.func79, Tryd.ntmps79
      go_wp2_with (first
        | (go_at_call 94; refine (Mark _ _ _ hp (by omega) (by omega)).mono ?_; rintro e w' ⟨rfl, rfl⟩)
        | (go_at_call 96; refine (with8 _ _ _ _ (HQ.out _) (by decide) (by decide)).mono ?_; rintro e w' ⟨rfl, rfl⟩))
      go_ret2
      exact ⟨ret_two HV.out (by unfold leftQ; rw [← HV.out, HE.out]), rfl⟩
  · cases turn
    · have HV : Hid ((y : Int) * 2 % 256 = leftV y p false) := by show _ = _; unfold leftV; simp
      go_enter Tryd.func79, Tryd.ntmps79
      go_wp2_with (first
        | (go_at_call 94; refine (Mark _ _ _ hp (by omega) (by omega)).mono ?_; rintro e w' ⟨rfl, rfl⟩)
        | (go_at_call 96; refine (with8 _ _ _ _ (HQ.out _) (by decide) (by decide)).mono ?_; rintro e w' ⟨rfl, rfl⟩))
      go_ret2
      exact ⟨ret_two HV.out (by unfold leftQ; rw [← HV.out, HE.out]), rfl⟩
    · have HV : Hid ((y : Int) * 2 % 256 + 1 = leftV y p true) := by show _ = _; unfold leftV; rw [h2]; simp
      go_enter Tryd.func79, Tryd.ntmps79
      go_wp2_with (first
        | (go_at_call 94; refine (Mark _ _ _ hp (by omega) (by omega)).mono ?_; rintro e w' ⟨rfl, rfl⟩)
        | (go_at_call 96; refine (with8 _ _ _ _ (HQ.out _) (by decide) (by decide)).mono ?_; rintro e w' ⟨rfl, rfl⟩))
      go_ret2
      exact ⟨ret_two HV.out (by unfold leftQ; rw [← HV.out, HE.out]), rfl⟩

theorem and1b (y : Nat) (hy : y < 256) : (bits .and .u8 (y : Int) 1 != 0) = decide ((y : Int) % 2 = 1) := by
  rw [and1 y hy, Bool.eq_iff_iff]; simp; omega

set_option maxHeartbeats 400000 in
theorem Right (m : Int) (p : Nat) (turn : Bool) (w : World) (m0 : 0 ≤ m) (m1 : m ≤ 255) (hp : p < 256) : Calls Tryd.prog 80 #[.int .u8 m, .int .u8 (p : Int), .bool turn] w fun e w' => e = .returned (.tuple #[.int .u8 (rightV m p turn), .int .u8 ((rightQ m p turn : Nat) : Int)]) ∧ w' = w := by
  obtain ⟨y, rfl⟩ := Int.eq_ofNat_of_zero_le m0
  have h1 := and1 p hp
  have ho := or128 y (by omega)
  have HE : Hid ((bits .and .u8 (y : Int) 1 != 0) = decide ((y : Int) % 2 = 1)) := and1b y (by omega)
  have HQ : Hid (∀ v, mk p v < 256) := fun v => mk_lt p v hp
  rcases (show (p : Int) % 2 = 0 ∨ (p : Int) % 2 = 1 by omega) with h2 | h2
  · have HV : Hid ((y : Int) / 2 = rightV y p turn) := by show _ = _; unfold rightV; rw [h2]; simp
    cases turn
    all_goals
      go_enter Tryd.func80, Tryd.ntmps80
      go_wp2_with (first
        | (go_at_call 94; refine (Mark _ _ _ hp (by omega) (by omega)).mono ?_; rintro e w' ⟨rfl, rfl⟩)
        | (go_at_call 96; refine (with8 _ _ _ _ (HQ.out _) (by decide) (by decide)).mono ?_; rintro e w' ⟨rfl, rfl⟩))
      go_ret2
      exact ⟨ret_two HV.out (by unfold rightQ; rw [← HV.out, HE.out]), rfl⟩
  · cases turn
    · have HV : Hid ((y : Int) / 2 = rightV y p false) := by show _ = _; unfold rightV; simp
      go_enter Tryd.func80, Tryd.ntmps80
      go_wp2_with (first
        | (go_at_call 94; refine (Mark _ _ _ hp (by omega) (by omega)).mono ?_; rintro e w' ⟨rfl, rfl⟩)
        | (go_at_call 96; refine (with8 _ _ _ _ (HQ.out _) (by decide) (by decide)).mono ?_; rintro e w' ⟨rfl, rfl⟩))
      go_ret2
      exact ⟨ret_two HV.out (by unfold rightQ; rw [← HV.out, HE.out]), rfl⟩
    · have HV : Hid ((y : Int) / 2 + 128 = rightV y p true) := by show _ = _; unfold rightV; rw [h2]; simp
      go_enter Tryd.func80, Tryd.ntmps80
      go_wp2_with (first
        | (go_at_call 94; refine (Mark _ _ _ hp (by omega) (by omega)).mono ?_; rintro e w' ⟨rfl, rfl⟩)
        | (go_at_call 96; refine (with8 _ _ _ _ (HQ.out _) (by decide) (by decide)).mono ?_; rintro e w' ⟨rfl, rfl⟩))
      go_ret2
      exact ⟨ret_two HV.out (by unfold rightQ; rw [← HV.out, HE.out]), rfl⟩

end Go.Proofs.YtelmohajdmcnmaaDoor.Alu
