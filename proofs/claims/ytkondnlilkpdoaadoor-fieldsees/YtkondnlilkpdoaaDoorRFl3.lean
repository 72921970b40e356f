/- The document's own answers of layer 18: Pair, Meet, Seen. -/
import Derived.Test.YtkondnlilkpdoaaDoorRFl2
set_option linter.unusedVariables false
namespace Go.Proofs.YtkondnlilkpdoaaDoor.Fi
open Go.RowKit

set_option maxRecDepth 100000 in
set_option maxHeartbeats 4000000 in
theorem RPair (n : Nat) (w : World) (hn : n < 15) : Calls Tryd.prog 27 #[.int .i64 (n : Int)] w fun e w' => e = .returned (.tuple #[.int .i64 (pA n : Int), .int .i64 (pB n : Int)]) ∧ Below w.heap.size w w' := by
  rcases (show n = 0 ∨ n = 1 ∨ n = 2 ∨ n = 3 ∨ n = 4 ∨ n = 5 ∨ n = 6 ∨ n = 7 ∨ n = 8 ∨ n = 9 ∨ n = 10 ∨ n = 11 ∨ n = 12 ∨ n = 13 ∨ n = 14 by omega) with rfl | rfl | rfl | rfl | rfl | rfl | rfl | rfl | rfl | rfl | rfl | rfl | rfl | rfl | rfl
  all_goals
    go_enter Tryd.func27, Tryd.ntmps27
    go_wp2
    go_quiet (fail)
    go_wp2
    go_returns
    exact ⟨rfl, below_drewN (by go_grown) _⟩

set_option maxRecDepth 100000 in
set_option maxHeartbeats 4000000 in
theorem RMeet (d0 d1 d2 d3 d4 d5 : Bool) (D : Nat → Bool) (w : World) (hD : six d0 d1 d2 d3 d4 d5 = D) : Calls Tryd.prog 15 #[.agg #[.bool d0, .bool d1, .bool d2, .bool d3, .bool d4, .bool d5]] w fun e w' => e = .returned (.int .i64 (mt D 15 : Int)) ∧ Below w.heap.size w w' := by
  have HA : Hid (DAt (w.alloc (.cells #[.bool d0, .bool d1, .bool d2, .bool d3, .bool d4, .bool d5] 26)) w.heap.size D) := hD ▸ new_dots w d0 d1 d2 d3 d4 d5
  have hB : Below w.heap.size w (w.alloc (.cells #[.bool d0, .bool d1, .bool d2, .bool d3, .bool d4, .bool d5] 26)) := (Below.refl _ w).alloc (Nat.le_refl _) _
  have HB : Hid (Below w.heap.size w (w.alloc (.cells #[.bool d0, .bool d1, .bool d2, .bool d3, .bool d4, .bool d5] 26))) := hB
  clear hD hB
  go_enter Tryd.func15, Tryd.ntmps15
  go_wp2
  generalize w.alloc (.cells #[.bool d0, .bool d1, .bool d2, .bool d3, .bool d4, .bool d5] 26) = w1 at *
  obtain ⟨d, hd⟩ : ∃ d, w.heap.size = d := ⟨_, rfl⟩
  rw [hd] at HA HB ⊢
  have HS : Hid (w.heap.size = d) := hd
  clear hd
  go_loopw [3, 4] (fun x y wr => ∃ k : Nat, k ≤ 15 ∧ x = .int .i64 (mt D k : Int) ∧ y = .int .i64 (k : Int) ∧ DAt wr d D ∧ Below d w wr) (fun _ y _ => 16 - (intOf y).toNat)
  case atStart => exact ⟨0, by omega, rfl, rfl, HA.out, HB.out⟩
  case round =>
    obtain ⟨k, hk, rfl, rfl, hDr, hBr⟩ := hrel
    have HD : Hid (DAt wr d D) := hDr
    have HBr : Hid (Below d w wr) := hBr
    clear hDr hBr HA HB
    have lm := mt_lt D k
    have lp : 2 ^ k ≤ 2 ^ 15 := Nat.pow_le_pow_right (by decide) hk
    obtain ⟨x, hx⟩ : ∃ x, mt D k = x := ⟨_, rfl⟩
    have HX : Hid (mt D k = x) := hx
    rw [hx] at lm ⊢
    have lx : x < 65536 := by omega
    clear hx
    by_cases hlt : k < 15
    · have HLT : Hid (pA k < 6 ∧ pB k < 6 ∧ k < 15) := (⟨pA_lt k hlt, pB_lt k hlt, hlt⟩ : pA k < 6 ∧ pB k < 6 ∧ k < 15)
      go_wp2_with (go_at_call 27; fail)
      refine (RPair k _ HLT.out.2.2).mono ?_
      rintro e w2 ⟨rfl, hB2⟩
      have HD2 : Hid (DAt w2 d D) := HD.out.below hB2
      have HB2 : Hid (Below d w w2) := HBr.out.trans (hB2.mono (by have := HBr.out.size; have := HS.out; omega))
      have ca := HD2.out.c (pA k) HLT.out.1
      have cb := HD2.out.c (pB k) HLT.out.2.1
      have la := HLT.out.1
      have lb := HLT.out.2.1
      have hbo : both D k = (D (pA k) && D (pB k)) := rfl
      obtain ⟨P, hP⟩ : ∃ P, 2 ^ k = P := ⟨_, rfl⟩
      have HP : Hid (2 ^ k = P ∧ k ≤ 15) := ⟨hP, hk⟩
      have lP : P ≤ 32768 := (by rw [← hP]; exact lp)
      have HEE : Hid (mt D (k + 1) = if both D k then x + P else x) := (by rw [← HX.out, ← hP]; rfl : mt D (k + 1) = if both D k then x + P else x)
      generalize pA k = a at *
      generalize pB k = b at *
      generalize D a = x1 at *
      generalize D b = y1 at *
      rw [hbo] at HEE
      clear hB2 HD HBr hbo hP lp lm
      cases x1
      · have HE : Hid (mt D (k + 1) = x) := HEE.out
        clear HEE
        go_wp2
        go_roundw
        case rel => exact ⟨k + 1, by omega, by rw [HE.out], by go_num, HD2.out, HB2.out⟩
        case measure => simp [intOf]; omega
      cases y1
      · have HE : Hid (mt D (k + 1) = x) := HEE.out
        clear HEE
        go_wp2
        go_roundw
        case rel => exact ⟨k + 1, by omega, by rw [HE.out], by go_num, HD2.out, HB2.out⟩
        case measure => simp [intOf]; omega
      · have HE : Hid (mt D (k + 1) = x + P) := HEE.out
        clear HEE
        go_wp2_with (go_at_call 28; fail)
        refine (powB k P _ HP.out.1 HP.out.2).mono ?_
        rintro e w3 ⟨rfl, rfl⟩
        go_wp2
        go_roundw
        case rel => exact ⟨k + 1, by omega, by rw [HE.out]; go_num, by go_num, HD2.out, HB2.out⟩
        case measure => simp [intOf]; omega
    · obtain rfl : k = 15 := by omega
      go_wp2
      go_returns
      exact ⟨by rw [HX.out]; rfl, by rw [HS.out]; exact HBr.out⟩

end Go.Proofs.YtkondnlilkpdoaaDoor.Fi
