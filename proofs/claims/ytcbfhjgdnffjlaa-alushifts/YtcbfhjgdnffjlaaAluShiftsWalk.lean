/- AluShifts, walked: whatever comes in, true comes out. -/
import Derived.Test.YtcbfhjgdnffjlaaRef9C
namespace Go.Proofs.Ytcbfhjgdnffjlaa.aluShifts
open Go.RowKit Alu

set_option maxRecDepth 100000 in
set_option maxHeartbeats 2000000 in
theorem walk (a0 : Int) (w0 : (Lit.int .u8 a0).wf = true) (a1 : Int) (w1 : (Lit.int .u8 a1).wf = true) (a2 : Int) (w2 : (Lit.int .u8 a2).wf = true) (W : World) :
    Calls Try.prog 5 #[.int .u8 a0, .int .u8 a1, .int .u8 a2] W fun e w' => e = .returned (.bool true) ∧ Below W.heap.size W w' := by
  obtain ⟨x0, x1⟩ := bounds_u8 w0
  obtain ⟨y0, y1⟩ := bounds_u8 w1
  obtain ⟨z0, z1⟩ := bounds_u8 w2
  obtain ⟨a, rfl⟩ := Int.eq_ofNat_of_zero_le x0
  obtain ⟨m, rfl⟩ := Int.eq_ofNat_of_zero_le y0
  obtain ⟨p, rfl⟩ := Int.eq_ofNat_of_zero_le z0
  clear w0 w1 w2
  have ha : a < 256 := by omega
  have hm : m < 256 := by omega
  have hp : p < 256 := by omega
  have HL : Hid (∀ b, (0 ≤ leftV m p b ∧ leftV m p b ≤ 255) ∧ leftQ m p b < 256) := fun b => ⟨leftV_le _ _ _, W_lt _ _ _ (mk_lt _ _ hp) (by decide)⟩
  have HR : Hid (∀ b, (0 ≤ rightV m p b ∧ rightV m p b ≤ 255) ∧ rightQ m p b < 256) := fun b => ⟨rightV_le _ _ _ y0 y1, W_lt _ _ _ (mk_lt _ _ hp) (by decide)⟩
  have hb : Alu.W (Alu.W (Alu.W p 2 (((a &&& m : Nat) : Int) == 0)) 128 (H7 m)) 64 (H6 m) < 256 := W_lt _ _ _ (W_lt _ _ _ (W_lt _ _ _ hp (by decide)) (by decide)) (by decide)
  have hk := mk_lt p m hp
  go_enter Try.func5, Try.ntmps5
  go_wp2
  go_loop [7] (fun k => ∃ n : Nat, n ≤ 2 ∧ k = .int .i64 (n : Int)) (fun k => 2 - (intOf k).toNat)
  case atStart => exact ⟨0, by omega, rfl⟩
  case round =>
    obtain ⟨n, hn, rfl⟩ := hrel
    rcases (show n = 0 ∨ n = 1 ∨ n = 2 by omega) with rfl | rfl | rfl
    · go_wp2_with (first
        | (go_at_call 18; refine (Alu.Left _ _ _ _ y0 y1 hp).mono ?_; rintro e w' ⟨rfl, rfl⟩)
        | (go_at_call 20; refine (Alu.Right _ _ _ _ y0 y1 hp).mono ?_; rintro e w' ⟨rfl, rfl⟩)
        | (go_at_call 19; refine (RLeft _ _ _ _ y0 y1 hp).mono ?_; rintro e w' ⟨rfl, rfl⟩)
        | (go_at_call 21; refine (RRight _ _ _ _ y0 y1 hp).mono ?_; rintro e w' ⟨rfl, rfl⟩)
        | (go_at_call 12; refine (told _ _ _ _ _ rfl rfl (by first | exact (HL.out _).1.1 | exact (HR.out _).1.1) (by first | exact (HL.out _).1.2 | exact (HR.out _).1.2) (by omega) (by first | exact (by have := (HL.out false).2; omega) | exact (by have := (HR.out false).2; omega))).mono ?_; rintro e w' ⟨rfl, rfl⟩))
      go_round
      case rel => exact ⟨1, by omega, rfl⟩
      case measure => simp [intOf]
    · go_wp2_with (first
        | (go_at_call 18; refine (Alu.Left _ _ _ _ y0 y1 hp).mono ?_; rintro e w' ⟨rfl, rfl⟩)
        | (go_at_call 20; refine (Alu.Right _ _ _ _ y0 y1 hp).mono ?_; rintro e w' ⟨rfl, rfl⟩)
        | (go_at_call 19; refine (RLeft _ _ _ _ y0 y1 hp).mono ?_; rintro e w' ⟨rfl, rfl⟩)
        | (go_at_call 21; refine (RRight _ _ _ _ y0 y1 hp).mono ?_; rintro e w' ⟨rfl, rfl⟩)
        | (go_at_call 12; refine (told _ _ _ _ _ rfl rfl (by first | exact (HL.out _).1.1 | exact (HR.out _).1.1) (by first | exact (HL.out _).1.2 | exact (HR.out _).1.2) (by omega) (by first | exact (by have := (HL.out true).2; omega) | exact (by have := (HR.out true).2; omega))).mono ?_; rintro e w' ⟨rfl, rfl⟩))
      go_round
      case rel => exact ⟨2, by omega, rfl⟩
      case measure => simp [intOf]
    · go_wp2_with (first
        | (go_at_call 22; refine (Alu.Bit _ _ _ _ ha hm hp).mono ?_; rintro e w' ⟨rfl, rfl⟩)
        | (go_at_call 23; refine (RBit _ _ _ _ ha hm hp).mono ?_; rintro e w' ⟨rfl, rfl⟩)
        | (go_at_call 24; refine (Alu.Mark _ _ _ hp y0 y1).mono ?_; rintro e w' ⟨rfl, rfl⟩)
        | (go_at_call 25; refine (RMark _ _ _ hp).mono ?_; rintro e w' ⟨rfl, rfl⟩)
        | (go_at_call 13; refine (awake9 _).mono ?_; rintro e w3 ⟨rfl, hB3⟩))
      go_ret
      exact ⟨rfl, hB3⟩

end Go.Proofs.Ytcbfhjgdnffjlaa.aluShifts
