/- AluSums, walked: whatever comes in, true comes out. -/
import Derived.Test.YtcbfhjgdnffjlaaRef9C
namespace Go.Proofs.Ytcbfhjgdnffjlaa.aluSums
open Go.RowKit Alu

set_option maxHeartbeats 1000000 in
theorem walk (a0 : Int) (w0 : (Lit.int .u8 a0).wf = true) (a1 : Int) (w1 : (Lit.int .u8 a1).wf = true) (a2 : Int) (w2 : (Lit.int .u8 a2).wf = true) (W : World) :
    Calls Try.prog 3 #[.int .u8 a0, .int .u8 a1, .int .u8 a2] W fun e w' => e = .returned (.bool true) ∧ Below W.heap.size W w' := by
  obtain ⟨x0, x1⟩ := bounds_u8 w0
  obtain ⟨y0, y1⟩ := bounds_u8 w1
  obtain ⟨z0, z1⟩ := bounds_u8 w2
  obtain ⟨p, rfl⟩ := Int.eq_ofNat_of_zero_le z0
  clear w0 w1 w2
  have hp : p < 256 := by omega
  have hq := addQ_lt a0 a1 p hp
  have v0 : 0 ≤ addV a0 a1 p ∧ addV a0 a1 p ≤ 255 := by unfold addV; split <;> omega
  go_enter Try.func3, Try.ntmps3
  go_wp2_with (first
    | (go_at_call 10; refine (Add _ _ _ _ x0 x1 y0 y1 hp).mono ?_; rintro e w1 ⟨rfl, hB1⟩)
    | (go_at_call 11; refine (RAdd _ _ _ _ x0 x1 y0 y1 hp).mono ?_; rintro e w' ⟨rfl, rfl⟩)
    | (go_at_call 12; refine (told _ _ _ _ _ rfl rfl v0.1 v0.2 (by omega) (by omega)).mono ?_; rintro e w' ⟨rfl, rfl⟩)
    | (go_at_call 13; refine (awake9 _).mono ?_; rintro e w3 ⟨rfl, hB3⟩))
  go_ret
  exact ⟨rfl, hB1.trans (hB3.mono hB1.size)⟩

end Go.Proofs.Ytcbfhjgdnffjlaa.aluSums
