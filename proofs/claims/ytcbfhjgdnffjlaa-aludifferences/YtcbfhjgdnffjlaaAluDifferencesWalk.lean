/- AluDifferences, walked: whatever comes in, true comes out. -/
import Derived.Test.YtcbfhjgdnffjlaaRef9C
namespace Go.Proofs.Ytcbfhjgdnffjlaa.aluDifferences
open Go.RowKit Alu

set_option maxHeartbeats 1000000 in
theorem walk (a0 : Int) (w0 : (Lit.int .u8 a0).wf = true) (a1 : Int) (w1 : (Lit.int .u8 a1).wf = true) (a2 : Int) (w2 : (Lit.int .u8 a2).wf = true) (W : World) :
    Calls Try.prog 4 #[.int .u8 a0, .int .u8 a1, .int .u8 a2] W fun e w' => e = .returned (.bool true) ∧ Below W.heap.size W w' := by
  obtain ⟨x0, x1⟩ := bounds_u8 w0
  obtain ⟨y0, y1⟩ := bounds_u8 w1
  obtain ⟨z0, z1⟩ := bounds_u8 w2
  obtain ⟨p, rfl⟩ := Int.eq_ofNat_of_zero_le z0
  clear w0 w1 w2
  have hp : p < 256 := by omega
  have hq := binQ_lt p a0 (255 - a1) hp
  have hc : cmpQ a0 a1 p < 256 := W_lt _ _ _ (mk_lt _ _ hp) (by decide)
  have v0 : 0 ≤ subV a0 a1 p ∧ subV a0 a1 p ≤ 255 := by unfold subV; split <;> omega
  go_enter Try.func4, Try.ntmps4
  go_wp2_with (first
    | (go_at_call 14; refine (Alu.Sub _ _ _ _ x0 x1 y0 y1 hp).mono ?_; rintro e w1 ⟨rfl, hB1⟩)
    | (go_at_call 15; refine (RSub _ _ _ _ x0 x1 y0 y1 hp).mono ?_; rintro e w' ⟨rfl, rfl⟩)
    | (go_at_call 16; refine (Compare _ _ _ _ hp).mono ?_; rintro e w' ⟨rfl, rfl⟩)
    | (go_at_call 17; refine (RCompare _ _ _ _ x0 x1 y0 y1 hp).mono ?_; rintro e w' ⟨rfl, rfl⟩)
    | (go_at_call 12; refine (told _ _ _ _ _ rfl rfl v0.1 v0.2 (by omega) (by omega)).mono ?_; rintro e w' ⟨rfl, rfl⟩)
    | (go_at_call 13; refine (awake9 _).mono ?_; rintro e w3 ⟨rfl, hB3⟩))
  go_ret
  exact ⟨rfl, hB1.trans (hB3.mono hB1.size)⟩

end Go.Proofs.Ytcbfhjgdnffjlaa.aluDifferences
