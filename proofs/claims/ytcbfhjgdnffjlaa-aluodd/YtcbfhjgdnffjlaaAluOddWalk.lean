/- AluOdd, walked: whatever comes in, true comes out. -/
import Derived.Test.YtcbfhjgdnffjlaaRef9D
namespace Go.Proofs.Ytcbfhjgdnffjlaa.aluOdd
open Go.RowKit Alu

theorem oddQ_lt (a m p : Nat) (hp : p < 256) : oddQ a m p < 256 := by
  unfold oddQ
  split
  · exact W_lt _ _ _ (oddP_lt _ _ _ hp) (by decide)
  · exact W_lt _ _ _ (W_lt _ _ _ (mk_lt _ _ hp) (by decide)) (by decide)

set_option maxHeartbeats 1000000 in
theorem walk (a0 : Int) (w0 : (Lit.int .u8 a0).wf = true) (a1 : Int) (w1 : (Lit.int .u8 a1).wf = true) (a2 : Int) (w2 : (Lit.int .u8 a2).wf = true) (W : World) :
    Calls Try.prog 6 #[.int .u8 a0, .int .u8 a1, .int .u8 a2] W fun e w' => e = .returned (.bool true) ∧ Below W.heap.size W w' := by
  obtain ⟨x0, x1⟩ := bounds_u8 w0
  obtain ⟨y0, y1⟩ := bounds_u8 w1
  obtain ⟨z0, z1⟩ := bounds_u8 w2
  obtain ⟨a, rfl⟩ := Int.eq_ofNat_of_zero_le x0
  obtain ⟨m, rfl⟩ := Int.eq_ofNat_of_zero_le y0
  obtain ⟨p, rfl⟩ := Int.eq_ofNat_of_zero_le z0
  clear w0 w1 w2
  have ha : a < 256 := by omega
  have hm : m < 256 := by omega
  have hp : p < 256 := by omega
  have hq := oddQ_lt a m p hp
  have v0 : 0 ≤ oddV a m p ∧ oddV a m p ≤ 255 := by
    have hT1 : ((a &&& m : Nat) : Int) ≤ 255 := by have := Nat.and_lt_two_pow (n := 8) a hm; omega
    have := rightV_le ((a &&& m : Nat) : Int) p true (by omega) hT1
    unfold oddV oddW; split <;> omega
  go_enter Try.func6, Try.ntmps6
  go_wp2_with (first
    | (go_at_call 26; refine (Alu.Odd _ _ _ _ ha hm hp).mono ?_; rintro e w1 ⟨rfl, hB1⟩)
    | (go_at_call 27; refine (ROdd _ _ _ _ ha hm hp).mono ?_; rintro e w' ⟨rfl, rfl⟩)
    | (go_at_call 12; refine (told _ _ _ _ _ rfl rfl v0.1 v0.2 (by omega) (by omega)).mono ?_; rintro e w' ⟨rfl, rfl⟩)
    | (go_at_call 13; refine (awake9 _).mono ?_; rintro e w3 ⟨rfl, hB3⟩))
  go_ret
  exact ⟨rfl, hB1.trans (hB3.mono hB1.size)⟩

end Go.Proofs.Ytcbfhjgdnffjlaa.aluOdd
