/- MotionCopies, walked: whatever comes in, true comes out. -/
import Derived.Test.YtkondnlilkpdoaaMotionCopiesGood
import Derived.Test.YtkondnlilkpdoaaFrame
set_option linter.unusedVariables false
namespace Go.Proofs.Ytkondnlilkpdoaa.motionCopies
open Go.RowKit Mo

set_option maxRecDepth 100000 in
set_option maxHeartbeats 1000000 in
theorem big (n cap : Nat) (ao : Option Addr) (clock : Int) (n0 n1 n2 n3 n4 : Nat) (W : World) (hl : 200 < n) (hc : n ≤ cap) (hm : cap ≤ 9223372036854775807) :
    Calls Try.prog 7 #[.slice ao n cap, .int .i64 clock, .agg #[.int .u8 (n0 : Int), .int .u8 (n1 : Int), .int .u8 (n2 : Int), .int .u8 (n3 : Int), .int .u8 (n4 : Int)]] W fun e w' => e = .returned (.bool true) ∧ Below W.heap.size W w' := by
  have hl' : (200 : Int) < (n : Int) := by omega
  clear hl
  go_enter Try.func7, Try.ntmps7
  go_wp2
  go_returns
  exact ⟨rfl, by go_grown⟩

theorem walk {L : List (List Go.Value)} {ao : Option Addr} {n cap b off : Nat} {W : World} (hS : SeenX W ao cap b off 10 L) (hn : n = L.length) (hL : ∀ r ∈ L, ∃ a : Mo.Act, r = a.row ∧ a.ok) (a1 : Int) (_ : (Lit.int .i64 a1).wf = true) (a2_0 a2_1 a2_2 a2_3 a2_4 : Int) (w2_0 : (Lit.int .u8 a2_0).wf = true) (w2_1 : (Lit.int .u8 a2_1).wf = true) (w2_2 : (Lit.int .u8 a2_2).wf = true) (w2_3 : (Lit.int .u8 a2_3).wf = true) (w2_4 : (Lit.int .u8 a2_4).wf = true) :
    Calls Try.prog 7 #[.slice ao n cap, .int .i64 a1, .agg #[.int .u8 a2_0, .int .u8 a2_1, .int .u8 a2_2, .int .u8 a2_3, .int .u8 a2_4]] W fun e w' => e = .returned (.bool true) ∧ Below W.heap.size W w' := by
  have b0 := bounds_u8 w2_0
  have b1 := bounds_u8 w2_1
  have b2 := bounds_u8 w2_2
  have b3 := bounds_u8 w2_3
  have b4 := bounds_u8 w2_4
  obtain ⟨n0, rfl⟩ := Int.eq_ofNat_of_zero_le b0.1
  obtain ⟨n1, rfl⟩ := Int.eq_ofNat_of_zero_le b1.1
  obtain ⟨n2, rfl⟩ := Int.eq_ofNat_of_zero_le b2.1
  obtain ⟨n3, rfl⟩ := Int.eq_ofNat_of_zero_le b3.1
  obtain ⟨n4, rfl⟩ := Int.eq_ofNat_of_zero_le b4.1
  obtain ⟨A, rfl, hA⟩ := map_of hL
  rw [List.length_map] at hn
  subst hn
  have hle := hS.le
  rw [List.length_map] at hle
  by_cases h : A.length ≤ 200
  · exact good A ao cap b off a1 n0 n1 n2 n3 n4 W hA h hS (by omega) (by omega) (by omega) (by omega) (by omega)
  · exact big _ _ _ _ _ _ _ _ _ _ (by omega) hle hS.max

end Go.Proofs.Ytkondnlilkpdoaa.motionCopies
