/- CellGrids, walked: whatever comes in, true comes out. -/
import Derived.Test.YtneapdegjofodaaGridGood
import Derived.Test.YtneapdegjofodaaGridBad
namespace Go.Proofs.Ytneapdegjofodaa.cellGrids
open Go.RowKit

theorem walk (a0 : Int) (w0 : (Lit.int .i64 a0).wf = true) (a1 : Int) (w1 : (Lit.int .i64 a1).wf = true) {ao : Option Addr} {n cap b off : Nat} {L : List (Int × Int × Int)} {W : World} (hS : SeenD W ao cap b off L) (hn : n = L.length) (hz : ao = none → n = 0 ∧ cap = 0) :
    Calls Try.prog 4 #[.int .i64 a0, .int .i64 a1, .slice ao n cap] W fun e w' => e = .returned (.bool true) ∧ Below W.heap.size W w' := by
  subst hn
  by_cases hg : 100 < L.length ∨ (60 < a0 ∧ a0 ≤ 1024) ∨ (60 < a1 ∧ a1 ≤ 1024)
  · exact great a0 a1 (Nat.le_trans hS.le hS.max) hg
  · by_cases hr : 1 ≤ a0 ∧ a0 ≤ 1024 ∧ 1 ≤ a1 ∧ a1 ≤ 1024
    · obtain ⟨W', rfl⟩ := Int.eq_ofNat_of_zero_le (show 0 ≤ a0 by omega)
      obtain ⟨H', rfl⟩ := Int.eq_ofNat_of_zero_le (show 0 ≤ a1 by omega)
      exact good hS (by omega) (by omega) (by omega) (by omega) (by omega)
    · exact bad a0 a1 (by omega) (by omega) (by omega) hr

end Go.Proofs.Ytneapdegjofodaa.cellGrids
