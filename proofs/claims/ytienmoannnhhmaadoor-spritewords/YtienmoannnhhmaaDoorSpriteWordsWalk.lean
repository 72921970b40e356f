/- SpriteWords, walked: whatever comes in, true comes out. -/
import Derived.Test.YtienmoannnhhmaaDoorSpriteWordsGood
set_option linter.unusedVariables false
namespace Go.Proofs.YtienmoannnhhmaaDoor.spriteWords
open Go.RowKit Count Sp

set_option maxRecDepth 100000 in
set_option maxHeartbeats 1000000 in
theorem big (n cap : Nat) (ao : Option Addr) (c : Int) (W : World) (hl : 20 < n) (hc : n ≤ cap) (hm : cap ≤ 9223372036854775807) :
    Calls Tryd.prog 6 #[.slice ao n cap, .int .u8 c] W fun e w' => e = .returned (.bool true) ∧ Below W.heap.size W w' := by
  have hl' : (20 : Int) < (n : Int) := by omega
  clear hl
  go_enter Tryd.func6, Tryd.ntmps6
  go_wp2
  go_returns
  exact ⟨rfl, Below.refl _ _⟩

theorem walk {L : List (List Go.Value)} {ao : Option Addr} {n cap b off : Nat} {W : World} (a0 : Int) (w0 : (Lit.int .u8 a0).wf = true) (ht : Tb W) (hS : SeenX W ao cap b off 7 L) (hn : n = L.length) (hL : ∀ r ∈ L, ∃ a : Sp.Act, r = a.row ∧ a.ok) :
    Calls Tryd.prog 6 #[.slice ao n cap, .int .u8 a0] W fun e w' => e = .returned (.bool true) ∧ Below W.heap.size W w' := by
  have hb := bounds_u8 w0
  obtain ⟨c, rfl⟩ := Int.eq_ofNat_of_zero_le (show 0 ≤ a0 by omega)
  obtain ⟨A, rfl, hA⟩ := map_of hL
  rw [List.length_map] at hn
  subst hn
  have hle := hS.le
  rw [List.length_map] at hle
  by_cases h : A.length ≤ 20
  · exact good A ao cap b off c W ht (by omega) hA h hS
  · exact big _ _ _ _ _ (by omega) hle hS.max

end Go.Proofs.YtienmoannnhhmaaDoor.spriteWords
