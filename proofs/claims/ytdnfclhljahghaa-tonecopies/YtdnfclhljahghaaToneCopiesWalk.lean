/- ToneCopies, walked: whatever comes in, true comes out. (Written by wip/gen/gen_tone9.py.) -/
import Derived.Test.YtdnfclhljahghaaToneCopiesGood
set_option linter.unusedVariables false
namespace Go.Proofs.Ytdnfclhljahghaa.toneCopies
open Go.RowKit To

set_option maxRecDepth 100000 in
set_option maxHeartbeats 1000000 in
theorem big (n cap : Nat) (ao : Option Addr) (T : Nat) (W : World) (hl : 10 < n) (hc : n ≤ cap) (hm : cap ≤ 9223372036854775807) :
    Calls Try.prog 6 #[.slice ao n cap, .int .u8 (T : Int)] W fun e w' => e = .returned (.bool true) ∧ Below W.heap.size W w' := by
  have hl' : (10 : Int) < (n : Int) := by omega
  clear hl
  go_enter Try.func6, Try.ntmps6
  go_wp2
  go_returns
  exact ⟨rfl, Below.refl _ _⟩

theorem walk {L : List (List Go.Value)} {ao : Option Addr} {n cap b off : Nat} {W : World} (hS : SeenX W ao cap b off 11 L) (hn : n = L.length) (hL : ∀ r ∈ L, ∃ a : To.Act, r = a.row ∧ a.ok) (a1 : Int) (w1 : (Lit.int .u8 a1).wf = true) :
    Calls Try.prog 6 #[.slice ao n cap, .int .u8 a1] W fun e w' => e = .returned (.bool true) ∧ Below W.heap.size W w' := by
  obtain ⟨A, rfl, hA⟩ := map_of hL
  rw [List.length_map] at hn
  subst hn
  have hle := hS.le
  rw [List.length_map] at hle
  have b1 := bounds_u8 w1
  obtain ⟨T, rfl⟩ := Int.eq_ofNat_of_zero_le b1.1
  by_cases h : A.length ≤ 10
  · exact good A ao cap b off T W hA h hS (by omega)
  · exact big _ _ _ T _ (by omega) hle hS.max

end Go.Proofs.Ytdnfclhljahghaa.toneCopies
