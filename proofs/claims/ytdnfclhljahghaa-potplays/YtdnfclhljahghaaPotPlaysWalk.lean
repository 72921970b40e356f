/- PotPlays, walked: whatever comes in, true comes out. (Written by wip/gen/gen_potplays.py.) -/
import Derived.Test.YtdnfclhljahghaaPotPlaysGood
set_option linter.unusedVariables false
namespace Go.Proofs.Ytdnfclhljahghaa.potPlays
open Go.RowKit Po

set_option maxRecDepth 100000 in
set_option maxHeartbeats 1000000 in
theorem big (n cap : Nat) (ao : Option Addr) (W : World) (hl : 60 < n) (hc : n ≤ cap) (hm : cap ≤ 9223372036854775807) :
    Calls Try.prog 8 #[.slice ao n cap] W fun e w' => e = .returned (.bool true) ∧ Below W.heap.size W w' := by
  have hl' : (60 : Int) < (n : Int) := by omega
  clear hl
  go_enter Try.func8, Try.ntmps8
  go_wp2
  go_returns
  exact ⟨rfl, Below.refl _ _⟩

theorem walk {L : List (List Go.Value)} {ao : Option Addr} {n cap b off : Nat} {W : World} (hS : SeenX W ao cap b off 16 L) (hn : n = L.length) (hL : ∀ r ∈ L, ∃ a : Po.Act, r = a.row ∧ a.ok) :
    Calls Try.prog 8 #[.slice ao n cap] W fun e w' => e = .returned (.bool true) ∧ Below W.heap.size W w' := by
  obtain ⟨A, rfl, hA⟩ := map_of hL
  rw [List.length_map] at hn
  subst hn
  have hle := hS.le
  rw [List.length_map] at hle
  by_cases h : A.length ≤ 60
  · exact good A ao cap b off W hA h hS
  · exact big _ _ _ _ (by omega) hle hS.max

end Go.Proofs.Ytdnfclhljahghaa.potPlays
