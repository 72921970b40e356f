/- A byte, as it comes in. -/
import Derived.Test.YtdnfclhljahghaaPotLatchesWalk
set_option linter.unusedVariables false
namespace Go.Proofs.Ytdnfclhljahghaa.potLatches
open Go.ChangeShapes Go.WideShapes Go.ChangeAt Go.RowKit Go.Deep

theorem act_of {H : Type} {enc : TypeId × Go.Value → H} {w : World} {base : Nat} {spare : Nat → Bool} {held : Bool} {fuel : Nat} {x : DataW H × List MemPlace} {r : List Go.Value} (h : DataW.trod enc Try.prog w base spare held fuel 5 r = some x) : ∃ v : Nat, r = row v ∧ v < 256 := by
  obtain ⟨n, e1, rfl, w1⟩ := DataW.trod_int Try.underlying5 h
  have b1 := bounds_u8 w1
  refine ⟨n.toNat, ?_, by omega⟩
  rw [e1]
  simp only [row]
  rw [Int.toNat_of_nonneg b1.1]

end Go.Proofs.Ytdnfclhljahghaa.potLatches
