/- A sight, as it comes in. -/
import Derived.Test.YtgclgegdojnpcaaPortEdgesWalk
import Derived.Test.YtgclgegdojnpcaaRowSight
set_option linter.unusedVariables false
namespace Go.Proofs.Ytgclgegdojnpcaa.portEdges
open Go.ChangeShapes Go.WideShapes Go.ChangeAt Go.RowKit Go.Deep

theorem act_of {H : Type} {enc : TypeId × Go.Value → H} {w : World} {base : Nat} {spare : Nat → Bool} {held : Bool} {fuel : Nat} {x : DataW H × List MemPlace} {r : List Go.Value} (h : DataW.trod enc Try.prog w base spare held fuel 43 r = some x) : ∃ a : Act, r = a.row ∧ a.ok := by
  obtain ⟨n0, n1, n2, n3, n4, e, w0, -, w2, w3, w4⟩ := RowSight.of h
  have b0 := bounds_i64 w0
  exact ⟨⟨n0, n1, n2, n3, n4⟩, by rw [e]; rfl, b0.1, b0.2⟩

end Go.Proofs.Ytgclgegdojnpcaa.portEdges
