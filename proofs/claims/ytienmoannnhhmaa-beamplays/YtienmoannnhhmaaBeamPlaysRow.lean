/- An act, as it comes in. -/
import Derived.Test.YtienmoannnhhmaaBeamPlaysWalk
import Derived.Test.YtienmoannnhhmaaRowAct
set_option linter.unusedVariables false
namespace Go.Proofs.Ytienmoannnhhmaa.beamPlays
open Go.ChangeShapes Go.WideShapes Go.ChangeAt Go.RowKit Go.Deep

theorem act_of {H : Type} {enc : TypeId × Go.Value → H} {w : World} {base : Nat} {spare : Nat → Bool} {held : Bool} {fuel : Nat} {x : DataW H × List MemPlace} {r : List Go.Value} (h : DataW.trod enc Try.prog w base spare held fuel 35 r = some x) : ∃ a : Act, r = a.row ∧ a.ok := by
  obtain ⟨n0, n1, n2, n3, e, w0, w1, w2, w3⟩ := RowAct.of h
  have b0 := bounds_i64 w0
  have b1 := bounds_u16 w1
  refine ⟨⟨n0, n1.toNat, n2, n3⟩, ?_, b0.1, b0.2, by simp only; omega⟩
  rw [e]
  simp only [Act.row]
  rw [Int.toNat_of_nonneg b1.1]

end Go.Proofs.Ytienmoannnhhmaa.beamPlays
