/- An act, as it comes in. -/
import Derived.Test.YtienmoannnhhmaaDoorSpriteWordsM
import Derived.Test.YtienmoannnhhmaaDoorRowAct
set_option linter.unusedVariables false
namespace Go.Proofs.YtienmoannnhhmaaDoor.Sp
open Go.ChangeShapes Go.WideShapes Go.ChangeAt Go.RowKit Go.Deep

theorem act_of {H : Type} {enc : TypeId × Go.Value → H} {w : World} {base : Nat} {spare : Nat → Bool} {held : Bool} {fuel : Nat} {x : DataW H × List MemPlace} {r : List Go.Value} (h : DataW.trod enc Tryd.prog w base spare held fuel 31 r = some x) : ∃ a : Sp.Act, r = a.row ∧ a.ok := by
  obtain ⟨n0, n1, n2, n3, n4, n5, n6, e, w0, w1, w2, w3, w4, w5, w6⟩ := RowAct.of h
  have b0 := bounds_i64 w0
  have b1 := bounds_u16 w1
  have b2 := bounds_u8 w2
  refine ⟨⟨n0, n1.toNat, n2.toNat, n3, n4, n5, n6⟩, ?_, b0.1, b0.2, by simp only; omega, by simp only; omega⟩
  rw [e]
  simp only [Sp.Act.row]
  rw [Int.toNat_of_nonneg b1.1, Int.toNat_of_nonneg b2.1]

end Go.Proofs.YtienmoannnhhmaaDoor.Sp
