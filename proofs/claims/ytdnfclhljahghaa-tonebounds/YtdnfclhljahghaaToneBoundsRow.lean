/- An act, as it comes in. (Written by wip/gen/gen_tone9.py.) -/
import Derived.Test.YtdnfclhljahghaaToneBoundsWalk
import Derived.Test.YtdnfclhljahghaaRowTone
set_option linter.unusedVariables false
namespace Go.Proofs.Ytdnfclhljahghaa.toneBounds
open Go.ChangeShapes Go.WideShapes Go.ChangeAt Go.RowKit Go.Deep

theorem act_of {H : Type} {enc : TypeId × Go.Value → H} {w : World} {base : Nat} {spare : Nat → Bool} {held : Bool} {fuel : Nat} {x : DataW H × List MemPlace} {r : List Go.Value} (h : DataW.trod enc Try.prog w base spare held fuel 32 r = some x) : ∃ a : To.Act, r = a.row ∧ a.ok := by
  obtain ⟨n0, n1, n2, n3, n4, n5, n6, n7, n8, n9, n10, e, w0, w1, w2, w3, w4, w5, w6, w7, w8, w9, w10⟩ := RowTone.of h
  have b1 := bounds_u16 w1
  have b2 := bounds_u8 w2
  refine ⟨⟨n0, n1.toNat, n2.toNat, n3, n4, n5, n6, n7, n8, n9, n10⟩, ?_, by simp only; omega, by simp only; omega⟩
  rw [e]
  simp only [To.Act.row]
  rw [Int.toNat_of_nonneg b1.1, Int.toNat_of_nonneg b2.1]

end Go.Proofs.Ytdnfclhljahghaa.toneBounds
