/- An act, as it comes in. -/
import Derived.Test.YtkondnlilkpdoaaMotionPM
import Derived.Test.YtkondnlilkpdoaaRowAct
set_option linter.unusedVariables false
namespace Go.Proofs.Ytkondnlilkpdoaa.Mo
open Go.ChangeShapes Go.WideShapes Go.ChangeAt Go.RowKit Go.Deep

theorem act_of {H : Type} {enc : TypeId × Go.Value → H} {w : World} {base : Nat} {spare : Nat → Bool} {held : Bool} {fuel : Nat} {x : DataW H × List MemPlace} {r : List Go.Value} (h : DataW.trod enc Try.prog w base spare held fuel 32 r = some x) : ∃ a : Mo.Act, r = a.row ∧ a.ok := by
  obtain ⟨n0, n1, n2, n3, n4, n5, n6, n7, n8, n9, e, w0, w1, w2, w3, w4, w5, w6, w7, w8, w9⟩ := RowAct.of h
  have b0 := bounds_i64 w0
  have b1 := bounds_i64 w1
  have b2 := bounds_u8 w2
  have b3 := bounds_u8 w3
  have b4 := bounds_u8 w4
  have b5 := bounds_u8 w5
  have b6 := bounds_u8 w6
  refine ⟨⟨n0, n1, n2.toNat, n3.toNat, n4.toNat, n5.toNat, n6.toNat, n7, n8, n9⟩, ?_, b0, b1, by simp only; omega, by simp only; omega, by simp only; omega, by simp only; omega, by simp only; omega⟩
  rw [e]
  simp only [Mo.Act.row]
  rw [Int.toNat_of_nonneg b2.1, Int.toNat_of_nonneg b3.1, Int.toNat_of_nonneg b4.1, Int.toNat_of_nonneg b5.1, Int.toNat_of_nonneg b6.1]

end Go.Proofs.Ytkondnlilkpdoaa.Mo
