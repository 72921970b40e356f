/- An act, as it comes in. (Written by wip/gen/gen_potplays.py.) -/
import Derived.Test.YtdnfclhljahghaaPotPlaysWalk
import Derived.Test.YtdnfclhljahghaaRowPot
set_option linter.unusedVariables false
namespace Go.Proofs.Ytdnfclhljahghaa.potPlays
open Go.ChangeShapes Go.WideShapes Go.ChangeAt Go.RowKit Go.Deep

theorem act_of {H : Type} {enc : TypeId × Go.Value → H} {w : World} {base : Nat} {spare : Nat → Bool} {held : Bool} {fuel : Nat} {x : DataW H × List MemPlace} {r : List Go.Value} (h : DataW.trod enc Try.prog w base spare held fuel 57 r = some x) : ∃ a : Po.Act, r = a.row ∧ a.ok := by
  obtain ⟨n0, n1, n2, n3, n4, n5, n6, n7, n8, n9, n10, n11, n12, n13, n14, n15, e, w0, w1, w2, w3, w4, w5, w6, w7, w8, w9, w10, w11, w12, w13, w14, w15⟩ := RowPot.of h
  have b1 := bounds_i64 w1
  have b2 := bounds_u8 w2
  have b3 := bounds_u16 w3
  refine ⟨⟨n0, n1, n2.toNat, n3.toNat, n4, n5, n6, n7, n8, n9, n10, n11, n12, n13, n14, n15⟩, ?_, by simp only; omega, by simp only; omega, by simp only; omega⟩
  rw [e]
  simp only [Po.Act.row]
  rw [Int.toNat_of_nonneg b2.1, Int.toNat_of_nonneg b3.1]

end Go.Proofs.Ytdnfclhljahghaa.potPlays
