/- A row of cells that reads as an act. -/
import Derived.Test.YtcidhklehhakdaaDoorTimerWordsWalk
import Derived.Test.YtcidhklehhakdaaDoorRowAct
namespace Go.Proofs.YtcidhklehhakdaaDoor.timerWords
open Go.ChangeShapes Go.WideShapes Go.ChangeAt Go.RowKit Tm

theorem act_of {H : Type} {enc : TypeId × Go.Value → H} {w : World} {base : Nat} {spare : Nat → Bool} {held : Bool} {fuel : Nat} {x : DataW H × List MemPlace} {r : List Go.Value} (h : DataW.trod enc Tryd.prog w base spare held fuel 34 r = some x) : ∃ a : Act, r = a.row ∧ a.ok := by
  obtain ⟨n0, n1, n2, n3, n4, n5, n6, n7, n8, e, w0, w1, w2, _, _, _, _, _, _⟩ := RowAct.of h
  have b0 := bounds_i64 w0
  have b1 := bounds_u16 w1
  have b2 := bounds_u8 w2
  refine ⟨⟨n0, n1.toNat, n2.toNat, n3, n4, n5, n6, n7, n8⟩, ?_, b0.1, b0.2, by simp only; omega, by simp only; omega⟩
  rw [e]
  simp only [Act.row]
  rw [Int.toNat_of_nonneg b1.1, Int.toNat_of_nonneg b2.1]

end Go.Proofs.YtcidhklehhakdaaDoor.timerWords
