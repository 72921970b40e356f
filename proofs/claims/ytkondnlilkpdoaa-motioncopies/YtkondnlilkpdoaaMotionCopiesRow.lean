/- An act, as it comes in. -/
import Derived.Test.YtkondnlilkpdoaaMotionCopiesWalk
import Derived.Test.YtkondnlilkpdoaaActRow
set_option linter.unusedVariables false
namespace Go.Proofs.Ytkondnlilkpdoaa.motionCopies
open Go.ChangeShapes Go.WideShapes Go.ChangeAt Go.RowKit Go.Deep

theorem act_of {H : Type} {enc : TypeId × Go.Value → H} {w : World} {base : Nat} {spare : Nat → Bool} {held : Bool} {fuel : Nat} {x : DataW H × List MemPlace} {r : List Go.Value} (h : DataW.trod enc Try.prog w base spare held fuel 32 r = some x) : ∃ a : Mo.Act, r = a.row ∧ a.ok := Mo.act_of h

end Go.Proofs.Ytkondnlilkpdoaa.motionCopies
