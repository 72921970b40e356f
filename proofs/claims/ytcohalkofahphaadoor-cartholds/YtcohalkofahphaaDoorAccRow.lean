/- An access by value, as it comes in. -/
import Derived.Test.YtcohalkofahphaaDoorPlayRow
set_option linter.unusedSimpArgs false
set_option linter.unusedVariables false
namespace Go.Proofs.YtcohalkofahphaaDoor.Ca
open Go.ChangeShapes Go.WideShapes Go.ChangeAt Go.RowKit Go.Deep Img

set_option maxRecDepth 100000 in
theorem open_acc {H : Type} {enc : TypeId × Value → H} {W : World} {r : Reach} {b0 base : Nat} {spare : Nat → Bool} {held : Bool} {v : Value} {d : DataW H} {pl : List MemPlace}
    (hv : Value.okWide Tryd.prog W r b0 51 v) (h : DataW.Trod enc Tryd.prog W base spare held 51 v d pl) :
    ∃ z : Acc, v = .agg #[.int .u16 (z.a : Int), .int .u8 (z.x : Int), .bool z.w] ∧ z.ok := by
  obtain ⟨cs, rfl, hsz⟩ := okWide_struct Tryd.underlying51 hv
  obtain ⟨l⟩ := cs
  obtain ⟨fuel, hf⟩ := h
  have hf' : DataW.trod enc Tryd.prog W base spare held fuel 51 l = some (d, pl) := hf
  obtain ⟨z, e, hz⟩ := acc_of hf'
  refine ⟨z, ?_, hz⟩
  rw [e]
  rfl

end Go.Proofs.YtcohalkofahphaaDoor.Ca
