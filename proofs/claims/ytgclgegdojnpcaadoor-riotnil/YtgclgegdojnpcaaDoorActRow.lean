/- An act, as it comes in. -/
import Derived.Test.YtgclgegdojnpcaaDoorRowAct
import Derived.Test.YtgclgegdojnpcaaDoorSeenX
set_option linter.unusedVariables false
namespace Go.Proofs.YtgclgegdojnpcaaDoor.Ri
open Go.ChangeShapes Go.WideShapes Go.ChangeAt Go.RowKit Go.Deep

/-- An act. -/
structure Act where
  kind : Int
  cyc : Nat
  addr : Nat
  v : Nat
  u : Nat
def Act.row (a : Act) : List Go.Value := [.int .i64 a.kind, .int .u16 (a.cyc : Int), .int .u16 (a.addr : Int), .int .u8 (a.v : Int), .int .u8 (a.u : Int)]
structure Act.ok (a : Act) : Prop where
  k1 : -9223372036854775808 ≤ a.kind
  k2 : a.kind ≤ 9223372036854775807
  cyc : a.cyc ≤ 65535
  addr : a.addr ≤ 65535
  v : a.v ≤ 255
  u : a.u ≤ 255

theorem act_of {H : Type} {enc : TypeId × Go.Value → H} {w : World} {base : Nat} {spare : Nat → Bool} {held : Bool} {fuel : Nat} {x : DataW H × List MemPlace} {r : List Go.Value} (h : DataW.trod enc Tryd.prog w base spare held fuel 38 r = some x) : ∃ a : Act, r = a.row ∧ a.ok := by
  obtain ⟨n0, n1, n2, n3, n4, e, w0, w1, w2, w3, w4⟩ := RowAct.of h
  have b0 := bounds_i64 w0
  have b1 := bounds_u16 w1
  have b2 := bounds_u16 w2
  have b3 := bounds_u8 w3
  have b4 := bounds_u8 w4
  refine ⟨⟨n0, n1.toNat, n2.toNat, n3.toNat, n4.toNat⟩, ?_, b0.1, b0.2, by simp only; omega, by simp only; omega, by simp only; omega, by simp only; omega⟩
  rw [e]
  simp only [Act.row]
  rw [Int.toNat_of_nonneg b1.1, Int.toNat_of_nonneg b2.1, Int.toNat_of_nonneg b3.1, Int.toNat_of_nonneg b4.1]

set_option maxRecDepth 100000 in
theorem open_act {H : Type} {enc : TypeId × Go.Value → H} {W : World} {r : Reach} {b0 base : Nat} {spare : Nat → Bool} {held : Bool} {v : Go.Value} {d : DataW H} {pl : List MemPlace}
    (hv : Value.okWide Tryd.prog W r b0 38 v) (h : DataW.Trod enc Tryd.prog W base spare held 38 v d pl) :
    ∃ z : Act, v = .agg #[.int .i64 z.kind, .int .u16 (z.cyc : Int), .int .u16 (z.addr : Int), .int .u8 (z.v : Int), .int .u8 (z.u : Int)] ∧ z.ok := by
  obtain ⟨cs, rfl, hsz⟩ := okWide_struct Tryd.underlying38 hv
  obtain ⟨l⟩ := cs
  obtain ⟨fuel, hf⟩ := h
  have hf' : DataW.trod enc Tryd.prog W base spare held fuel 38 l = some (d, pl) := hf
  obtain ⟨z, e, hz⟩ := act_of hf'
  refine ⟨z, ?_, hz⟩
  rw [e]
  rfl

end Go.Proofs.YtgclgegdojnpcaaDoor.Ri
