/- What a row of cells is that reads as a woodgrain/woodgrainlaw05.Access. -/
import Derived.Test.YtcohalkofahphaaDoorRows
import Derived.WalkKit
import Derived.ProofKit
import Derived.OpenShut
namespace Go.Proofs.YtcohalkofahphaaDoor.RowAcc
open Go.ChangeShapes Go.WideShapes Go.ChangeAt Go.RowKit
set_option linter.unusedVariables false

section
variable {H : Type} {enc : TypeId × Value → H} {w : World} {base : Nat} {spare : Nat → Bool} {held : Bool} {fuel : Nat} {x : DataW H × List MemPlace}

theorem of49 {cs : List Value} (h : DataW.trod enc Tryd.prog w base spare held fuel 49 cs = some x) : ∃ n0 : Int, cs = [.int .u16 n0] ∧ (Lit.int .u16 n0).wf = true := by
  obtain ⟨n, e1, rfl, w1⟩ := DataW.trod_int Tryd.underlying49 h
  exact ⟨n, e1, w1⟩

theorem of5 {cs : List Value} (h : DataW.trod enc Tryd.prog w base spare held fuel 5 cs = some x) : ∃ n0 : Int, cs = [.int .u8 n0] ∧ (Lit.int .u8 n0).wf = true := by
  obtain ⟨n, e1, rfl, w1⟩ := DataW.trod_int Tryd.underlying5 h
  exact ⟨n, e1, w1⟩

theorem of4 {cs : List Value} (h : DataW.trod enc Tryd.prog w base spare held fuel 4 cs = some x) : ∃ n0 : Bool, cs = [.bool n0] ∧ True := by
  obtain ⟨n, e1, rfl⟩ := DataW.trod_bool Tryd.underlying4 h
  exact ⟨n, e1, trivial⟩

set_option maxRecDepth 100000 in
theorem of51 {cs : List Value} (h : DataW.trod enc Tryd.prog w base spare held fuel 51 cs = some x) : ∃ n0 : Int, ∃ n1 : Int, ∃ n2 : Bool, cs = [.int .u16 n0, .int .u8 n1, .bool n2] ∧ (Lit.int .u16 n0).wf = true ∧ (Lit.int .u8 n1).wf = true ∧ True := by
  obtain ⟨xs, n, rfl, rfl, hl, hlen, hf⟩ := DataW.trod_struct Tryd.underlying51 h
  rw [show Tryd.prog.cellsOf 51 = 3 by kernel_rfl] at hl
  match xs, hlen, cs, hl with
  | [y0, y1, y2], _, [v0, v1, v2], _ =>
    have g0 : DataW.trod enc Tryd.prog w base spare held n 49 (([v0, v1, v2].drop 0).take (Tryd.prog.cellsOf 49)) = some y0 := hf 0 _ rfl
    rw [show Tryd.prog.cellsOf 49 = 1 by kernel_rfl] at g0
    obtain ⟨n0, e0, w0⟩ := of49 (show DataW.trod enc Tryd.prog w base spare held n 49 [v0] = some y0 from g0)
    simp only [List.cons.injEq, and_true] at e0
    have g1 : DataW.trod enc Tryd.prog w base spare held n 5 (([v0, v1, v2].drop 1).take (Tryd.prog.cellsOf 5)) = some y1 := hf 1 _ rfl
    rw [show Tryd.prog.cellsOf 5 = 1 by kernel_rfl] at g1
    obtain ⟨n1, e1, w1⟩ := of5 (show DataW.trod enc Tryd.prog w base spare held n 5 [v1] = some y1 from g1)
    simp only [List.cons.injEq, and_true] at e1
    have g2 : DataW.trod enc Tryd.prog w base spare held n 4 (([v0, v1, v2].drop 2).take (Tryd.prog.cellsOf 4)) = some y2 := hf 2 _ rfl
    rw [show Tryd.prog.cellsOf 4 = 1 by kernel_rfl] at g2
    obtain ⟨n2, e2, w2⟩ := of4 (show DataW.trod enc Tryd.prog w base spare held n 4 [v2] = some y2 from g2)
    simp only [List.cons.injEq, and_true] at e2
    subst e0
    subst e1
    subst e2
    exact ⟨n0, n1, n2, rfl, w0, w1, w2⟩

abbrev T : TypeId := 51
theorem of {cs : List Value} (h : DataW.trod enc Tryd.prog w base spare held fuel 51 cs = some x) : ∃ n0 : Int, ∃ n1 : Int, ∃ n2 : Bool, cs = [.int .u16 n0, .int .u8 n1, .bool n2] ∧ (Lit.int .u16 n0).wf = true ∧ (Lit.int .u8 n1).wf = true ∧ True := of51 h
end
end Go.Proofs.YtcohalkofahphaaDoor.RowAcc
