/- What a row of cells is that reads as a woodgrain/woodgrainlaw15.Act. -/
import Derived.Test.YtienmoannnhhmaaRows
import Derived.WalkKit
import Derived.ProofKit
import Derived.OpenShut
namespace Go.Proofs.Ytienmoannnhhmaa.RowAct
open Go.ChangeShapes Go.WideShapes Go.ChangeAt Go.RowKit
set_option linter.unusedVariables false

section
variable {H : Type} {enc : TypeId × Value → H} {w : World} {base : Nat} {spare : Nat → Bool} {held : Bool} {fuel : Nat} {x : DataW H × List MemPlace}

theorem of3 {cs : List Value} (h : DataW.trod enc Try.prog w base spare held fuel 3 cs = some x) : ∃ n0 : Int, cs = [.int .i64 n0] ∧ (Lit.int .i64 n0).wf = true := by
  obtain ⟨n, e1, rfl, w1⟩ := DataW.trod_int Try.underlying3 h
  exact ⟨n, e1, w1⟩

theorem of33 {cs : List Value} (h : DataW.trod enc Try.prog w base spare held fuel 33 cs = some x) : ∃ n0 : Int, cs = [.int .u16 n0] ∧ (Lit.int .u16 n0).wf = true := by
  obtain ⟨n, e1, rfl, w1⟩ := DataW.trod_int Try.underlying33 h
  exact ⟨n, e1, w1⟩

set_option maxRecDepth 100000 in
theorem of29 {cs : List Value} (h : DataW.trod enc Try.prog w base spare held fuel 29 cs = some x) : ∃ n0 : Int, ∃ n1 : Int, cs = [.int .i64 n0, .int .i64 n1] ∧ (Lit.int .i64 n0).wf = true ∧ (Lit.int .i64 n1).wf = true := by
  obtain ⟨xs, n, rfl, rfl, hl, hlen, hf⟩ := DataW.trod_array Try.underlying29 h
  rw [show Try.prog.cellsOf 29 = 2 by kernel_rfl] at hl
  match xs, hlen, cs, hl with
  | [y0, y1], _, [v0, v1], _ =>
    have g0 : DataW.trod enc Try.prog w base spare held n 3 (([v0, v1].drop (0 * Try.prog.cellsOf 3)).take (Try.prog.cellsOf 3)) = some y0 := hf 0 (by decide)
    rw [show Try.prog.cellsOf 3 = 1 by kernel_rfl] at g0
    obtain ⟨n0, e0, w0⟩ := of3 (show DataW.trod enc Try.prog w base spare held n 3 [v0] = some y0 from g0)
    simp only [List.cons.injEq, and_true] at e0
    have g1 : DataW.trod enc Try.prog w base spare held n 3 (([v0, v1].drop (1 * Try.prog.cellsOf 3)).take (Try.prog.cellsOf 3)) = some y1 := hf 1 (by decide)
    rw [show Try.prog.cellsOf 3 = 1 by kernel_rfl] at g1
    obtain ⟨n1, e1, w1⟩ := of3 (show DataW.trod enc Try.prog w base spare held n 3 [v1] = some y1 from g1)
    simp only [List.cons.injEq, and_true] at e1
    subst e0
    subst e1
    exact ⟨n0, n1, rfl, w0, w1⟩

set_option maxRecDepth 100000 in
theorem of35 {cs : List Value} (h : DataW.trod enc Try.prog w base spare held fuel 35 cs = some x) : ∃ n0 : Int, ∃ n1 : Int, ∃ n2 : Int, ∃ n3 : Int, cs = [.int .i64 n0, .int .u16 n1, .int .i64 n2, .int .i64 n3] ∧ (Lit.int .i64 n0).wf = true ∧ (Lit.int .u16 n1).wf = true ∧ (Lit.int .i64 n2).wf = true ∧ (Lit.int .i64 n3).wf = true := by
  obtain ⟨xs, n, rfl, rfl, hl, hlen, hf⟩ := DataW.trod_struct Try.underlying35 h
  rw [show Try.prog.cellsOf 35 = 4 by kernel_rfl] at hl
  match xs, hlen, cs, hl with
  | [y0, y1, y2], _, [v0, v1, v2, v3], _ =>
    have g0 : DataW.trod enc Try.prog w base spare held n 3 (([v0, v1, v2, v3].drop 0).take (Try.prog.cellsOf 3)) = some y0 := hf 0 _ rfl
    rw [show Try.prog.cellsOf 3 = 1 by kernel_rfl] at g0
    obtain ⟨n0, e0, w0⟩ := of3 (show DataW.trod enc Try.prog w base spare held n 3 [v0] = some y0 from g0)
    simp only [List.cons.injEq, and_true] at e0
    have g1 : DataW.trod enc Try.prog w base spare held n 33 (([v0, v1, v2, v3].drop 1).take (Try.prog.cellsOf 33)) = some y1 := hf 1 _ rfl
    rw [show Try.prog.cellsOf 33 = 1 by kernel_rfl] at g1
    obtain ⟨n1, e1, w1⟩ := of33 (show DataW.trod enc Try.prog w base spare held n 33 [v1] = some y1 from g1)
    simp only [List.cons.injEq, and_true] at e1
    have g2 : DataW.trod enc Try.prog w base spare held n 29 (([v0, v1, v2, v3].drop 2).take (Try.prog.cellsOf 29)) = some y2 := hf 2 _ rfl
    rw [show Try.prog.cellsOf 29 = 2 by kernel_rfl] at g2
    obtain ⟨n2, n3, e2, w2, w3⟩ := of29 (show DataW.trod enc Try.prog w base spare held n 29 [v2, v3] = some y2 from g2)
    simp only [List.cons.injEq, and_true] at e2
    subst e0
    subst e1
    obtain ⟨rfl, rfl⟩ := e2
    exact ⟨n0, n1, n2, n3, rfl, w0, w1, w2, w3⟩

abbrev T : TypeId := 35
theorem of {cs : List Value} (h : DataW.trod enc Try.prog w base spare held fuel 35 cs = some x) : ∃ n0 : Int, ∃ n1 : Int, ∃ n2 : Int, ∃ n3 : Int, cs = [.int .i64 n0, .int .u16 n1, .int .i64 n2, .int .i64 n3] ∧ (Lit.int .i64 n0).wf = true ∧ (Lit.int .u16 n1).wf = true ∧ (Lit.int .i64 n2).wf = true ∧ (Lit.int .i64 n3).wf = true := of35 h
end
end Go.Proofs.Ytienmoannnhhmaa.RowAct
