/- What a row of cells is that reads as a woodgrain/woodgrainlaw07.Sight. -/
import Derived.Test.YtgclgegdojnpcaaRows
import Derived.WalkKit
import Derived.ProofKit
import Derived.OpenShut
namespace Go.Proofs.Ytgclgegdojnpcaa.RowSight
open Go.ChangeShapes Go.WideShapes Go.ChangeAt Go.RowKit
set_option linter.unusedVariables false

section
variable {H : Type} {enc : TypeId × Value → H} {w : World} {base : Nat} {spare : Nat → Bool} {held : Bool} {fuel : Nat} {x : DataW H × List MemPlace}

theorem of3 {cs : List Value} (h : DataW.trod enc Try.prog w base spare held fuel 3 cs = some x) : ∃ n0 : Int, cs = [.int .i64 n0] ∧ (Lit.int .i64 n0).wf = true := by
  obtain ⟨n, e1, rfl, w1⟩ := DataW.trod_int Try.underlying3 h
  exact ⟨n, e1, w1⟩

theorem of4 {cs : List Value} (h : DataW.trod enc Try.prog w base spare held fuel 4 cs = some x) : ∃ n0 : Bool, cs = [.bool n0] ∧ True := by
  obtain ⟨n, e1, rfl⟩ := DataW.trod_bool Try.underlying4 h
  exact ⟨n, e1, trivial⟩

set_option maxRecDepth 100000 in
theorem of25 {cs : List Value} (h : DataW.trod enc Try.prog w base spare held fuel 25 cs = some x) : ∃ n0 : Int, ∃ n1 : Int, ∃ n2 : Int, cs = [.int .i64 n0, .int .i64 n1, .int .i64 n2] ∧ (Lit.int .i64 n0).wf = true ∧ (Lit.int .i64 n1).wf = true ∧ (Lit.int .i64 n2).wf = true := by
  obtain ⟨xs, n, rfl, rfl, hl, hlen, hf⟩ := DataW.trod_array Try.underlying25 h
  rw [show Try.prog.cellsOf 25 = 3 by kernel_rfl] at hl
  match xs, hlen, cs, hl with
  | [y0, y1, y2], _, [v0, v1, v2], _ =>
    have g0 : DataW.trod enc Try.prog w base spare held n 3 (([v0, v1, v2].drop (0 * Try.prog.cellsOf 3)).take (Try.prog.cellsOf 3)) = some y0 := hf 0 (by decide)
    rw [show Try.prog.cellsOf 3 = 1 by kernel_rfl] at g0
    obtain ⟨n0, e0, w0⟩ := of3 (show DataW.trod enc Try.prog w base spare held n 3 [v0] = some y0 from g0)
    simp only [List.cons.injEq, and_true] at e0
    have g1 : DataW.trod enc Try.prog w base spare held n 3 (([v0, v1, v2].drop (1 * Try.prog.cellsOf 3)).take (Try.prog.cellsOf 3)) = some y1 := hf 1 (by decide)
    rw [show Try.prog.cellsOf 3 = 1 by kernel_rfl] at g1
    obtain ⟨n1, e1, w1⟩ := of3 (show DataW.trod enc Try.prog w base spare held n 3 [v1] = some y1 from g1)
    simp only [List.cons.injEq, and_true] at e1
    have g2 : DataW.trod enc Try.prog w base spare held n 3 (([v0, v1, v2].drop (2 * Try.prog.cellsOf 3)).take (Try.prog.cellsOf 3)) = some y2 := hf 2 (by decide)
    rw [show Try.prog.cellsOf 3 = 1 by kernel_rfl] at g2
    obtain ⟨n2, e2, w2⟩ := of3 (show DataW.trod enc Try.prog w base spare held n 3 [v2] = some y2 from g2)
    simp only [List.cons.injEq, and_true] at e2
    subst e0
    subst e1
    subst e2
    exact ⟨n0, n1, n2, rfl, w0, w1, w2⟩

set_option maxRecDepth 100000 in
theorem of43 {cs : List Value} (h : DataW.trod enc Try.prog w base spare held fuel 43 cs = some x) : ∃ n0 : Int, ∃ n1 : Bool, ∃ n2 : Int, ∃ n3 : Int, ∃ n4 : Int, cs = [.int .i64 n0, .bool n1, .int .i64 n2, .int .i64 n3, .int .i64 n4] ∧ (Lit.int .i64 n0).wf = true ∧ True ∧ (Lit.int .i64 n2).wf = true ∧ (Lit.int .i64 n3).wf = true ∧ (Lit.int .i64 n4).wf = true := by
  obtain ⟨xs, n, rfl, rfl, hl, hlen, hf⟩ := DataW.trod_struct Try.underlying43 h
  rw [show Try.prog.cellsOf 43 = 5 by kernel_rfl] at hl
  match xs, hlen, cs, hl with
  | [y0, y1, y2], _, [v0, v1, v2, v3, v4], _ =>
    have g0 : DataW.trod enc Try.prog w base spare held n 3 (([v0, v1, v2, v3, v4].drop 0).take (Try.prog.cellsOf 3)) = some y0 := hf 0 _ rfl
    rw [show Try.prog.cellsOf 3 = 1 by kernel_rfl] at g0
    obtain ⟨n0, e0, w0⟩ := of3 (show DataW.trod enc Try.prog w base spare held n 3 [v0] = some y0 from g0)
    simp only [List.cons.injEq, and_true] at e0
    have g1 : DataW.trod enc Try.prog w base spare held n 4 (([v0, v1, v2, v3, v4].drop 1).take (Try.prog.cellsOf 4)) = some y1 := hf 1 _ rfl
    rw [show Try.prog.cellsOf 4 = 1 by kernel_rfl] at g1
    obtain ⟨n1, e1, w1⟩ := of4 (show DataW.trod enc Try.prog w base spare held n 4 [v1] = some y1 from g1)
    simp only [List.cons.injEq, and_true] at e1
    have g2 : DataW.trod enc Try.prog w base spare held n 25 (([v0, v1, v2, v3, v4].drop 2).take (Try.prog.cellsOf 25)) = some y2 := hf 2 _ rfl
    rw [show Try.prog.cellsOf 25 = 3 by kernel_rfl] at g2
    obtain ⟨n2, n3, n4, e2, w2, w3, w4⟩ := of25 (show DataW.trod enc Try.prog w base spare held n 25 [v2, v3, v4] = some y2 from g2)
    simp only [List.cons.injEq, and_true] at e2
    subst e0
    subst e1
    obtain ⟨rfl, rfl, rfl⟩ := e2
    exact ⟨n0, n1, n2, n3, n4, rfl, w0, w1, w2, w3, w4⟩

abbrev T : TypeId := 43
theorem of {cs : List Value} (h : DataW.trod enc Try.prog w base spare held fuel 43 cs = some x) : ∃ n0 : Int, ∃ n1 : Bool, ∃ n2 : Int, ∃ n3 : Int, ∃ n4 : Int, cs = [.int .i64 n0, .bool n1, .int .i64 n2, .int .i64 n3, .int .i64 n4] ∧ (Lit.int .i64 n0).wf = true ∧ True ∧ (Lit.int .i64 n2).wf = true ∧ (Lit.int .i64 n3).wf = true ∧ (Lit.int .i64 n4).wf = true := of43 h
end
end Go.Proofs.Ytgclgegdojnpcaa.RowSight
