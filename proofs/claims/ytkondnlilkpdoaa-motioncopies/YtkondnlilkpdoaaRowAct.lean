/- What a row of cells is that reads as a woodgrain/woodgrainlaw17.Act. -/
import Derived.Test.YtkondnlilkpdoaaRows
import Derived.WalkKit
import Derived.ProofKit
import Derived.OpenShut
namespace Go.Proofs.Ytkondnlilkpdoaa.RowAct
open Go.ChangeShapes Go.WideShapes Go.ChangeAt Go.RowKit
set_option linter.unusedVariables false

section
variable {H : Type} {enc : TypeId × Value → H} {w : World} {base : Nat} {spare : Nat → Bool} {held : Bool} {fuel : Nat} {x : DataW H × List MemPlace}

theorem of3 {cs : List Value} (h : DataW.trod enc Try.prog w base spare held fuel 3 cs = some x) : ∃ n0 : Int, cs = [.int .i64 n0] ∧ (Lit.int .i64 n0).wf = true := by
  obtain ⟨n, e1, rfl, w1⟩ := DataW.trod_int Try.underlying3 h
  exact ⟨n, e1, w1⟩

theorem of5 {cs : List Value} (h : DataW.trod enc Try.prog w base spare held fuel 5 cs = some x) : ∃ n0 : Int, cs = [.int .u8 n0] ∧ (Lit.int .u8 n0).wf = true := by
  obtain ⟨n, e1, rfl, w1⟩ := DataW.trod_int Try.underlying5 h
  exact ⟨n, e1, w1⟩

set_option maxRecDepth 100000 in
theorem of29 {cs : List Value} (h : DataW.trod enc Try.prog w base spare held fuel 29 cs = some x) : ∃ n0 : Int, ∃ n1 : Int, ∃ n2 : Int, ∃ n3 : Int, ∃ n4 : Int, cs = [.int .u8 n0, .int .u8 n1, .int .u8 n2, .int .u8 n3, .int .u8 n4] ∧ (Lit.int .u8 n0).wf = true ∧ (Lit.int .u8 n1).wf = true ∧ (Lit.int .u8 n2).wf = true ∧ (Lit.int .u8 n3).wf = true ∧ (Lit.int .u8 n4).wf = true := by
  obtain ⟨xs, n, rfl, rfl, hl, hlen, hf⟩ := DataW.trod_array Try.underlying29 h
  rw [show Try.prog.cellsOf 29 = 5 by kernel_rfl] at hl
  match xs, hlen, cs, hl with
  | [y0, y1, y2, y3, y4], _, [v0, v1, v2, v3, v4], _ =>
    have g0 : DataW.trod enc Try.prog w base spare held n 5 (([v0, v1, v2, v3, v4].drop (0 * Try.prog.cellsOf 5)).take (Try.prog.cellsOf 5)) = some y0 := hf 0 (by decide)
    rw [show Try.prog.cellsOf 5 = 1 by kernel_rfl] at g0
    obtain ⟨n0, e0, w0⟩ := of5 (show DataW.trod enc Try.prog w base spare held n 5 [v0] = some y0 from g0)
    simp only [List.cons.injEq, and_true] at e0
    have g1 : DataW.trod enc Try.prog w base spare held n 5 (([v0, v1, v2, v3, v4].drop (1 * Try.prog.cellsOf 5)).take (Try.prog.cellsOf 5)) = some y1 := hf 1 (by decide)
    rw [show Try.prog.cellsOf 5 = 1 by kernel_rfl] at g1
    obtain ⟨n1, e1, w1⟩ := of5 (show DataW.trod enc Try.prog w base spare held n 5 [v1] = some y1 from g1)
    simp only [List.cons.injEq, and_true] at e1
    have g2 : DataW.trod enc Try.prog w base spare held n 5 (([v0, v1, v2, v3, v4].drop (2 * Try.prog.cellsOf 5)).take (Try.prog.cellsOf 5)) = some y2 := hf 2 (by decide)
    rw [show Try.prog.cellsOf 5 = 1 by kernel_rfl] at g2
    obtain ⟨n2, e2, w2⟩ := of5 (show DataW.trod enc Try.prog w base spare held n 5 [v2] = some y2 from g2)
    simp only [List.cons.injEq, and_true] at e2
    have g3 : DataW.trod enc Try.prog w base spare held n 5 (([v0, v1, v2, v3, v4].drop (3 * Try.prog.cellsOf 5)).take (Try.prog.cellsOf 5)) = some y3 := hf 3 (by decide)
    rw [show Try.prog.cellsOf 5 = 1 by kernel_rfl] at g3
    obtain ⟨n3, e3, w3⟩ := of5 (show DataW.trod enc Try.prog w base spare held n 5 [v3] = some y3 from g3)
    simp only [List.cons.injEq, and_true] at e3
    have g4 : DataW.trod enc Try.prog w base spare held n 5 (([v0, v1, v2, v3, v4].drop (4 * Try.prog.cellsOf 5)).take (Try.prog.cellsOf 5)) = some y4 := hf 4 (by decide)
    rw [show Try.prog.cellsOf 5 = 1 by kernel_rfl] at g4
    obtain ⟨n4, e4, w4⟩ := of5 (show DataW.trod enc Try.prog w base spare held n 5 [v4] = some y4 from g4)
    simp only [List.cons.injEq, and_true] at e4
    subst e0
    subst e1
    subst e2
    subst e3
    subst e4
    exact ⟨n0, n1, n2, n3, n4, rfl, w0, w1, w2, w3, w4⟩

set_option maxRecDepth 100000 in
theorem of30 {cs : List Value} (h : DataW.trod enc Try.prog w base spare held fuel 30 cs = some x) : ∃ n0 : Int, ∃ n1 : Int, ∃ n2 : Int, cs = [.int .i64 n0, .int .i64 n1, .int .i64 n2] ∧ (Lit.int .i64 n0).wf = true ∧ (Lit.int .i64 n1).wf = true ∧ (Lit.int .i64 n2).wf = true := by
  obtain ⟨xs, n, rfl, rfl, hl, hlen, hf⟩ := DataW.trod_array Try.underlying30 h
  rw [show Try.prog.cellsOf 30 = 3 by kernel_rfl] at hl
  match xs, hlen, cs, hl with
  | [y0, y1, y2], _, [v0, v1, v2], _ =>
    have g0 : DataW.trod enc Try.prog w base spare held n 3 (([v0, v1, v2].drop (0 * Try.prog.cellsOf 3)).take (Try.prog.cellsOf 3)) = some y0 := hf 0 (by decide)
    rw [show Try.prog.cellsOf 3 = 1 by kernel_rfl] at g0
    obtain ⟨n0, e0, w0⟩ := of3 (show DataW.trod enc Try.prog w base spare held n 3 [v0] = some y0 from g0)
    simp only [List.cons.injEq, and_true] at e0
    have g1 : DataW.trod enc Try.prog w base spare held n 3 (([v0, v1, v2].drop (1 * Try.prog.cellsOf 3)).take (Try.prog.cellsOf 3)) = some y1 := hf 1 (by decide)
    rw [show Try.prog.cellsOf 3 = 1 by kernel_rfl] at g1
    obtain ⟨n1, e1, w1⟩ := of3 (show DataW.trod enc Try.prog w base spare held n 3 [v1] = some y1 from g1)
    simp only [List.cons.injEq, and_true] at e1
    have g2 : DataW.trod enc Try.prog w base spare held n 3 (([v0, v1, v2].drop (2 * Try.prog.cellsOf 3)).take (Try.prog.cellsOf 3)) = some y2 := hf 2 (by decide)
    rw [show Try.prog.cellsOf 3 = 1 by kernel_rfl] at g2
    obtain ⟨n2, e2, w2⟩ := of3 (show DataW.trod enc Try.prog w base spare held n 3 [v2] = some y2 from g2)
    simp only [List.cons.injEq, and_true] at e2
    subst e0
    subst e1
    subst e2
    exact ⟨n0, n1, n2, rfl, w0, w1, w2⟩

set_option maxRecDepth 100000 in
theorem of32 {cs : List Value} (h : DataW.trod enc Try.prog w base spare held fuel 32 cs = some x) : ∃ n0 : Int, ∃ n1 : Int, ∃ n2 : Int, ∃ n3 : Int, ∃ n4 : Int, ∃ n5 : Int, ∃ n6 : Int, ∃ n7 : Int, ∃ n8 : Int, ∃ n9 : Int, cs = [.int .i64 n0, .int .i64 n1, .int .u8 n2, .int .u8 n3, .int .u8 n4, .int .u8 n5, .int .u8 n6, .int .i64 n7, .int .i64 n8, .int .i64 n9] ∧ (Lit.int .i64 n0).wf = true ∧ (Lit.int .i64 n1).wf = true ∧ (Lit.int .u8 n2).wf = true ∧ (Lit.int .u8 n3).wf = true ∧ (Lit.int .u8 n4).wf = true ∧ (Lit.int .u8 n5).wf = true ∧ (Lit.int .u8 n6).wf = true ∧ (Lit.int .i64 n7).wf = true ∧ (Lit.int .i64 n8).wf = true ∧ (Lit.int .i64 n9).wf = true := by
  obtain ⟨xs, n, rfl, rfl, hl, hlen, hf⟩ := DataW.trod_struct Try.underlying32 h
  rw [show Try.prog.cellsOf 32 = 10 by kernel_rfl] at hl
  match xs, hlen, cs, hl with
  | [y0, y1, y2, y3], _, [v0, v1, v2, v3, v4, v5, v6, v7, v8, v9], _ =>
    have g0 : DataW.trod enc Try.prog w base spare held n 3 (([v0, v1, v2, v3, v4, v5, v6, v7, v8, v9].drop 0).take (Try.prog.cellsOf 3)) = some y0 := hf 0 _ rfl
    rw [show Try.prog.cellsOf 3 = 1 by kernel_rfl] at g0
    obtain ⟨n0, e0, w0⟩ := of3 (show DataW.trod enc Try.prog w base spare held n 3 [v0] = some y0 from g0)
    simp only [List.cons.injEq, and_true] at e0
    have g1 : DataW.trod enc Try.prog w base spare held n 3 (([v0, v1, v2, v3, v4, v5, v6, v7, v8, v9].drop 1).take (Try.prog.cellsOf 3)) = some y1 := hf 1 _ rfl
    rw [show Try.prog.cellsOf 3 = 1 by kernel_rfl] at g1
    obtain ⟨n1, e1, w1⟩ := of3 (show DataW.trod enc Try.prog w base spare held n 3 [v1] = some y1 from g1)
    simp only [List.cons.injEq, and_true] at e1
    have g2 : DataW.trod enc Try.prog w base spare held n 29 (([v0, v1, v2, v3, v4, v5, v6, v7, v8, v9].drop 2).take (Try.prog.cellsOf 29)) = some y2 := hf 2 _ rfl
    rw [show Try.prog.cellsOf 29 = 5 by kernel_rfl] at g2
    obtain ⟨n2, n3, n4, n5, n6, e2, w2, w3, w4, w5, w6⟩ := of29 (show DataW.trod enc Try.prog w base spare held n 29 [v2, v3, v4, v5, v6] = some y2 from g2)
    simp only [List.cons.injEq, and_true] at e2
    have g3 : DataW.trod enc Try.prog w base spare held n 30 (([v0, v1, v2, v3, v4, v5, v6, v7, v8, v9].drop 7).take (Try.prog.cellsOf 30)) = some y3 := hf 3 _ rfl
    rw [show Try.prog.cellsOf 30 = 3 by kernel_rfl] at g3
    obtain ⟨n7, n8, n9, e3, w7, w8, w9⟩ := of30 (show DataW.trod enc Try.prog w base spare held n 30 [v7, v8, v9] = some y3 from g3)
    simp only [List.cons.injEq, and_true] at e3
    subst e0
    subst e1
    obtain ⟨rfl, rfl, rfl, rfl, rfl⟩ := e2
    obtain ⟨rfl, rfl, rfl⟩ := e3
    exact ⟨n0, n1, n2, n3, n4, n5, n6, n7, n8, n9, rfl, w0, w1, w2, w3, w4, w5, w6, w7, w8, w9⟩

abbrev T : TypeId := 32
theorem of {cs : List Value} (h : DataW.trod enc Try.prog w base spare held fuel 32 cs = some x) : ∃ n0 : Int, ∃ n1 : Int, ∃ n2 : Int, ∃ n3 : Int, ∃ n4 : Int, ∃ n5 : Int, ∃ n6 : Int, ∃ n7 : Int, ∃ n8 : Int, ∃ n9 : Int, cs = [.int .i64 n0, .int .i64 n1, .int .u8 n2, .int .u8 n3, .int .u8 n4, .int .u8 n5, .int .u8 n6, .int .i64 n7, .int .i64 n8, .int .i64 n9] ∧ (Lit.int .i64 n0).wf = true ∧ (Lit.int .i64 n1).wf = true ∧ (Lit.int .u8 n2).wf = true ∧ (Lit.int .u8 n3).wf = true ∧ (Lit.int .u8 n4).wf = true ∧ (Lit.int .u8 n5).wf = true ∧ (Lit.int .u8 n6).wf = true ∧ (Lit.int .i64 n7).wf = true ∧ (Lit.int .i64 n8).wf = true ∧ (Lit.int .i64 n9).wf = true := of32 h
end
end Go.Proofs.Ytkondnlilkpdoaa.RowAct
