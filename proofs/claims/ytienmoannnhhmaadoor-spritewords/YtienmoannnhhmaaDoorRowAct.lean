/- What a row of cells is that reads as a woodgrain/woodgrainlaw16.Act. -/
import Derived.Test.YtienmoannnhhmaaDoorRows
import Derived.WalkKit
import Derived.ProofKit
import Derived.OpenShut
namespace Go.Proofs.YtienmoannnhhmaaDoor.RowAct
open Go.ChangeShapes Go.WideShapes Go.ChangeAt Go.RowKit
set_option linter.unusedVariables false

section
variable {H : Type} {enc : TypeId × Value → H} {w : World} {base : Nat} {spare : Nat → Bool} {held : Bool} {fuel : Nat} {x : DataW H × List MemPlace}

theorem of3 {cs : List Value} (h : DataW.trod enc Tryd.prog w base spare held fuel 3 cs = some x) : ∃ n0 : Int, cs = [.int .i64 n0] ∧ (Lit.int .i64 n0).wf = true := by
  obtain ⟨n, e1, rfl, w1⟩ := DataW.trod_int Tryd.underlying3 h
  exact ⟨n, e1, w1⟩

theorem of28 {cs : List Value} (h : DataW.trod enc Tryd.prog w base spare held fuel 28 cs = some x) : ∃ n0 : Int, cs = [.int .u16 n0] ∧ (Lit.int .u16 n0).wf = true := by
  obtain ⟨n, e1, rfl, w1⟩ := DataW.trod_int Tryd.underlying28 h
  exact ⟨n, e1, w1⟩

theorem of5 {cs : List Value} (h : DataW.trod enc Tryd.prog w base spare held fuel 5 cs = some x) : ∃ n0 : Int, cs = [.int .u8 n0] ∧ (Lit.int .u8 n0).wf = true := by
  obtain ⟨n, e1, rfl, w1⟩ := DataW.trod_int Tryd.underlying5 h
  exact ⟨n, e1, w1⟩

set_option maxRecDepth 100000 in
theorem of29 {cs : List Value} (h : DataW.trod enc Tryd.prog w base spare held fuel 29 cs = some x) : ∃ n0 : Int, ∃ n1 : Int, ∃ n2 : Int, cs = [.int .i64 n0, .int .i64 n1, .int .i64 n2] ∧ (Lit.int .i64 n0).wf = true ∧ (Lit.int .i64 n1).wf = true ∧ (Lit.int .i64 n2).wf = true := by
  obtain ⟨xs, n, rfl, rfl, hl, hlen, hf⟩ := DataW.trod_array Tryd.underlying29 h
  rw [show Tryd.prog.cellsOf 29 = 3 by kernel_rfl] at hl
  match xs, hlen, cs, hl with
  | [y0, y1, y2], _, [v0, v1, v2], _ =>
    have g0 : DataW.trod enc Tryd.prog w base spare held n 3 (([v0, v1, v2].drop (0 * Tryd.prog.cellsOf 3)).take (Tryd.prog.cellsOf 3)) = some y0 := hf 0 (by decide)
    rw [show Tryd.prog.cellsOf 3 = 1 by kernel_rfl] at g0
    obtain ⟨n0, e0, w0⟩ := of3 (show DataW.trod enc Tryd.prog w base spare held n 3 [v0] = some y0 from g0)
    simp only [List.cons.injEq, and_true] at e0
    have g1 : DataW.trod enc Tryd.prog w base spare held n 3 (([v0, v1, v2].drop (1 * Tryd.prog.cellsOf 3)).take (Tryd.prog.cellsOf 3)) = some y1 := hf 1 (by decide)
    rw [show Tryd.prog.cellsOf 3 = 1 by kernel_rfl] at g1
    obtain ⟨n1, e1, w1⟩ := of3 (show DataW.trod enc Tryd.prog w base spare held n 3 [v1] = some y1 from g1)
    simp only [List.cons.injEq, and_true] at e1
    have g2 : DataW.trod enc Tryd.prog w base spare held n 3 (([v0, v1, v2].drop (2 * Tryd.prog.cellsOf 3)).take (Tryd.prog.cellsOf 3)) = some y2 := hf 2 (by decide)
    rw [show Tryd.prog.cellsOf 3 = 1 by kernel_rfl] at g2
    obtain ⟨n2, e2, w2⟩ := of3 (show DataW.trod enc Tryd.prog w base spare held n 3 [v2] = some y2 from g2)
    simp only [List.cons.injEq, and_true] at e2
    subst e0
    subst e1
    subst e2
    exact ⟨n0, n1, n2, rfl, w0, w1, w2⟩

set_option maxRecDepth 100000 in
theorem of31 {cs : List Value} (h : DataW.trod enc Tryd.prog w base spare held fuel 31 cs = some x) : ∃ n0 : Int, ∃ n1 : Int, ∃ n2 : Int, ∃ n3 : Int, ∃ n4 : Int, ∃ n5 : Int, ∃ n6 : Int, cs = [.int .i64 n0, .int .u16 n1, .int .u8 n2, .int .i64 n3, .int .i64 n4, .int .i64 n5, .int .i64 n6] ∧ (Lit.int .i64 n0).wf = true ∧ (Lit.int .u16 n1).wf = true ∧ (Lit.int .u8 n2).wf = true ∧ (Lit.int .i64 n3).wf = true ∧ (Lit.int .i64 n4).wf = true ∧ (Lit.int .i64 n5).wf = true ∧ (Lit.int .i64 n6).wf = true := by
  obtain ⟨xs, n, rfl, rfl, hl, hlen, hf⟩ := DataW.trod_struct Tryd.underlying31 h
  rw [show Tryd.prog.cellsOf 31 = 7 by kernel_rfl] at hl
  match xs, hlen, cs, hl with
  | [y0, y1, y2, y3, y4], _, [v0, v1, v2, v3, v4, v5, v6], _ =>
    have g0 : DataW.trod enc Tryd.prog w base spare held n 3 (([v0, v1, v2, v3, v4, v5, v6].drop 0).take (Tryd.prog.cellsOf 3)) = some y0 := hf 0 _ rfl
    rw [show Tryd.prog.cellsOf 3 = 1 by kernel_rfl] at g0
    obtain ⟨n0, e0, w0⟩ := of3 (show DataW.trod enc Tryd.prog w base spare held n 3 [v0] = some y0 from g0)
    simp only [List.cons.injEq, and_true] at e0
    have g1 : DataW.trod enc Tryd.prog w base spare held n 28 (([v0, v1, v2, v3, v4, v5, v6].drop 1).take (Tryd.prog.cellsOf 28)) = some y1 := hf 1 _ rfl
    rw [show Tryd.prog.cellsOf 28 = 1 by kernel_rfl] at g1
    obtain ⟨n1, e1, w1⟩ := of28 (show DataW.trod enc Tryd.prog w base spare held n 28 [v1] = some y1 from g1)
    simp only [List.cons.injEq, and_true] at e1
    have g2 : DataW.trod enc Tryd.prog w base spare held n 5 (([v0, v1, v2, v3, v4, v5, v6].drop 2).take (Tryd.prog.cellsOf 5)) = some y2 := hf 2 _ rfl
    rw [show Tryd.prog.cellsOf 5 = 1 by kernel_rfl] at g2
    obtain ⟨n2, e2, w2⟩ := of5 (show DataW.trod enc Tryd.prog w base spare held n 5 [v2] = some y2 from g2)
    simp only [List.cons.injEq, and_true] at e2
    have g3 : DataW.trod enc Tryd.prog w base spare held n 3 (([v0, v1, v2, v3, v4, v5, v6].drop 3).take (Tryd.prog.cellsOf 3)) = some y3 := hf 3 _ rfl
    rw [show Tryd.prog.cellsOf 3 = 1 by kernel_rfl] at g3
    obtain ⟨n3, e3, w3⟩ := of3 (show DataW.trod enc Tryd.prog w base spare held n 3 [v3] = some y3 from g3)
    simp only [List.cons.injEq, and_true] at e3
    have g4 : DataW.trod enc Tryd.prog w base spare held n 29 (([v0, v1, v2, v3, v4, v5, v6].drop 4).take (Tryd.prog.cellsOf 29)) = some y4 := hf 4 _ rfl
    rw [show Tryd.prog.cellsOf 29 = 3 by kernel_rfl] at g4
    obtain ⟨n4, n5, n6, e4, w4, w5, w6⟩ := of29 (show DataW.trod enc Tryd.prog w base spare held n 29 [v4, v5, v6] = some y4 from g4)
    simp only [List.cons.injEq, and_true] at e4
    subst e0
    subst e1
    subst e2
    subst e3
    obtain ⟨rfl, rfl, rfl⟩ := e4
    exact ⟨n0, n1, n2, n3, n4, n5, n6, rfl, w0, w1, w2, w3, w4, w5, w6⟩

abbrev T : TypeId := 31
theorem of {cs : List Value} (h : DataW.trod enc Tryd.prog w base spare held fuel 31 cs = some x) : ∃ n0 : Int, ∃ n1 : Int, ∃ n2 : Int, ∃ n3 : Int, ∃ n4 : Int, ∃ n5 : Int, ∃ n6 : Int, cs = [.int .i64 n0, .int .u16 n1, .int .u8 n2, .int .i64 n3, .int .i64 n4, .int .i64 n5, .int .i64 n6] ∧ (Lit.int .i64 n0).wf = true ∧ (Lit.int .u16 n1).wf = true ∧ (Lit.int .u8 n2).wf = true ∧ (Lit.int .i64 n3).wf = true ∧ (Lit.int .i64 n4).wf = true ∧ (Lit.int .i64 n5).wf = true ∧ (Lit.int .i64 n6).wf = true := of31 h
end
end Go.Proofs.YtienmoannnhhmaaDoor.RowAct
