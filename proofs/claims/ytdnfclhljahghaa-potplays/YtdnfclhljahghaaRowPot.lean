/- What a row of cells is that reads as a woodgrain/woodgrainlaw20.Act. -/
import Derived.Test.YtdnfclhljahghaaRows
import Derived.WalkKit
import Derived.ProofKit
import Derived.OpenShut
namespace Go.Proofs.Ytdnfclhljahghaa.RowPot
open Go.ChangeShapes Go.WideShapes Go.ChangeAt Go.RowKit
set_option linter.unusedVariables false

section
variable {H : Type} {enc : TypeId × Value → H} {w : World} {base : Nat} {spare : Nat → Bool} {held : Bool} {fuel : Nat} {x : DataW H × List MemPlace}

theorem of3 {cs : List Value} (h : DataW.trod enc Try.prog w base spare held fuel 3 cs = some x) : ∃ n0 : Int, cs = [.int .i64 n0] ∧ (Lit.int .i64 n0).wf = true := by
  obtain ⟨n, e1, rfl, w1⟩ := DataW.trod_int Try.underlying3 h
  exact ⟨n, e1, w1⟩

theorem of5 {cs : List Value} (h : DataW.trod enc Try.prog w base spare held fuel 5 cs = some x) : ∃ n0 : Int, cs = [.int .u8 n0] ∧ (Lit.int .u8 n0).wf = true := by
  obtain ⟨n, e1, rfl, w1⟩ := DataW.trod_int Try.underlying5 h
  exact ⟨n, e1, w1⟩

theorem of29 {cs : List Value} (h : DataW.trod enc Try.prog w base spare held fuel 29 cs = some x) : ∃ n0 : Int, cs = [.int .u16 n0] ∧ (Lit.int .u16 n0).wf = true := by
  obtain ⟨n, e1, rfl, w1⟩ := DataW.trod_int Try.underlying29 h
  exact ⟨n, e1, w1⟩

theorem of4 {cs : List Value} (h : DataW.trod enc Try.prog w base spare held fuel 4 cs = some x) : ∃ n0 : Bool, cs = [.bool n0] ∧ True := by
  obtain ⟨n, e1, rfl⟩ := DataW.trod_bool Try.underlying4 h
  exact ⟨n, e1, trivial⟩

set_option maxRecDepth 100000 in
theorem of55 {cs : List Value} (h : DataW.trod enc Try.prog w base spare held fuel 55 cs = some x) : ∃ n0 : Int, ∃ n1 : Int, ∃ n2 : Int, ∃ n3 : Int, ∃ n4 : Int, ∃ n5 : Int, ∃ n6 : Int, ∃ n7 : Int, ∃ n8 : Int, ∃ n9 : Int, ∃ n10 : Int, cs = [.int .i64 n0, .int .i64 n1, .int .i64 n2, .int .i64 n3, .int .i64 n4, .int .i64 n5, .int .i64 n6, .int .i64 n7, .int .i64 n8, .int .i64 n9, .int .i64 n10] ∧ (Lit.int .i64 n0).wf = true ∧ (Lit.int .i64 n1).wf = true ∧ (Lit.int .i64 n2).wf = true ∧ (Lit.int .i64 n3).wf = true ∧ (Lit.int .i64 n4).wf = true ∧ (Lit.int .i64 n5).wf = true ∧ (Lit.int .i64 n6).wf = true ∧ (Lit.int .i64 n7).wf = true ∧ (Lit.int .i64 n8).wf = true ∧ (Lit.int .i64 n9).wf = true ∧ (Lit.int .i64 n10).wf = true := by
  obtain ⟨xs, n, rfl, rfl, hl, hlen, hf⟩ := DataW.trod_array Try.underlying55 h
  rw [show Try.prog.cellsOf 55 = 11 by kernel_rfl] at hl
  match xs, hlen, cs, hl with
  | [y0, y1, y2, y3, y4, y5, y6, y7, y8, y9, y10], _, [v0, v1, v2, v3, v4, v5, v6, v7, v8, v9, v10], _ =>
    have g0 : DataW.trod enc Try.prog w base spare held n 3 (([v0, v1, v2, v3, v4, v5, v6, v7, v8, v9, v10].drop (0 * Try.prog.cellsOf 3)).take (Try.prog.cellsOf 3)) = some y0 := hf 0 (by decide)
    rw [show Try.prog.cellsOf 3 = 1 by kernel_rfl] at g0
    obtain ⟨n0, e0, w0⟩ := of3 (show DataW.trod enc Try.prog w base spare held n 3 [v0] = some y0 from g0)
    simp only [List.cons.injEq, and_true] at e0
    have g1 : DataW.trod enc Try.prog w base spare held n 3 (([v0, v1, v2, v3, v4, v5, v6, v7, v8, v9, v10].drop (1 * Try.prog.cellsOf 3)).take (Try.prog.cellsOf 3)) = some y1 := hf 1 (by decide)
    rw [show Try.prog.cellsOf 3 = 1 by kernel_rfl] at g1
    obtain ⟨n1, e1, w1⟩ := of3 (show DataW.trod enc Try.prog w base spare held n 3 [v1] = some y1 from g1)
    simp only [List.cons.injEq, and_true] at e1
    have g2 : DataW.trod enc Try.prog w base spare held n 3 (([v0, v1, v2, v3, v4, v5, v6, v7, v8, v9, v10].drop (2 * Try.prog.cellsOf 3)).take (Try.prog.cellsOf 3)) = some y2 := hf 2 (by decide)
    rw [show Try.prog.cellsOf 3 = 1 by kernel_rfl] at g2
    obtain ⟨n2, e2, w2⟩ := of3 (show DataW.trod enc Try.prog w base spare held n 3 [v2] = some y2 from g2)
    simp only [List.cons.injEq, and_true] at e2
    have g3 : DataW.trod enc Try.prog w base spare held n 3 (([v0, v1, v2, v3, v4, v5, v6, v7, v8, v9, v10].drop (3 * Try.prog.cellsOf 3)).take (Try.prog.cellsOf 3)) = some y3 := hf 3 (by decide)
    rw [show Try.prog.cellsOf 3 = 1 by kernel_rfl] at g3
    obtain ⟨n3, e3, w3⟩ := of3 (show DataW.trod enc Try.prog w base spare held n 3 [v3] = some y3 from g3)
    simp only [List.cons.injEq, and_true] at e3
    have g4 : DataW.trod enc Try.prog w base spare held n 3 (([v0, v1, v2, v3, v4, v5, v6, v7, v8, v9, v10].drop (4 * Try.prog.cellsOf 3)).take (Try.prog.cellsOf 3)) = some y4 := hf 4 (by decide)
    rw [show Try.prog.cellsOf 3 = 1 by kernel_rfl] at g4
    obtain ⟨n4, e4, w4⟩ := of3 (show DataW.trod enc Try.prog w base spare held n 3 [v4] = some y4 from g4)
    simp only [List.cons.injEq, and_true] at e4
    have g5 : DataW.trod enc Try.prog w base spare held n 3 (([v0, v1, v2, v3, v4, v5, v6, v7, v8, v9, v10].drop (5 * Try.prog.cellsOf 3)).take (Try.prog.cellsOf 3)) = some y5 := hf 5 (by decide)
    rw [show Try.prog.cellsOf 3 = 1 by kernel_rfl] at g5
    obtain ⟨n5, e5, w5⟩ := of3 (show DataW.trod enc Try.prog w base spare held n 3 [v5] = some y5 from g5)
    simp only [List.cons.injEq, and_true] at e5
    have g6 : DataW.trod enc Try.prog w base spare held n 3 (([v0, v1, v2, v3, v4, v5, v6, v7, v8, v9, v10].drop (6 * Try.prog.cellsOf 3)).take (Try.prog.cellsOf 3)) = some y6 := hf 6 (by decide)
    rw [show Try.prog.cellsOf 3 = 1 by kernel_rfl] at g6
    obtain ⟨n6, e6, w6⟩ := of3 (show DataW.trod enc Try.prog w base spare held n 3 [v6] = some y6 from g6)
    simp only [List.cons.injEq, and_true] at e6
    have g7 : DataW.trod enc Try.prog w base spare held n 3 (([v0, v1, v2, v3, v4, v5, v6, v7, v8, v9, v10].drop (7 * Try.prog.cellsOf 3)).take (Try.prog.cellsOf 3)) = some y7 := hf 7 (by decide)
    rw [show Try.prog.cellsOf 3 = 1 by kernel_rfl] at g7
    obtain ⟨n7, e7, w7⟩ := of3 (show DataW.trod enc Try.prog w base spare held n 3 [v7] = some y7 from g7)
    simp only [List.cons.injEq, and_true] at e7
    have g8 : DataW.trod enc Try.prog w base spare held n 3 (([v0, v1, v2, v3, v4, v5, v6, v7, v8, v9, v10].drop (8 * Try.prog.cellsOf 3)).take (Try.prog.cellsOf 3)) = some y8 := hf 8 (by decide)
    rw [show Try.prog.cellsOf 3 = 1 by kernel_rfl] at g8
    obtain ⟨n8, e8, w8⟩ := of3 (show DataW.trod enc Try.prog w base spare held n 3 [v8] = some y8 from g8)
    simp only [List.cons.injEq, and_true] at e8
    have g9 : DataW.trod enc Try.prog w base spare held n 3 (([v0, v1, v2, v3, v4, v5, v6, v7, v8, v9, v10].drop (9 * Try.prog.cellsOf 3)).take (Try.prog.cellsOf 3)) = some y9 := hf 9 (by decide)
    rw [show Try.prog.cellsOf 3 = 1 by kernel_rfl] at g9
    obtain ⟨n9, e9, w9⟩ := of3 (show DataW.trod enc Try.prog w base spare held n 3 [v9] = some y9 from g9)
    simp only [List.cons.injEq, and_true] at e9
    have g10 : DataW.trod enc Try.prog w base spare held n 3 (([v0, v1, v2, v3, v4, v5, v6, v7, v8, v9, v10].drop (10 * Try.prog.cellsOf 3)).take (Try.prog.cellsOf 3)) = some y10 := hf 10 (by decide)
    rw [show Try.prog.cellsOf 3 = 1 by kernel_rfl] at g10
    obtain ⟨n10, e10, w10⟩ := of3 (show DataW.trod enc Try.prog w base spare held n 3 [v10] = some y10 from g10)
    simp only [List.cons.injEq, and_true] at e10
    subst e0
    subst e1
    subst e2
    subst e3
    subst e4
    subst e5
    subst e6
    subst e7
    subst e8
    subst e9
    subst e10
    exact ⟨n0, n1, n2, n3, n4, n5, n6, n7, n8, n9, n10, rfl, w0, w1, w2, w3, w4, w5, w6, w7, w8, w9, w10⟩

set_option maxRecDepth 100000 in
theorem of57 {cs : List Value} (h : DataW.trod enc Try.prog w base spare held fuel 57 cs = some x) : ∃ n0 : Int, ∃ n1 : Int, ∃ n2 : Int, ∃ n3 : Int, ∃ n4 : Bool, ∃ n5 : Int, ∃ n6 : Int, ∃ n7 : Int, ∃ n8 : Int, ∃ n9 : Int, ∃ n10 : Int, ∃ n11 : Int, ∃ n12 : Int, ∃ n13 : Int, ∃ n14 : Int, ∃ n15 : Int, cs = [.int .i64 n0, .int .i64 n1, .int .u8 n2, .int .u16 n3, .bool n4, .int .i64 n5, .int .i64 n6, .int .i64 n7, .int .i64 n8, .int .i64 n9, .int .i64 n10, .int .i64 n11, .int .i64 n12, .int .i64 n13, .int .i64 n14, .int .i64 n15] ∧ (Lit.int .i64 n0).wf = true ∧ (Lit.int .i64 n1).wf = true ∧ (Lit.int .u8 n2).wf = true ∧ (Lit.int .u16 n3).wf = true ∧ True ∧ (Lit.int .i64 n5).wf = true ∧ (Lit.int .i64 n6).wf = true ∧ (Lit.int .i64 n7).wf = true ∧ (Lit.int .i64 n8).wf = true ∧ (Lit.int .i64 n9).wf = true ∧ (Lit.int .i64 n10).wf = true ∧ (Lit.int .i64 n11).wf = true ∧ (Lit.int .i64 n12).wf = true ∧ (Lit.int .i64 n13).wf = true ∧ (Lit.int .i64 n14).wf = true ∧ (Lit.int .i64 n15).wf = true := by
  obtain ⟨xs, n, rfl, rfl, hl, hlen, hf⟩ := DataW.trod_struct Try.underlying57 h
  rw [show Try.prog.cellsOf 57 = 16 by kernel_rfl] at hl
  match xs, hlen, cs, hl with
  | [y0, y1, y2, y3, y4, y5], _, [v0, v1, v2, v3, v4, v5, v6, v7, v8, v9, v10, v11, v12, v13, v14, v15], _ =>
    have g0 : DataW.trod enc Try.prog w base spare held n 3 (([v0, v1, v2, v3, v4, v5, v6, v7, v8, v9, v10, v11, v12, v13, v14, v15].drop 0).take (Try.prog.cellsOf 3)) = some y0 := hf 0 _ rfl
    rw [show Try.prog.cellsOf 3 = 1 by kernel_rfl] at g0
    obtain ⟨n0, e0, w0⟩ := of3 (show DataW.trod enc Try.prog w base spare held n 3 [v0] = some y0 from g0)
    simp only [List.cons.injEq, and_true] at e0
    have g1 : DataW.trod enc Try.prog w base spare held n 3 (([v0, v1, v2, v3, v4, v5, v6, v7, v8, v9, v10, v11, v12, v13, v14, v15].drop 1).take (Try.prog.cellsOf 3)) = some y1 := hf 1 _ rfl
    rw [show Try.prog.cellsOf 3 = 1 by kernel_rfl] at g1
    obtain ⟨n1, e1, w1⟩ := of3 (show DataW.trod enc Try.prog w base spare held n 3 [v1] = some y1 from g1)
    simp only [List.cons.injEq, and_true] at e1
    have g2 : DataW.trod enc Try.prog w base spare held n 5 (([v0, v1, v2, v3, v4, v5, v6, v7, v8, v9, v10, v11, v12, v13, v14, v15].drop 2).take (Try.prog.cellsOf 5)) = some y2 := hf 2 _ rfl
    rw [show Try.prog.cellsOf 5 = 1 by kernel_rfl] at g2
    obtain ⟨n2, e2, w2⟩ := of5 (show DataW.trod enc Try.prog w base spare held n 5 [v2] = some y2 from g2)
    simp only [List.cons.injEq, and_true] at e2
    have g3 : DataW.trod enc Try.prog w base spare held n 29 (([v0, v1, v2, v3, v4, v5, v6, v7, v8, v9, v10, v11, v12, v13, v14, v15].drop 3).take (Try.prog.cellsOf 29)) = some y3 := hf 3 _ rfl
    rw [show Try.prog.cellsOf 29 = 1 by kernel_rfl] at g3
    obtain ⟨n3, e3, w3⟩ := of29 (show DataW.trod enc Try.prog w base spare held n 29 [v3] = some y3 from g3)
    simp only [List.cons.injEq, and_true] at e3
    have g4 : DataW.trod enc Try.prog w base spare held n 4 (([v0, v1, v2, v3, v4, v5, v6, v7, v8, v9, v10, v11, v12, v13, v14, v15].drop 4).take (Try.prog.cellsOf 4)) = some y4 := hf 4 _ rfl
    rw [show Try.prog.cellsOf 4 = 1 by kernel_rfl] at g4
    obtain ⟨n4, e4, w4⟩ := of4 (show DataW.trod enc Try.prog w base spare held n 4 [v4] = some y4 from g4)
    simp only [List.cons.injEq, and_true] at e4
    have g5 : DataW.trod enc Try.prog w base spare held n 55 (([v0, v1, v2, v3, v4, v5, v6, v7, v8, v9, v10, v11, v12, v13, v14, v15].drop 5).take (Try.prog.cellsOf 55)) = some y5 := hf 5 _ rfl
    rw [show Try.prog.cellsOf 55 = 11 by kernel_rfl] at g5
    obtain ⟨n5, n6, n7, n8, n9, n10, n11, n12, n13, n14, n15, e5, w5, w6, w7, w8, w9, w10, w11, w12, w13, w14, w15⟩ := of55 (show DataW.trod enc Try.prog w base spare held n 55 [v5, v6, v7, v8, v9, v10, v11, v12, v13, v14, v15] = some y5 from g5)
    simp only [List.cons.injEq, and_true] at e5
    subst e0
    subst e1
    subst e2
    subst e3
    subst e4
    obtain ⟨rfl, rfl, rfl, rfl, rfl, rfl, rfl, rfl, rfl, rfl, rfl⟩ := e5
    exact ⟨n0, n1, n2, n3, n4, n5, n6, n7, n8, n9, n10, n11, n12, n13, n14, n15, rfl, w0, w1, w2, w3, w4, w5, w6, w7, w8, w9, w10, w11, w12, w13, w14, w15⟩

abbrev T : TypeId := 57
theorem of {cs : List Value} (h : DataW.trod enc Try.prog w base spare held fuel 57 cs = some x) : ∃ n0 : Int, ∃ n1 : Int, ∃ n2 : Int, ∃ n3 : Int, ∃ n4 : Bool, ∃ n5 : Int, ∃ n6 : Int, ∃ n7 : Int, ∃ n8 : Int, ∃ n9 : Int, ∃ n10 : Int, ∃ n11 : Int, ∃ n12 : Int, ∃ n13 : Int, ∃ n14 : Int, ∃ n15 : Int, cs = [.int .i64 n0, .int .i64 n1, .int .u8 n2, .int .u16 n3, .bool n4, .int .i64 n5, .int .i64 n6, .int .i64 n7, .int .i64 n8, .int .i64 n9, .int .i64 n10, .int .i64 n11, .int .i64 n12, .int .i64 n13, .int .i64 n14, .int .i64 n15] ∧ (Lit.int .i64 n0).wf = true ∧ (Lit.int .i64 n1).wf = true ∧ (Lit.int .u8 n2).wf = true ∧ (Lit.int .u16 n3).wf = true ∧ True ∧ (Lit.int .i64 n5).wf = true ∧ (Lit.int .i64 n6).wf = true ∧ (Lit.int .i64 n7).wf = true ∧ (Lit.int .i64 n8).wf = true ∧ (Lit.int .i64 n9).wf = true ∧ (Lit.int .i64 n10).wf = true ∧ (Lit.int .i64 n11).wf = true ∧ (Lit.int .i64 n12).wf = true ∧ (Lit.int .i64 n13).wf = true ∧ (Lit.int .i64 n14).wf = true ∧ (Lit.int .i64 n15).wf = true := of57 h
end
end Go.Proofs.Ytdnfclhljahghaa.RowPot
