/- The arguments of the field's laws, opened: three bytes, six dots, a graphic. -/
import Derived.Test.YtkondnlilkpdoaaDoorRows
import Derived.WalkKit
import Derived.ProofKit
import Derived.OpenShut
namespace Go.Proofs.YtkondnlilkpdoaaDoor.Fi
open Go.ChangeShapes Go.WideShapes Go.ChangeAt Go.RowKit

theorem open_pf {H : Type} {enc : TypeId × Value → H} {W : World} {r : Reach} {b0 base : Nat} {spare : Nat → Bool} {held : Bool} {v : Value} {d : DataW H} {p : List MemPlace}
    (hv : Value.okWide Tryd.prog W r b0 22 v) (h : DataW.Trod enc Tryd.prog W base spare held 22 v d p) :
    ∃ n0 n1 n2 : Int, v = .agg #[.int .u8 n0, .int .u8 n1, .int .u8 n2] ∧ (Lit.int .u8 n0).wf = true ∧ (Lit.int .u8 n1).wf = true ∧ (Lit.int .u8 n2).wf = true := by
  obtain ⟨cs, rfl, hsz⟩ : ∃ cs, v = .agg cs ∧ cs.size = Tryd.prog.cellsOf 22 := by
    simp only [Value.okWide, Tryd.underlying22] at hv
    obtain ⟨cs, h1, h2, _⟩ := hv
    exact ⟨cs, h1, h2⟩
  rw [show Tryd.prog.cellsOf 22 = 3 by kernel_rfl] at hsz
  obtain ⟨l⟩ := cs
  match l, hsz with
  | [c0, c1, c2], _ =>
    obtain ⟨fuel, hf⟩ := h
    obtain ⟨xs, m, _, _, _, hl, hx⟩ := DataW.trod_array Tryd.underlying22 hf
    match xs, hl with
    | [y0, y1, y2], _ =>
      have z : Tryd.prog.cellsOf 5 = 1 := by kernel_rfl
      have g0 := hx 0 (by omega)
      have g1 := hx 1 (by omega)
      have g2 := hx 2 (by omega)
      simp [Value.cells, z] at g0 g1 g2
      obtain ⟨n0, e0, _, w0⟩ := DataW.trod_int Tryd.underlying5 g0
      obtain ⟨n1, e1, _, w1⟩ := DataW.trod_int Tryd.underlying5 g1
      obtain ⟨n2, e2, _, w2⟩ := DataW.trod_int Tryd.underlying5 g2
      simp at e0 e1 e2
      subst e0 e1 e2
      exact ⟨n0, n1, n2, rfl, w0, w1, w2⟩

theorem open_dots {H : Type} {enc : TypeId × Value → H} {W : World} {r : Reach} {b0 base : Nat} {spare : Nat → Bool} {held : Bool} {v : Value} {d : DataW H} {p : List MemPlace}
    (hv : Value.okWide Tryd.prog W r b0 26 v) (h : DataW.Trod enc Tryd.prog W base spare held 26 v d p) :
    ∃ n0 n1 n2 n3 n4 n5 : Bool, v = .agg #[.bool n0, .bool n1, .bool n2, .bool n3, .bool n4, .bool n5] := by
  obtain ⟨cs, rfl, hsz⟩ : ∃ cs, v = .agg cs ∧ cs.size = Tryd.prog.cellsOf 26 := by
    simp only [Value.okWide, Tryd.underlying26] at hv
    obtain ⟨cs, h1, h2, _⟩ := hv
    exact ⟨cs, h1, h2⟩
  rw [show Tryd.prog.cellsOf 26 = 6 by kernel_rfl] at hsz
  obtain ⟨l⟩ := cs
  match l, hsz with
  | [c0, c1, c2, c3, c4, c5], _ =>
    obtain ⟨fuel, hf⟩ := h
    obtain ⟨xs, m, _, _, _, hl, hx⟩ := DataW.trod_array Tryd.underlying26 hf
    match xs, hl with
    | [y0, y1, y2, y3, y4, y5], _ =>
      have z : Tryd.prog.cellsOf 4 = 1 := by kernel_rfl
      have g0 := hx 0 (by omega)
      have g1 := hx 1 (by omega)
      have g2 := hx 2 (by omega)
      have g3 := hx 3 (by omega)
      have g4 := hx 4 (by omega)
      have g5 := hx 5 (by omega)
      simp [Value.cells, z] at g0 g1 g2 g3 g4 g5
      obtain ⟨n0, e0, _⟩ := DataW.trod_bool Tryd.underlying4 g0
      obtain ⟨n1, e1, _⟩ := DataW.trod_bool Tryd.underlying4 g1
      obtain ⟨n2, e2, _⟩ := DataW.trod_bool Tryd.underlying4 g2
      obtain ⟨n3, e3, _⟩ := DataW.trod_bool Tryd.underlying4 g3
      obtain ⟨n4, e4, _⟩ := DataW.trod_bool Tryd.underlying4 g4
      obtain ⟨n5, e5, _⟩ := DataW.trod_bool Tryd.underlying4 g5
      simp at e0 e1 e2 e3 e4 e5
      subst e0 e1 e2 e3 e4 e5
      exact ⟨n0, n1, n2, n3, n4, n5, rfl⟩

theorem open_graphic {H : Type} {enc : TypeId × Value → H} {W : World} {r : Reach} {b0 base : Nat} {spare : Nat → Bool} {held : Bool} {v : Value} {d : DataW H} {p : List MemPlace}
    (hv : Value.okWide Tryd.prog W r b0 37 v) (h : DataW.Trod enc Tryd.prog W base spare held 37 v d p) :
    ∃ (n0 : Int) (n1 : Bool) (n2 n3 : Int), v = .agg #[.int .u8 n0, .bool n1, .int .i64 n2, .int .i64 n3] ∧ (Lit.int .u8 n0).wf = true ∧ (Lit.int .i64 n2).wf = true ∧ (Lit.int .i64 n3).wf = true := by
  obtain ⟨cs, rfl, hsz⟩ := okWide_struct Tryd.underlying37 hv
  rw [show Tryd.prog.cellsOf 37 = 4 by kernel_rfl] at hsz
  obtain ⟨l⟩ := cs
  match l, hsz with
  | [c0, c1, c2, c3], _ =>
    obtain ⟨fuel, hf⟩ := h
    obtain ⟨xs, m, _, _, _, hl, hx⟩ := DataW.trod_struct Tryd.underlying37 hf
    match xs, hl with
    | [y0, y1, y2, y3], _ =>
      have z5 : Tryd.prog.cellsOf 5 = 1 := by kernel_rfl
      have z4 : Tryd.prog.cellsOf 4 = 1 := by kernel_rfl
      have z3 : Tryd.prog.cellsOf 3 = 1 := by kernel_rfl
      have g0 := hx 0 _ rfl
      have g1 := hx 1 _ rfl
      have g2 := hx 2 _ rfl
      have g3 := hx 3 _ rfl
      simp [Value.cells, z5, z4, z3] at g0 g1 g2 g3
      obtain ⟨n0, e0, _, w0⟩ := DataW.trod_int Tryd.underlying5 g0
      obtain ⟨n1, e1, _⟩ := DataW.trod_bool Tryd.underlying4 g1
      obtain ⟨n2, e2, _, w2⟩ := DataW.trod_int Tryd.underlying3 g2
      obtain ⟨n3, e3, _, w3⟩ := DataW.trod_int Tryd.underlying3 g3
      simp at e0 e1 e2 e3
      subst e0 e1 e2 e3
      exact ⟨n0, n1, n2, n3, rfl, w0, w2, w3⟩

end Go.Proofs.YtkondnlilkpdoaaDoor.Fi
