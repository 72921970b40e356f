/- The table as it is laid. -/
import Derived.Test.YtcohalkofahphaaDoorImg
import Derived.LaidMore
import Derived.Stop.Joined
namespace Go.Proofs.YtcohalkofahphaaDoor.Img
open Go.ChangeShapes Go.WideShapes Go.ChangeAt Go.RowKit

theorem gMap : Tryd.prog.globalNamed "woodgrain/image.mappers" = some 0 := by kernel_rfl
theorem tMap : (Tryd.prog.globals[0]?).map (·.type) = some 102 := by kernel_rfl
theorem c40 : Tryd.prog.cellsOf 72 = 9 := by kernel_rfl
theorem c44 : Tryd.prog.cellsOf 102 = 99 := by kernel_rfl
theorem c9 : Tryd.prog.cellsOf 9 = 1 := by kernel_rfl
theorem c3 : Tryd.prog.cellsOf 3 = 1 := by kernel_rfl
theorem c4 : Tryd.prog.cellsOf 4 = 1 := by kernel_rfl
theorem c38 : Tryd.prog.cellsOf 70 = 4 := by kernel_rfl

section
variable {H : Type} {enc : TypeId × Value → H} {w : World} {base : Nat} {spare : Nat → Bool} {held : Bool} {fuel : Nat} {cs : List Value} {x : DataW H × List MemPlace}

theorem int_of {c : Value} {k : Int} (h : DataW.trod enc Tryd.prog w base spare held fuel 3 [c] = some x) (hx : x.1 = .lit (.int .i64 k)) : c = .int .i64 k := by
  obtain ⟨n, e1, rfl, _⟩ := DataW.trod_int Tryd.underlying3 h
  simp only [DataW.lit.injEq, Lit.int.injEq, true_and] at hx
  subst hx
  exact List.head_eq_of_cons_eq e1
theorem bool_of {c : Value} {k : Bool} (h : DataW.trod enc Tryd.prog w base spare held fuel 4 [c] = some x) (hx : x.1 = .lit (.bool k)) : c = .bool k := by
  obtain ⟨n, e1, rfl⟩ := DataW.trod_bool Tryd.underlying4 h
  simp only [DataW.lit.injEq, Lit.bool.injEq] at hx
  subst hx
  exact List.head_eq_of_cons_eq e1
theorem string_of {c : Value} {k : List UInt8} (h : DataW.trod enc Tryd.prog w base spare held fuel 9 [c] = some x) (hx : x.1 = .lit (.string k)) : c = .string ⟨k.toArray⟩ := by
  obtain ⟨s, e1, rfl, _⟩ := DataW.trod_string Tryd.underlying9 h
  simp only [DataW.lit.injEq, Lit.string.injEq] at hx
  subst hx
  exact List.head_eq_of_cons_eq e1

/-- A mapper's reading. -/
def said (t : List UInt8) (a b c : Int) (e : Bool) (f0 f1 f2 f3 : Int) : DataW H := .agg [.lit (.string t), .lit (.int .i64 a), .lit (.int .i64 b), .lit (.int .i64 c), .lit (.bool e), .agg [.lit (.int .i64 f0), .lit (.int .i64 f1), .lit (.int .i64 f2), .lit (.int .i64 f3)]]

set_option maxRecDepth 100000 in
theorem row_of {t : List UInt8} {a b c f0 f1 f2 f3 : Int} {e : Bool} (h : DataW.trod enc Tryd.prog w base spare held fuel 72 cs = some x) (hx : x.1 = said t a b c e f0 f1 f2 f3) :
    cs = [.string ⟨t.toArray⟩, .int .i64 a, .int .i64 b, .int .i64 c, .bool e, .int .i64 f0, .int .i64 f1, .int .i64 f2, .int .i64 f3] := by
  obtain ⟨xs, n, rfl, rfl, hl, hlen, hf⟩ := DataW.trod_struct Tryd.underlying72 h
  rw [c40] at hl
  match xs, hlen, hx with
  | [y0, y1, y2, y3, y4, y5], _, hx =>
    match cs, hl with
    | [v0, v1, v2, v3, v4, v5, v6, v7, v8], _ =>
      have g0 : DataW.trod enc Tryd.prog w base spare held n 9 (([v0, v1, v2, v3, v4, v5, v6, v7, v8].drop 0).take (Tryd.prog.cellsOf 9)) = some y0 := hf 0 _ rfl
      rw [c9] at g0
      have g1 : DataW.trod enc Tryd.prog w base spare held n 3 (([v0, v1, v2, v3, v4, v5, v6, v7, v8].drop 1).take (Tryd.prog.cellsOf 3)) = some y1 := hf 1 _ rfl
      rw [c3] at g1
      have g2 : DataW.trod enc Tryd.prog w base spare held n 3 (([v0, v1, v2, v3, v4, v5, v6, v7, v8].drop 2).take (Tryd.prog.cellsOf 3)) = some y2 := hf 2 _ rfl
      rw [c3] at g2
      have g3 : DataW.trod enc Tryd.prog w base spare held n 3 (([v0, v1, v2, v3, v4, v5, v6, v7, v8].drop 3).take (Tryd.prog.cellsOf 3)) = some y3 := hf 3 _ rfl
      rw [c3] at g3
      have g4 : DataW.trod enc Tryd.prog w base spare held n 4 (([v0, v1, v2, v3, v4, v5, v6, v7, v8].drop 4).take (Tryd.prog.cellsOf 4)) = some y4 := hf 4 _ rfl
      rw [c4] at g4
      have g5 : DataW.trod enc Tryd.prog w base spare held n 70 (([v0, v1, v2, v3, v4, v5, v6, v7, v8].drop 5).take (Tryd.prog.cellsOf 70)) = some y5 := hf 5 _ rfl
      rw [c38] at g5
      simp only [said, List.map_cons, List.map_nil, DataW.agg.injEq, List.cons.injEq, and_true] at hx
      obtain ⟨hx0, hx1, hx2, hx3, hx4, hx5⟩ := hx
      obtain ⟨zs, m, rfl, rfl, hl5, hlen5, hf5⟩ := DataW.trod_array Tryd.underlying70 (show DataW.trod enc Tryd.prog w base spare held n 70 [v5, v6, v7, v8] = some y5 from g5)
      match zs, hlen5, hx5 with
      | [z0, z1, z2, z3], _, hx5 =>
        simp only [List.map_cons, List.map_nil, DataW.agg.injEq, List.cons.injEq, and_true] at hx5
        obtain ⟨w0, w1, w2, w3⟩ := hx5
        have k0 : DataW.trod enc Tryd.prog w base spare held m 3 (([v5, v6, v7, v8].drop (0 * Tryd.prog.cellsOf 3)).take (Tryd.prog.cellsOf 3)) = some z0 := hf5 0 (by decide)
        rw [c3] at k0
        have k1 : DataW.trod enc Tryd.prog w base spare held m 3 (([v5, v6, v7, v8].drop (1 * Tryd.prog.cellsOf 3)).take (Tryd.prog.cellsOf 3)) = some z1 := hf5 1 (by decide)
        rw [c3] at k1
        have k2 : DataW.trod enc Tryd.prog w base spare held m 3 (([v5, v6, v7, v8].drop (2 * Tryd.prog.cellsOf 3)).take (Tryd.prog.cellsOf 3)) = some z2 := hf5 2 (by decide)
        rw [c3] at k2
        have k3 : DataW.trod enc Tryd.prog w base spare held m 3 (([v5, v6, v7, v8].drop (3 * Tryd.prog.cellsOf 3)).take (Tryd.prog.cellsOf 3)) = some z3 := hf5 3 (by decide)
        rw [c3] at k3
        rw [string_of (c := v0) g0 hx0, int_of (c := v1) g1 hx1, int_of (c := v2) g2 hx2, int_of (c := v3) g3 hx3, bool_of (c := v4) g4 hx4, int_of (c := v5) k0 w0, int_of (c := v6) k1 w1, int_of (c := v7) k2 w2, int_of (c := v8) k3 w3]
end

def laid1 : List (String × DataW Unit) := [("woodgrain/image.mappers", Rows.laid_woodgrain_image_mappers)]

set_option maxRecDepth 100000 in
theorem of_laid {W : World} (h : laidMetH Tryd.prog laid1 W) : Tab W := by
  unfold laid1 at h
  rw [MakeChecks.laidMetH_plain _ _ _ (by kernel_rfl)] at h
  obtain ⟨ps, ⟨g0, t0, cs0, fu0, p0, q0, hg0, ht0, hv0, hd0, _, _⟩, _, _⟩ := h
  obtain rfl := Option.some.inj (gMap.symm.trans hg0)
  obtain rfl := Option.some.inj (tMap.symm.trans ht0)
  obtain ⟨xs, m1, rfl, hx1, hlen, hn, hel⟩ := DataW.trod_array Tryd.underlying102 hd0
  simp only [Prod.mk.injEq] at hx1
  have hx := hx1.1
  rw [c40] at hel
  rw [c44] at hlen
  have cell : ∀ o, W.cell? ⟨0, o, none⟩ = cs0[o]? := fun o => World.var?_cell hg0 hv0 o
  have key : ∀ (i : Nat) (m : Mp), mps[i]? = some m → (cs0.toList.drop (i * 9)).take 9 = (vals m).toList := by
    unfold Rows.laid_woodgrain_image_mappers at hx
    match xs, hn, hx, hel with
    | [x0, x1, x2, x3, x4, x5, x6, x7, x8, x9, x10], _, hx, hel =>
      simp only [List.map_cons, List.map_nil, DataW.agg.injEq, List.cons.injEq, and_true] at hx
      obtain ⟨a0, a1, a2, a3, a4, a5, a6, a7, a8, a9, a10⟩ := hx
      intro i m hm
      match i, hm with
      | 0, hm => injection hm with hm; subst hm; exact row_of (hel 0 (by decide)) a0.symm
      | 1, hm => injection hm with hm; subst hm; exact row_of (hel 1 (by decide)) a1.symm
      | 2, hm => injection hm with hm; subst hm; exact row_of (hel 2 (by decide)) a2.symm
      | 3, hm => injection hm with hm; subst hm; exact row_of (hel 3 (by decide)) a3.symm
      | 4, hm => injection hm with hm; subst hm; exact row_of (hel 4 (by decide)) a4.symm
      | 5, hm => injection hm with hm; subst hm; exact row_of (hel 5 (by decide)) a5.symm
      | 6, hm => injection hm with hm; subst hm; exact row_of (hel 6 (by decide)) a6.symm
      | 7, hm => injection hm with hm; subst hm; exact row_of (hel 7 (by decide)) a7.symm
      | 8, hm => injection hm with hm; subst hm; exact row_of (hel 8 (by decide)) a8.symm
      | 9, hm => injection hm with hm; subst hm; exact row_of (hel 9 (by decide)) a9.symm
      | 10, hm => injection hm with hm; subst hm; exact row_of (hel 10 (by decide)) a10.symm
      | i + 11, hm => cases hm
  intro i m hm
  have hk := key i m hm
  have at_ : ∀ j, j < 9 → W.cell? ⟨0, i * 9 + j, none⟩ = (vals m).toList[j]? := fun j hj => by
    rw [cell, ← hk, List.getElem?_take_of_lt hj, List.getElem?_drop, Array.getElem?_toList]
  exact ⟨at_ 0 (by decide), at_ 1 (by decide), at_ 2 (by decide), at_ 3 (by decide), at_ 4 (by decide), at_ 5 (by decide), at_ 6 (by decide), at_ 7 (by decide), at_ 8 (by decide)⟩

set_option maxRecDepth 100000 in
theorem door_met (os : Os) (args : Array Value) : laidMetH Tryd.prog laid1 ((World.doorLaid Tryd.prog 400 os).forCall (fun _ _ => 0) ⟨#[], args, []⟩).memory :=
  laidMetH_of_parts3 (fuel := 8) (laidMet_of_run' 8 (by kernel_rfl) (by kernel_rfl)) (by kernel_rfl) (by kernel_rfl)

end Go.Proofs.YtcohalkofahphaaDoor.Img
