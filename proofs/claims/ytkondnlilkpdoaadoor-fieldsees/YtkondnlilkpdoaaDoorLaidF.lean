/- The field's tables as they are laid. -/
import Derived.Test.YtkondnlilkpdoaaDoorFld3
import Derived.LaidMore
import Derived.Stop.Joined
set_option linter.unusedVariables false
namespace Go.Proofs.YtkondnlilkpdoaaDoor.Fi
open Go.ChangeShapes Go.WideShapes Go.ChangeAt Go.RowKit

theorem gP : Tryd.prog.globalNamed "woodgrain/field.pairs" = some 0 := by kernel_rfl
theorem gH : Tryd.prog.globalNamed "woodgrain/field.have" = some 1 := by kernel_rfl
theorem tP : (Tryd.prog.globals[0]?).map (·.type) = some 47 := by kernel_rfl
theorem tH : (Tryd.prog.globals[1]?).map (·.type) = some 49 := by kernel_rfl
theorem cI : Tryd.prog.cellsOf 3 = 1 := by kernel_rfl
theorem c2 : Tryd.prog.cellsOf 45 = 2 := by kernel_rfl
theorem c15 : Tryd.prog.cellsOf 47 = 30 := by kernel_rfl
theorem c3 : Tryd.prog.cellsOf 49 = 6 := by kernel_rfl

section
variable {H : Type} {enc : TypeId × Go.Value → H} {w : World} {base : Nat} {spare : Nat → Bool} {held : Bool} {fuel : Nat} {cs : List Go.Value} {x : DataW H × List MemPlace}
theorem int_of {c : Go.Value} {k : Int} (h : DataW.trod enc Tryd.prog w base spare held fuel 3 [c] = some x) (hx : x.1 = .lit (.int .i64 k)) : c = .int .i64 k := by
  obtain ⟨n, e1, rfl, _⟩ := DataW.trod_int Tryd.underlying3 h
  simp only [DataW.lit.injEq, Lit.int.injEq, true_and] at hx
  subst hx
  exact List.head_eq_of_cons_eq e1
theorem pair_of {a b : Int} (h : DataW.trod enc Tryd.prog w base spare held fuel 45 cs = some x) (hx : x.1 = .agg [.lit (.int .i64 a), .lit (.int .i64 b)]) : cs = [.int .i64 a, .int .i64 b] := by
  obtain ⟨zs, m, rfl, rfl, hl, hlen, hf⟩ := DataW.trod_array Tryd.underlying45 h
  rw [c2] at hl
  match zs, hlen, hx with
  | [z0, z1], _, hx =>
    match cs, hl with
    | [v0, v1], _ =>
      simp only [List.map_cons, List.map_nil, DataW.agg.injEq, List.cons.injEq, and_true] at hx
      obtain ⟨w0, w1⟩ := hx
      have k0 : DataW.trod enc Tryd.prog w base spare held m 3 (([v0, v1].drop (0 * Tryd.prog.cellsOf 3)).take (Tryd.prog.cellsOf 3)) = some z0 := hf 0 (by decide)
      rw [cI] at k0
      have k1 : DataW.trod enc Tryd.prog w base spare held m 3 (([v0, v1].drop (1 * Tryd.prog.cellsOf 3)).take (Tryd.prog.cellsOf 3)) = some z1 := hf 1 (by decide)
      rw [cI] at k1
      rw [int_of (c := v0) k0 w0, int_of (c := v1) k1 w1]
end

/-- A row of pairs, as it reads. -/
theorem rows_of {W : World} {g : Nat} {nm : String} {cs : Array Go.Value} {fu n : Nat} {t : TypeId} {p : List MemPlace} {L : List (Nat × Nat)} (hu : Tryd.prog.underlying t = some (.array n 45)) (_hct : Tryd.prog.cellsOf t = n * 2) (hg : Tryd.prog.globalNamed nm = some g) (hv : W.var? Tryd.prog nm = some cs)
    (hd : DataW.trod (fun _ => ()) Tryd.prog W 0 (fun _ => true) false fu t cs.toList = some (.agg (L.map fun q => .agg [.lit (.int .i64 (q.1 : Int)), .lit (.int .i64 (q.2 : Int))]), p)) :
    ∀ k, k < L.length → W.cell? ⟨g, k * 2, none⟩ = some (.int .i64 ((L.getD k (0, 0)).1 : Int)) ∧ W.cell? ⟨g, k * 2 + 1, none⟩ = some (.int .i64 ((L.getD k (0, 0)).2 : Int)) := by
  obtain ⟨xs, m, _, hx, hlen, hn, hel⟩ := DataW.trod_array hu hd
  simp only [Prod.mk.injEq, DataW.agg.injEq] at hx
  have hxs := hx.1
  have hdl : L.length = n := by have := congrArg List.length hxs; simpa [hn] using this
  intro k hk
  have h1 := hel k (by omega)
  rw [c2] at h1
  obtain ⟨y, hy⟩ : ∃ y, xs[k]? = some y := ⟨_, List.getElem?_eq_getElem (by omega)⟩
  rw [hy] at h1
  obtain ⟨q, hq⟩ : ∃ q, L[k]? = some q := ⟨_, List.getElem?_eq_getElem hk⟩
  have hyq : y.1 = .agg [.lit (.int .i64 (q.1 : Int)), .lit (.int .i64 (q.2 : Int))] := by
    have e := congrArg (fun l => l[k]?) hxs
    simp only [List.getElem?_map, hy, hq, Option.map_some, Option.some.injEq] at e
    exact e.symm
  have hp := pair_of h1 hyq
  have hg2 : (L.getD k (0, 0)) = q := by rw [List.getD_eq_getElem?_getD, hq]; rfl
  rw [hg2, World.var?_cell hg hv, World.var?_cell hg hv, ← Array.getElem?_toList, ← Array.getElem?_toList]
  have a0 := congrArg (fun l => l[0]?) hp
  have a1 := congrArg (fun l => l[1]?) hp
  simp only [List.getElem?_take, List.getElem?_drop] at a0 a1
  simp at a0 a1
  exact ⟨by simpa using a0, by simpa using a1⟩

def laid1 : List (String × DataW Unit) := [("woodgrain/field.pairs", Rows.laid_woodgrain_field_pairs), ("woodgrain/field.have", Rows.laid_woodgrain_field_have)]

set_option maxRecDepth 100000 in
theorem of_laid {W : World} (h : laidMetH Tryd.prog laid1 W) : Tab W := by
  unfold laid1 at h
  rw [MakeChecks.laidMetH_plain _ _ _ (by kernel_rfl)] at h
  obtain ⟨ps, ⟨b0, t0, cs0, fu0, p0, q0, hg0, ht0, hv0, hd0, ⟨b1, t1, cs1, fu1, p1, q1, hg1, ht1, hv1, hd1, _, _⟩, _⟩, _, _⟩ := h
  obtain rfl := Option.some.inj (gP.symm.trans hg0)
  obtain rfl := Option.some.inj (gH.symm.trans hg1)
  obtain rfl := Option.some.inj (tP.symm.trans ht0)
  obtain rfl := Option.some.inj (tH.symm.trans ht1)
  have r0 := rows_of (L := pairL) Tryd.underlying47 c15 hg0 hv0 hd0
  have r1 := rows_of (L := haveL) Tryd.underlying49 c3 hg1 hv1 hd1
  exact ⟨fun k hk => (r0 k hk).1, fun k hk => (r0 k hk).2, fun k hk => (r1 k hk).1, fun k hk => (r1 k hk).2⟩

set_option maxRecDepth 100000 in
theorem door_met (os : Os) (args : Array Go.Value) : laidMetH Tryd.prog laid1 ((World.doorLaid Tryd.prog 400 os).forCall (fun _ _ => 0) ⟨#[], args, []⟩).memory :=
  laidMetH_of_parts3 (fuel := 8) (laidMet_of_run' 8 (by kernel_rfl) (by kernel_rfl)) (by kernel_rfl) (by kernel_rfl)

end Go.Proofs.YtkondnlilkpdoaaDoor.Fi
