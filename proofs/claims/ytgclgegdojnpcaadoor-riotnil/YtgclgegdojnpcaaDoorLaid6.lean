/- The intervals as they are laid. -/
import Derived.Test.YtgclgegdojnpcaaDoorTimer
import Derived.LaidMore
import Derived.Stop.Joined
namespace Go.Proofs.YtgclgegdojnpcaaDoor.Tm
open Go.ChangeShapes Go.WideShapes Go.ChangeAt Go.RowKit

theorem gVar : Tryd.prog.globalNamed "woodgrain/timer.intervals" = some 0 := by kernel_rfl
theorem tVar : (Tryd.prog.globals[0]?).map (·.type) = some 102 := by kernel_rfl
theorem cInt : Tryd.prog.cellsOf 3 = 1 := by kernel_rfl
theorem cArr : Tryd.prog.cellsOf 102 = 4 := by kernel_rfl

theorem int_of {H : Type} {enc : TypeId × Go.Value → H} {w : World} {base : Nat} {spare : Nat → Bool} {held : Bool} {fuel : Nat} {x : DataW H × List MemPlace} {c : Go.Value} {k : Int} (h : DataW.trod enc Tryd.prog w base spare held fuel 3 [c] = some x) (hx : x.1 = .lit (.int .i64 k)) : c = .int .i64 k := by
  obtain ⟨n, e1, rfl, _⟩ := DataW.trod_int Tryd.underlying3 h
  simp only [DataW.lit.injEq, Lit.int.injEq, true_and] at hx
  subst hx
  exact List.head_eq_of_cons_eq e1

def laid1 : List (String × DataW Unit) := [("woodgrain/timer.intervals", Rows.laid_woodgrain_timer_intervals)]

set_option maxRecDepth 100000 in
theorem of_laid {W : World} (h : laidMetH Tryd.prog laid1 W) : Tab W := by
  unfold laid1 at h
  rw [MakeChecks.laidMetH_plain _ _ _ (by kernel_rfl)] at h
  obtain ⟨ps, ⟨g0, t0, cs0, fu0, p0, q0, hg0, ht0, hv0, hd0, _, _⟩, _, _⟩ := h
  obtain rfl := Option.some.inj (gVar.symm.trans hg0)
  obtain rfl := Option.some.inj (tVar.symm.trans ht0)
  obtain ⟨xs, m1, rfl, hx1, hlen, hn, hel⟩ := DataW.trod_array Tryd.underlying102 hd0
  simp only [Prod.mk.injEq] at hx1
  have hx := hx1.1
  rw [cInt] at hel
  rw [cArr] at hlen
  have cell : ∀ o, W.cell? ⟨0, o, none⟩ = cs0[o]? := fun o => World.var?_cell hg0 hv0 o
  unfold Rows.laid_woodgrain_timer_intervals at hx
  obtain ⟨l⟩ := cs0
  match l, hlen with
  | [v0, v1, v2, v3], _ =>
    match xs, hn, hx, hel with
    | [x0, x1, x2, x3], _, hx, hel =>
      simp only [List.map_cons, List.map_nil, DataW.agg.injEq, List.cons.injEq, and_true] at hx
      obtain ⟨a0, a1, a2, a3⟩ := hx
      have e0 := int_of (hel 0 (by decide)) a0.symm
      have e1 := int_of (hel 1 (by decide)) a1.symm
      have e2 := int_of (hel 2 (by decide)) a2.symm
      have e3 := int_of (hel 3 (by decide)) a3.symm
      refine ⟨?_, ?_, ?_, ?_⟩
      · rw [cell, e0]; rfl
      · rw [cell, e1]; rfl
      · rw [cell, e2]; rfl
      · rw [cell, e3]; rfl

set_option maxRecDepth 100000 in
theorem door_met (os : Os) (args : Array Go.Value) : laidMetH Tryd.prog laid1 ((World.doorLaid Tryd.prog 400 os).forCall (fun _ _ => 0) ⟨#[], args, []⟩).memory :=
  laidMetH_of_parts3 (fuel := 8) (laidMet_of_run' 8 (by kernel_rfl) (by kernel_rfl)) (by kernel_rfl) (by kernel_rfl)

end Go.Proofs.YtgclgegdojnpcaaDoor.Tm
