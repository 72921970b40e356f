/- The variables of package code as they are laid. -/
import Derived.Test.YtelmohajdmcnmaaDoorCode3
import Derived.LaidMore
import Derived.Stop.Joined
namespace Go.Proofs.YtelmohajdmcnmaaDoor.Co
open Go.ChangeShapes Go.WideShapes Go.ChangeAt Go.RowKit

theorem g0 : Tryd.prog.globalNamed "woodgrain/code.modes" = some 3 := by kernel_rfl
theorem gt0 : (Tryd.prog.globals[3]?).map (·.type) = some 96 := by kernel_rfl
theorem cInt : Tryd.prog.cellsOf 3 = 1 := by kernel_rfl
theorem cStr : Tryd.prog.cellsOf 9 = 1 := by kernel_rfl

section
variable {H : Type} {enc : TypeId × Go.Value → H} {w : World} {base : Nat} {spare : Nat → Bool} {held : Bool} {fuel : Nat} {x : DataW H × List MemPlace}
theorem int_of {c : Go.Value} {k : Int} (h : DataW.trod enc Tryd.prog w base spare held fuel 3 [c] = some x) (hx : x.1 = .lit (.int .i64 k)) : c = .int .i64 k := by
  obtain ⟨n, e1, rfl, _⟩ := DataW.trod_int Tryd.underlying3 h
  simp only [DataW.lit.injEq, Lit.int.injEq, true_and] at hx
  subst hx
  exact List.head_eq_of_cons_eq e1
theorem string_of {c : Go.Value} {k : List UInt8} (h : DataW.trod enc Tryd.prog w base spare held fuel 9 [c] = some x) (hx : x.1 = .lit (.string k)) : c = .string ⟨k.toArray⟩ := by
  obtain ⟨s, e1, rfl, _⟩ := DataW.trod_string Tryd.underlying9 h
  simp only [DataW.lit.injEq, Lit.string.injEq] at hx
  subst hx
  exact List.head_eq_of_cons_eq e1
end

/-- A row of one cell each, as it reads. -/
theorem row_of {W : World} {g : Nat} {nm : String} {cs : Array Go.Value} {fu n : Nat} {t e : TypeId} {p : List MemPlace} {ds : List (DataW Unit)} {vs : List Go.Value} (hu : Tryd.prog.underlying t = some (.array n e)) (he : Tryd.prog.cellsOf e = 1) (hct : Tryd.prog.cellsOf t = n) (hg : Tryd.prog.globalNamed nm = some g) (hv : W.var? Tryd.prog nm = some cs)
    (hd : DataW.trod (fun _ => ()) Tryd.prog W 0 (fun _ => true) false fu t cs.toList = some (.agg ds, p)) (hl : vs.length = ds.length)
    (hone : ∀ (j m : Nat) (c : Go.Value) (x : DataW Unit × List MemPlace) (d : DataW Unit), ds[j]? = some d → DataW.trod (fun _ => ()) Tryd.prog W 0 (fun _ => true) false m e [c] = some x → x.1 = d → vs[j]? = some c) : W.rangeAt g 0 vs := by
  obtain ⟨xs, m, _, hx, hlen, hn, hel⟩ := DataW.trod_array hu hd
  simp only [Prod.mk.injEq, DataW.agg.injEq] at hx
  have hxs := hx.1
  have hdl : ds.length = n := by rw [hxs, List.length_map, hn]
  intro j v hj
  have hjl : j < n := by have := (List.getElem?_eq_some_iff.1 hj).1; omega
  have h1 := hel j hjl
  rw [he, Nat.mul_one] at h1
  obtain ⟨y, hy⟩ : ∃ y, xs[j]? = some y := ⟨_, List.getElem?_eq_getElem (by omega)⟩
  rw [hy] at h1
  have hdj : ds[j]? = some y.1 := by rw [hxs, List.getElem?_map, hy]; rfl
  have hc : ∃ c, List.take 1 (List.drop j cs.toList) = [c] ∧ cs.toList[j]? = some c := by
    cases hdr : List.drop j cs.toList with
    | nil =>
      exfalso
      have := List.drop_eq_nil_iff.1 hdr
      rw [hlen, hct] at this
      omega
    | cons c r =>
      refine ⟨c, rfl, ?_⟩
      have : (List.drop j cs.toList)[0]? = some c := by rw [hdr]; rfl
      rwa [List.getElem?_drop, Nat.add_zero] at this
  obtain ⟨c, hc1, hc2⟩ := hc
  rw [hc1] at h1
  have hvc := hone j m c y y.1 hdj h1 rfl
  rw [hj] at hvc
  rw [Nat.zero_add, World.var?_cell hg hv j, ← Array.getElem?_toList, hc2, hvc]

def laid1 : List (String × DataW Unit) := [("woodgrain/code.modes", Rows.laid_woodgrain_code_modes)]

theorem ints_at {L : List Int} {W : World} (j m : Nat) (c : Go.Value) (x : DataW Unit × List MemPlace) (d : DataW Unit) (hd : (L.map fun n => (DataW.lit (.int .i64 n) : DataW Unit))[j]? = some d) (h : DataW.trod (fun _ => ()) Tryd.prog W 0 (fun _ => true) false m 3 [c] = some x) (hx : x.1 = d) : (L.map fun n => (.int .i64 n : Go.Value))[j]? = some c := by
  rw [List.getElem?_map] at hd ⊢
  obtain ⟨n, hn, rfl⟩ := Option.map_eq_some_iff.1 hd
  rw [hn, int_of h hx]
  rfl
theorem strs_at {L : List (List UInt8)} {W : World} (j m : Nat) (c : Go.Value) (x : DataW Unit × List MemPlace) (d : DataW Unit) (hd : (L.map fun n => (DataW.lit (.string n) : DataW Unit))[j]? = some d) (h : DataW.trod (fun _ => ()) Tryd.prog W 0 (fun _ => true) false m 9 [c] = some x) (hx : x.1 = d) : (L.map fun n => (.string ⟨n.toArray⟩ : Go.Value))[j]? = some c := by
  rw [List.getElem?_map] at hd ⊢
  obtain ⟨n, hn, rfl⟩ := Option.map_eq_some_iff.1 hd
  rw [hn, string_of h hx]
  rfl

set_option maxRecDepth 100000 in
theorem of_laid {W : World} (h : laidMetH Tryd.prog laid1 W) : Tab W := by
  unfold laid1 at h
  rw [MakeChecks.laidMetH_plain _ _ _ (by kernel_rfl)] at h
  obtain ⟨ps, ⟨b0, t0, cs0, fu0, p0, q0, hg0, ht0, hv0, hd0, _, _⟩, _⟩ := h
  obtain rfl := Option.some.inj (g0.symm.trans hg0)
  obtain rfl := Option.some.inj (gt0.symm.trans ht0)
  have c13 : Tryd.prog.cellsOf 96 = 13 := by kernel_rfl
  exact ⟨row_of (ds := modeL.map fun n => .lit (.string n)) Tryd.underlying96 cStr c13 hg0 hv0 hd0 (by simp [modeV]) strs_at⟩

set_option maxRecDepth 100000 in
theorem door_met (os : Os) (args : Array Go.Value) : laidMetH Tryd.prog laid1 ((World.doorLaid Tryd.prog 400 os).forCall (fun _ _ => 0) ⟨#[], args, []⟩).memory :=
  laidMetH_of_parts3 (fuel := 8) (laidMet_of_run' 8 (by kernel_rfl) (by kernel_rfl)) (by kernel_rfl) (by kernel_rfl)

end Go.Proofs.YtelmohajdmcnmaaDoor.Co
