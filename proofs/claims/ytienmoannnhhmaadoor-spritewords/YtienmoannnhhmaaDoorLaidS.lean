/- The library's table of trailing zeros as it is laid. -/
import Derived.Test.YtienmoannnhhmaaDoorSpr4
import Derived.LaidMore
import Derived.Stop.Joined
namespace Go.Proofs.YtienmoannnhhmaaDoor.Sp
open Go.ChangeShapes Go.WideShapes Go.ChangeAt Go.RowKit

theorem gVar : Tryd.prog.globalNamed "math/bits.deBruijn64tab" = some 0 := by kernel_rfl
theorem tVar : (Tryd.prog.globals[0]?).map (·.type) = some 111 := by kernel_rfl
theorem cByte : Tryd.prog.cellsOf 5 = 1 := by kernel_rfl
theorem cTab : Tryd.prog.cellsOf 111 = 64 := by kernel_rfl

theorem byte_of {H : Type} {enc : TypeId × Go.Value → H} {w : World} {base : Nat} {spare : Nat → Bool} {held : Bool} {fuel : Nat} {x : DataW H × List MemPlace} {c : Go.Value} {k : Int} (h : DataW.trod enc Tryd.prog w base spare held fuel 5 [c] = some x) (hx : x.1 = .lit (.int .u8 k)) : c = .int .u8 k := by
  obtain ⟨n, e1, rfl, _⟩ := DataW.trod_int Tryd.underlying5 h
  simp only [DataW.lit.injEq, Lit.int.injEq, true_and] at hx
  subst hx
  exact List.head_eq_of_cons_eq e1

/-- A row of one cell each, as it reads. -/
theorem row_of {W : World} {g : Nat} {nm : String} {cs : Array Go.Value} {fu n : Nat} {t e : TypeId} {p : List MemPlace} {ds : List (DataW Unit)} {vs : List Go.Value} (hu : Tryd.prog.underlying t = some (.array n e)) (he : Tryd.prog.cellsOf e = 1) (hct : Tryd.prog.cellsOf t = n) (hg : Tryd.prog.globalNamed nm = some g) (hv : W.var? Tryd.prog nm = some cs)
    (hd : DataW.trod (fun _ => ()) Tryd.prog W 0 (fun _ => true) false fu t cs.toList = some (.agg ds, p)) (hl : vs.length = ds.length)
    (hone : ∀ (j m : Nat) (c : Go.Value) (x : DataW Unit × List MemPlace) (d : DataW Unit), ds[j]? = some d → DataW.trod (fun _ => ()) Tryd.prog W 0 (fun _ => true) false m e [c] = some x → x.1 = d → vs[j]? = some c) : ∀ (j : Nat) (v : Go.Value), vs[j]? = some v → W.cell? ⟨g, 0 + j, none⟩ = some v := by
  obtain ⟨xs, m, _, hx, hlen, hn, hel⟩ := DataW.trod_array hu hd
  simp only [Prod.mk.injEq, DataW.agg.injEq] at hx
  have hxs := hx.1
  have hdl : ds.length = n := by rw [hxs, List.length_map, hn]
  intro j v hj
  have hjl : j < n := by have := (List.getElem?_eq_some_iff.1 hj).1; omega
  have h1 := hel j hjl
  rw [he, Nat.mul_one] at h1
  obtain ⟨y, hy⟩ : ∃ y, xs[j]? = some y := ⟨_, List.getElem?_eq_getElem (by omega)⟩
  rw [hy] at h1
  have hdj : ds[j]? = some y.1 := by rw [hxs, List.getElem?_map, hy]; rfl
  have hc : ∃ c, List.take 1 (List.drop j cs.toList) = [c] ∧ cs.toList[j]? = some c := by
    cases hdr : List.drop j cs.toList with
    | nil =>
      exfalso
      have := List.drop_eq_nil_iff.1 hdr
      rw [hlen, hct] at this
      omega
    | cons c r =>
      refine ⟨c, rfl, ?_⟩
      have : (List.drop j cs.toList)[0]? = some c := by rw [hdr]; rfl
      rwa [List.getElem?_drop, Nat.add_zero] at this
  obtain ⟨c, hc1, hc2⟩ := hc
  rw [hc1] at h1
  have hvc := hone j m c y y.1 hdj h1 rfl
  rw [hj] at hvc
  rw [Nat.zero_add, World.var?_cell hg hv j, ← Array.getElem?_toList, hc2, hvc]

def laid1 : List (String × DataW Unit) := [("math/bits.deBruijn64tab", Rows.laid_math_bits_deBruijn64tab)]

theorem bytes_at {L : List Nat} {W : World} (j m : Nat) (c : Go.Value) (x : DataW Unit × List MemPlace) (d : DataW Unit) (hd : (L.map fun (n : Nat) => (DataW.lit (.int .u8 (n : Int)) : DataW Unit))[j]? = some d) (h : DataW.trod (fun _ => ()) Tryd.prog W 0 (fun _ => true) false m 5 [c] = some x) (hx : x.1 = d) : (L.map fun (n : Nat) => (.int .u8 (n : Int) : Go.Value))[j]? = some c := by
  rw [List.getElem?_map] at hd ⊢
  obtain ⟨n, hn, rfl⟩ := Option.map_eq_some_iff.1 hd
  rw [hn, byte_of h hx]
  rfl

set_option maxRecDepth 100000 in
theorem of_laid {W : World} (h : laidMetH Tryd.prog laid1 W) : Tb W := by
  unfold laid1 at h
  rw [MakeChecks.laidMetH_plain _ _ _ (by kernel_rfl)] at h
  obtain ⟨ps, ⟨g0, t0, cs0, fu0, p0, q0, hg0, ht0, hv0, hd0, _, _⟩, _, _⟩ := h
  obtain rfl := Option.some.inj (gVar.symm.trans hg0)
  obtain rfl := Option.some.inj (tVar.symm.trans ht0)
  have hr := row_of (ds := Lib.deBruijn64tab.map fun (n : Nat) => .lit (.int .u8 (n : Int))) (vs := Lib.deBruijn64tab.map fun (n : Nat) => (.int .u8 (n : Int) : Go.Value)) Tryd.underlying111 cByte cTab hg0 hv0 hd0 (by simp) bytes_at
  intro j hj
  have h1 := hr j (.int .u8 (Lib.deBruijn64tab.getD j 0 : Int)) (by rw [List.getElem?_map, List.getD_eq_getElem?_getD, List.getElem?_eq_getElem hj]; rfl)
  rwa [Nat.zero_add] at h1

set_option maxRecDepth 100000 in
theorem door_met (os : Os) (args : Array Go.Value) : laidMetH Tryd.prog laid1 ((World.doorLaid Tryd.prog 400 os).forCall (fun _ _ => 0) ⟨#[], args, []⟩).memory :=
  laidMetH_of_parts3 (fuel := 8) (laidMet_of_run' 8 (by kernel_rfl) (by kernel_rfl)) (by kernel_rfl) (by kernel_rfl)

end Go.Proofs.YtienmoannnhhmaaDoor.Sp
