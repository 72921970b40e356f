/- A slice of rows, out of its one cell. -/
import Derived.Test.YtcohalkofahphaaDoorSeenX
namespace Go.Proofs.YtcohalkofahphaaDoor
open Go.ChangeShapes Go.WideShapes Go.ChangeAt Go.RowKit Go.Deep

section
variable {H : Type} {enc : TypeId × Value → H} {P : Program} {W : World} {base : Nat} {spare : Nat → Bool} {held : Bool} {t e : TypeId}

theorem rows_of {ao : Option Addr} {len cap fuel : Nat} {x : DataW H × List MemPlace} (z : Nat) (ht : P.underlying t = some (.slice e)) (hc : P.cellsOf e = z) (hz : 0 < z) (hf : DataW.trod enc P W base spare held fuel t [.slice ao len cap] = some x) :
    ∃ b off, ∃ L : List (List Value), SeenX W ao cap b off z L ∧ len = L.length ∧
      ∀ r ∈ L, r.length = z ∧ ∃ fuel x, DataW.trod enc P W base spare held fuel e r = some x := by
  rcases open_slice ht hf with ⟨hcs, _⟩ | ⟨a, len', cap', m, n, D, Pl, hcs, _, hl, hm, hmm, _, hx⟩
  · simp at hcs
    obtain ⟨rfl, rfl, rfl⟩ := hcs
    exact ⟨0, 0, [], ⟨by simp, by omega, fun h => absurd rfl h, fun h => absurd rfl h, fun i p h => by cases h⟩, rfl, fun r hr => by cases hr⟩
  · simp at hcs
    obtain ⟨rfl, rfl, rfl⟩ := hcs
    unfold maxLen at hm
    have hlm : len ≤ m := by rw [hmm]; split <;> omega
    rw [hc] at hx
    obtain ⟨f, hq⟩ := choose_lt hx
    by_cases h0 : len = 0
    · subst h0
      exact ⟨0, 0, [], ⟨by simp, by omega, fun h => absurd rfl h, fun h => absurd rfl h, fun i p h => by cases h⟩, rfl, fun r hr => by cases hr⟩
    · have one : ∀ i, i < m → (f i).length = z ∧ ∀ (j : Nat) (u : Value), (f i)[j]? = some u → W.cell? (a.add (i * z + j)) = some u := by
        intro i hi
        obtain ⟨_, hlen, hcell⟩ := World.cells?_some (hq i hi).1
        refine ⟨hlen, fun j u hj => ?_⟩
        have hj' := (List.getElem?_eq_some_iff.1 hj).1
        have := hcell j (by omega)
        rw [add_add] at this
        rw [this, ← hj]
      obtain ⟨b, off, spot⟩ := a
      have hspot : spot = none := by
        have h1 := one 0 (by omega)
        have : (f 0)[0]? = some (f 0)[0] := List.getElem?_eq_getElem (by omega)
        simpa [Addr.add] using World.cell?_spot (h1.2 0 _ this)
      subst hspot
      have hbl : b < W.heap.size := by
        have h1 := one 0 (by omega)
        have : (f 0)[0]? = some (f 0)[0] := List.getElem?_eq_getElem (by omega)
        have h2 := h1.2 0 _ this
        rw [add_plain] at h2
        exact lt_of_cell h2
      refine ⟨b, off, (List.range len).map f, ⟨by simp; omega, by omega, fun _ => rfl, fun _ => hbl, fun i x hi j u hj => ?_⟩, by simp, fun r hr => ?_⟩
      · have hi' := (List.getElem?_eq_some_iff.1 hi).1
        simp at hi'
        simp [hi'] at hi
        subst hi
        have := (one i (by omega)).2 j u hj
        rw [add_plain] at this
        rw [Nat.add_assoc]
        exact this
      · obtain ⟨i, hi, rfl⟩ := List.mem_map.1 hr
        have hi' := List.mem_range.1 hi
        exact ⟨(one i (by omega)).1, _, _, (hq i (by omega)).2⟩

end
end Go.Proofs.YtcohalkofahphaaDoor
