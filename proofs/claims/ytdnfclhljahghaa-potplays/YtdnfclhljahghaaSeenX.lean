/- A slice that shows rows of cells, each of one size; what such a slice that came in shows. -/
import Derived.Test.YtdnfclhljahghaaSeen
import Derived.Test.YtdnfclhljahghaaFrame
import Derived.Deep.Slices
namespace Go.Proofs.Ytdnfclhljahghaa
open Go.ChangeShapes Go.WideShapes Go.ChangeAt Go.RowKit Go.Deep

/-- The slice shows the rows L, each of z cells, which lie from cell off of block b on. -/
structure SeenX (w : World) (ao : Option Addr) (cap b off z : Nat) (L : List (List Value)) : Prop where
  le : L.length ≤ cap
  max : cap ≤ 9223372036854775807
  at_ : L ≠ [] → ao = some ⟨b, off, none⟩
  lt : L ≠ [] → b < w.heap.size
  cell : ∀ (i : Nat) (r : List Value), L[i]? = some r → ∀ (j : Nat) (v : Value), r[j]? = some v → w.cell? ⟨b, off + i * z + j, none⟩ = some v

section
variable {w w' : World} {ao : Option Addr} {cap b off z : Nat} {L : List (List Value)}
theorem SeenX.draws (h : SeenX w ao cap b off z L) (q : Nat) : SeenX (w.drewN q) ao cap b off z L := ⟨h.le, h.max, h.at_, h.lt, h.cell⟩
theorem SeenX.kept (h : SeenX w ao cap b off z L) (hs : w.heap.size ≤ w'.heap.size) (hb : L ≠ [] → w'.heap[b]? = w.heap[b]?) : SeenX w' ao cap b off z L :=
  ⟨h.le, h.max, h.at_, fun hl => Nat.lt_of_lt_of_le (h.lt hl) hs, fun i r hi j v hj => (World.cell?_of_block (w := w) (hb (fun e => by rw [e] at hi; cases hi))).trans (h.cell i r hi j v hj)⟩
theorem SeenX.below {n : Nat} (h : SeenX w ao cap b off z L) (hb : Below n w w') (hn : w.heap.size ≤ n) : SeenX w' ao cap b off z L := h.kept hb.size fun hl => hb.block b (Nat.lt_of_lt_of_le (h.lt hl) hn)
end

section
variable {H : Type} {enc : TypeId × Value → H} {P : Program} {W : World} {r : Reach} {b0 base : Nat} {spare : Nat → Bool} {held : Bool} {t e : TypeId} {v : Value} {d : DataW H} {p : List MemPlace}

theorem open_rows (z : Nat) (ht : P.underlying t = some (.slice e)) (hc : P.cellsOf e = z) (hz : 0 < z) (hv : Value.okWide P W r b0 t v) (h : DataW.Trod enc P W base spare held t v d p) :
    ∃ ao n cap b off, ∃ L : List (List Value), v = .slice ao n cap ∧ SeenX W ao cap b off z L ∧ n = L.length ∧ (ao = none → n = 0 ∧ cap = 0) ∧
      ∀ r ∈ L, r.length = z ∧ ∃ fuel x, DataW.trod enc P W base spare held fuel e r = some x := by
  obtain ⟨a0, len, cap, rfl⟩ := okWide_slice ht hv
  obtain ⟨fuel, hf⟩ := h
  rcases open_slice ht hf with ⟨hcs, _⟩ | ⟨a, len', cap', m, n, D, Pl, hcs, _, hl, hm, hmm, _, hx⟩
  · simp [Value.cells] at hcs
    obtain ⟨rfl, rfl, rfl⟩ := hcs
    exact ⟨none, 0, 0, 0, 0, [], rfl, ⟨by simp, by omega, fun h => absurd rfl h, fun h => absurd rfl h, fun i p h => by cases h⟩, rfl, fun _ => ⟨rfl, rfl⟩, fun r hr => by cases hr⟩
  · simp [Value.cells] at hcs
    obtain ⟨rfl, rfl, rfl⟩ := hcs
    unfold maxLen at hm
    have hlm : len ≤ m := by rw [hmm]; split <;> omega
    rw [hc] at hx
    obtain ⟨f, hq⟩ := choose_lt hx
    by_cases h0 : len = 0
    · subst h0
      exact ⟨some a, 0, cap, 0, 0, [], rfl, ⟨by simp, by omega, fun h => absurd rfl h, fun h => absurd rfl h, fun i p h => by cases h⟩, rfl, (fun e => by cases e), fun r hr => by cases hr⟩
    · have one : ∀ i, i < m → (f i).length = z ∧ ∀ (j : Nat) (u : Value), (f i)[j]? = some u → W.cell? (a.add (i * z + j)) = some u := by
        intro i hi
        obtain ⟨_, hlen, hcell⟩ := World.cells?_some (hq i hi).1
        refine ⟨hlen, fun j u hj => ?_⟩
        have hj' := (List.getElem?_eq_some_iff.1 hj).1
        have := hcell j (by omega)
        rw [add_add] at this
        rw [this, ← hj]
      obtain ⟨b, off, spot⟩ := a
      have hspot : spot = none := by
        have h1 := one 0 (by omega)
        have : (f 0)[0]? = some (f 0)[0] := List.getElem?_eq_getElem (by omega)
        simpa [Addr.add] using World.cell?_spot (h1.2 0 _ this)
      subst hspot
      have hbl : b < W.heap.size := by
        have h1 := one 0 (by omega)
        have : (f 0)[0]? = some (f 0)[0] := List.getElem?_eq_getElem (by omega)
        have h2 := h1.2 0 _ this
        rw [add_plain] at h2
        exact lt_of_cell h2
      refine ⟨_, len, cap, b, off, (List.range len).map f, rfl, ⟨by simp; omega, by omega, fun _ => rfl, fun _ => hbl, fun i x hi j u hj => ?_⟩, by simp, (fun e => by cases e), fun r hr => ?_⟩
      · have hi' := (List.getElem?_eq_some_iff.1 hi).1
        simp at hi'
        simp [hi'] at hi
        subst hi
        have := (one i (by omega)).2 j u hj
        rw [add_plain] at this
        rw [Nat.add_assoc]
        exact this
      · obtain ⟨i, hi, rfl⟩ := List.mem_map.1 hr
        have hi' := List.mem_range.1 hi
        exact ⟨(one i (by omega)).1, _, _, (hq i (by omega)).2⟩

end

theorem map_of {α : Type} {f : α → List Value} {p : α → Prop} : ∀ {L : List (List Value)}, (∀ r ∈ L, ∃ a, r = f a ∧ p a) → ∃ A : List α, L = A.map f ∧ ∀ a ∈ A, p a
  | [], _ => ⟨[], rfl, fun a h => by cases h⟩
  | r :: L, h => by
    obtain ⟨a, rfl, ha⟩ := h r (by simp)
    obtain ⟨A, rfl, hA⟩ := map_of (L := L) (fun r hr => h r (by simp [hr]))
    exact ⟨a :: A, rfl, fun x hx => by
      rcases List.mem_cons.1 hx with rfl | hx
      · exact ha
      · exact hA x hx⟩

end Go.Proofs.Ytdnfclhljahghaa
