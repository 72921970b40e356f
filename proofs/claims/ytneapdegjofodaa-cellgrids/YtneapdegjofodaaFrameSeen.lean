/- Slices that came in, opened: what each shows. -/
import Derived.Test.YtneapdegjofodaaFrame
import Derived.Test.YtneapdegjofodaaSeen
import Derived.Deep.SlicePairs
namespace Go.Proofs.Ytneapdegjofodaa
open Go.ChangeShapes Go.WideShapes Go.ChangeAt Go.RowKit Go.Deep

section
variable {H : Type} {enc : TypeId × Value → H} {P : Program} {W : World} {r : Reach} {b0 base : Nat} {spare : Nat → Bool} {held : Bool} {t e : TypeId} {v : Value} {d : DataW H} {p : List MemPlace}

theorem open_seen1 (ht : P.underlying t = some (.slice e)) (he : P.underlying e = some (.int .i64)) (hc : P.cellsOf e = 1) (hv : Value.okWide P W r b0 t v) (h : DataW.Trod enc P W base spare held t v d p) :
    ∃ ao n cap b off, ∃ L : List Int, v = .slice ao n cap ∧ Seen (fun x => .int .i64 x) W ao cap b off L ∧ n = L.length ∧ (ao = none → n = 0 ∧ cap = 0) := by
  obtain ⟨a0, len, cap, rfl⟩ := okWide_slice ht hv
  obtain ⟨fuel, hf⟩ := h
  rcases open_ints ht he hc hf with ⟨hcs, _⟩ | ⟨a, len', cap', zs, hcs, _, hl, hm, hz, _, hcell, _⟩
  · simp [Value.cells] at hcs
    obtain ⟨rfl, rfl, rfl⟩ := hcs
    exact ⟨none, 0, 0, 0, 0, [], rfl, Seen.nil _ _ _ (by omega) 0 0, rfl, fun _ => ⟨rfl, rfl⟩⟩
  · simp [Value.cells] at hcs
    obtain ⟨rfl, rfl, rfl⟩ := hcs
    unfold maxLen at hm
    have hlz : len ≤ zs.length := by rw [hz]; split <;> omega
    by_cases h0 : len = 0
    · subst h0
      exact ⟨some a, 0, cap, 0, 0, [], rfl, Seen.nil _ _ _ (by omega) 0 0, rfl, fun e => by cases e⟩
    · obtain ⟨b, off, rfl, hcc⟩ := ints_at hcell (by omega)
      refine ⟨_, len, cap, b, off, zs.take len, rfl, ⟨by rw [List.length_take]; omega, by omega, fun _ => rfl, fun i x hi => ?_⟩, by rw [List.length_take]; omega, fun e => by cases e⟩
      have hi' := (List.getElem?_eq_some_iff.1 hi).1
      rw [List.length_take] at hi'
      rw [List.getElem?_take_of_lt (by omega)] at hi
      rw [hcc i (by omega)]
      simp [hi]

theorem open_seen2 {f0 f1 : Field} (ht : P.underlying t = some (.slice e)) (he : P.underlying e = some (.struct #[f0, f1])) (ce : P.cellsOf e = 2) (o0 : f0.offset = 0) (o1 : f1.offset = 1) (c0 : P.cellsOf f0.type = 1) (c1 : P.cellsOf f1.type = 1)
    (u0 : P.underlying f0.type = some (.int .i64)) (u1 : P.underlying f1.type = some (.int .i64)) (hv : Value.okWide P W r b0 t v) (h : DataW.Trod enc P W base spare held t v d p) :
    ∃ ao n cap b off, ∃ R : List (Int × Int), v = .slice ao n cap ∧ SeenR W ao cap b off R ∧ n = R.length ∧ (ao = none → n = 0 ∧ cap = 0) := by
  obtain ⟨a0, len, cap, rfl⟩ := okWide_slice ht hv
  obtain ⟨fuel, hf⟩ := h
  rcases open_slice_pairs ht he ce o0 o1 c0 c1 hf with ⟨hcs, _⟩ | ⟨a, len', cap', m, n, V0, V1, D0, D1, P0, P1, hcs, _, hl, hm, hmm, _, hx⟩
  · simp [Value.cells] at hcs
    obtain ⟨rfl, rfl, rfl⟩ := hcs
    exact ⟨none, 0, 0, 0, 0, [], rfl, ⟨by simp, by omega, fun h => absurd rfl h, fun i p h => by cases h⟩, rfl, fun _ => ⟨rfl, rfl⟩⟩
  · simp [Value.cells] at hcs
    obtain ⟨rfl, rfl, rfl⟩ := hcs
    unfold maxLen at hm
    have hlm : len ≤ m := by rw [hmm]; split <;> omega
    by_cases h0 : len = 0
    · subst h0
      exact ⟨some a, 0, cap, 0, 0, [], rfl, ⟨by simp, by omega, fun h => absurd rfl h, fun i p h => by cases h⟩, rfl, fun e => by cases e⟩
    · obtain ⟨b, off, spot⟩ := a
      have hspot : spot = none := by simpa [Addr.add] using World.cell?_spot (hx 0 (by omega)).1
      subst hspot
      refine ⟨_, len, cap, b, off, (List.range len).map fun i => (intOf (V0 i), intOf (V1 i)), rfl, ⟨by simp; omega, by omega, fun _ => rfl, fun i q hi => ?_⟩, by simp, fun e => by cases e⟩
      have hi' := (List.getElem?_eq_some_iff.1 hi).1
      simp at hi'
      simp [hi'] at hi
      subst hi
      obtain ⟨g0, g1, g2, g3⟩ := hx i (by omega)
      obtain ⟨n0, e0, _, _⟩ := DataW.trod_int u0 g2
      obtain ⟨n1, e1, _, _⟩ := DataW.trod_int u1 g3
      simp at e0 e1
      rw [e0] at g0
      rw [e1] at g1
      rw [e0, e1]
      rw [add_plain] at g0 g1
      exact ⟨g0, g1⟩

theorem open_seen3 {f0 f1 f2 : Field} (ht : P.underlying t = some (.slice e)) (he : P.underlying e = some (.struct #[f0, f1, f2])) (ce : P.cellsOf e = 3) (o0 : f0.offset = 0) (o1 : f1.offset = 1) (o2 : f2.offset = 2) (c0 : P.cellsOf f0.type = 1) (c1 : P.cellsOf f1.type = 1) (c2 : P.cellsOf f2.type = 1)
    (u0 : P.underlying f0.type = some (.int .i64)) (u1 : P.underlying f1.type = some (.int .i64)) (u2 : P.underlying f2.type = some (.int .i64)) (hv : Value.okWide P W r b0 t v) (h : DataW.Trod enc P W base spare held t v d p) :
    ∃ ao n cap b off, ∃ D : List (Int × Int × Int), v = .slice ao n cap ∧ SeenD W ao cap b off D ∧ n = D.length ∧ (ao = none → n = 0 ∧ cap = 0) := by
  obtain ⟨a0, len, cap, rfl⟩ := okWide_slice ht hv
  obtain ⟨fuel, hf⟩ := h
  rcases open_slice ht hf with ⟨hcs, _⟩ | ⟨a, len', cap', m, n, D, Pl, hcs, _, hl, hm, hmm, _, hx⟩
  · simp [Value.cells] at hcs
    obtain ⟨rfl, rfl, rfl⟩ := hcs
    exact ⟨none, 0, 0, 0, 0, [], rfl, ⟨by simp, by omega, fun h => absurd rfl h, fun i p h => by cases h⟩, rfl, fun _ => ⟨rfl, rfl⟩⟩
  · simp [Value.cells] at hcs
    obtain ⟨rfl, rfl, rfl⟩ := hcs
    unfold maxLen at hm
    have hlm : len ≤ m := by rw [hmm]; split <;> omega
    have each : ∀ i, i < m → ∃ q : Int × Int × Int, W.cell? (a.add (i * 3)) = some (.int .i64 q.1) ∧ W.cell? (a.add (i * 3 + 1)) = some (.int .i64 q.2.1) ∧ W.cell? (a.add (i * 3 + 2)) = some (.int .i64 q.2.2) := by
      intro i hi
      obtain ⟨cs', h1, h2⟩ := hx i hi
      rw [ce] at h1
      obtain ⟨_, hlen, hcell⟩ := World.cells?_some h1
      obtain ⟨xs, k, _, _, _, hxl, hfd⟩ := DataW.trod_struct he h2
      match xs, hxl, cs', hlen with
      | [y0, y1, y2], _, [v0, v1, v2], _ =>
        have g0 := hfd 0 f0 rfl
        have g1 := hfd 1 f1 rfl
        have g2 := hfd 2 f2 rfl
        simp [o0, o1, o2, c0, c1, c2] at g0 g1 g2
        have e0 := hcell 0 (by omega)
        have e1 := hcell 1 (by omega)
        have e2 := hcell 2 (by omega)
        rw [add_add] at e0 e1 e2
        obtain ⟨n0, z0, _, _⟩ := DataW.trod_int u0 g0
        obtain ⟨n1, z1, _, _⟩ := DataW.trod_int u1 g1
        obtain ⟨n2, z2, _, _⟩ := DataW.trod_int u2 g2
        simp at z0 z1 z2
        subst z0 z1 z2
        exact ⟨(n0, n1, n2), by simpa using e0, by simpa using e1, by simpa using e2⟩
    obtain ⟨q, hq⟩ := choose_lt each
    by_cases h0 : len = 0
    · subst h0
      exact ⟨some a, 0, cap, 0, 0, [], rfl, ⟨by simp, by omega, fun h => absurd rfl h, fun i p h => by cases h⟩, rfl, fun e => by cases e⟩
    · obtain ⟨b, off, spot⟩ := a
      have hspot : spot = none := by simpa [Addr.add] using World.cell?_spot (hq 0 (by omega)).1
      subst hspot
      refine ⟨_, len, cap, b, off, (List.range len).map q, rfl, ⟨by simp; omega, by omega, fun _ => rfl, fun i x hi => ?_⟩, by simp, fun e => by cases e⟩
      have hi' := (List.getElem?_eq_some_iff.1 hi).1
      simp at hi'
      simp [hi'] at hi
      subst hi
      obtain ⟨g0, g1, g2⟩ := hq i (by omega)
      rw [add_plain] at g0 g1 g2
      exact ⟨g0, g1, g2⟩

end
end Go.Proofs.Ytneapdegjofodaa
