/- A slice that shows a row of things. -/
import Derived.Test.YtdnfclhljahghaaBase
import Derived.WalkSmall
import Derived.Deep.Draws
namespace Go.Proofs.Ytdnfclhljahghaa
open Go.RowKit Go.Shelf

/-- The slice v shows xs, which lie from cell off of block b on, each as c says. -/
structure Seen {α : Type} (c : α → Value) (w : World) (ao : Option Addr) (cap b off : Nat) (xs : List α) : Prop where
  le : xs.length ≤ cap
  max : cap ≤ 9223372036854775807
  at_ : xs ≠ [] → ao = some ⟨b, off, none⟩
  cell : ∀ (i : Nat) (x : α), xs[i]? = some x → w.cell? ⟨b, off + i, none⟩ = some (c x)

section
variable {α : Type} {c : α → Value} {w w' : World} {ao : Option Addr} {cap b off : Nat} {xs : List α}
theorem Seen.draws (h : Seen c w ao cap b off xs) (q : Nat) : Seen c (w.drewN q) ao cap b off xs := ⟨h.le, h.max, h.at_, h.cell⟩
theorem Seen.kept (h : Seen c w ao cap b off xs) (hb : xs ≠ [] → w'.heap[b]? = w.heap[b]?) : Seen c w' ao cap b off xs :=
  ⟨h.le, h.max, h.at_, fun i x hi => (World.cell?_of_block (w := w) (hb (fun e => by rw [e] at hi; cases hi))).trans (h.cell i x hi)⟩
theorem Seen.lt (h : Seen c w ao cap b off xs) (hx : xs ≠ []) : b < w.heap.size := by
  match xs, hx with
  | x :: _, _ => exact lt_of_cell (h.cell 0 x rfl)
theorem Seen.below (h : Seen c w ao cap b off xs) (hb : Below w.heap.size w w') : Seen c w' ao cap b off xs := h.kept fun hx => hb.block b (h.lt hx)
theorem Seen.nil (c : α → Value) (w : World) (ao : Option Addr) {cap : Nat} (hc : cap ≤ 9223372036854775807) (b off : Nat) : Seen c w ao cap b off [] := ⟨by simp, hc, fun h => absurd rfl h, fun i x h => by cases h⟩
theorem Seen.tail (h : Seen c w (some ⟨b, off, none⟩) cap b off xs) {n : Nat} (hn : n ≤ xs.length) : Seen c w (if cap = n then some ⟨b, off, none⟩ else some ⟨b, off + n, none⟩) (cap - n) b (off + n) (xs.drop n) := by
  have h1 := h.le
  have h2 := h.max
  refine ⟨by rw [List.length_drop]; omega, by omega, fun hx => ?_, fun i x hi => ?_⟩
  · have : n < xs.length := by
      by_cases hh : n < xs.length
      · exact hh
      · exact absurd (List.drop_eq_nil_of_le (Nat.le_of_not_lt hh)) hx
    rw [if_neg (by omega)]
  · rw [List.getElem?_drop] at hi
    rw [Nat.add_assoc]
    exact h.cell (n + i) x hi
theorem Seen.grown {row : Option Nat} (h : Seen c w ao cap b off xs) (hg : w.grownBy w' row) (hr : xs ≠ [] → some b ≠ row) : Seen c w' ao cap b off xs := h.kept fun hx => hg.block b (h.lt hx) (hr hx)
theorem Seen.own {base : Nat} {t : TypeId} {v : Value} (h : w.ownsRow base t 1 v xs.length (xs.map c)) (hm : ∀ ao n cap, v = .slice ao n cap → cap ≤ 9223372036854775807) : ∃ ao cap b, v = .slice ao xs.length cap ∧ Seen c w ao cap b 0 xs ∧ (v.ownBlock = none ∨ v.ownBlock = some b) := by
  rcases h.2 with ⟨h1, h2⟩ | ⟨g, cap, cur, h1, _, hh, hn, _⟩
  · have : xs = [] := List.length_eq_zero_iff.1 h2
    subst this
    exact ⟨none, 0, 0, h1, Seen.nil c w none (by omega) 0 0, by rw [h1]; exact .inl rfl⟩
  · refine ⟨_, _, g, h1, ⟨hn, hm _ _ _ h1, fun _ => rfl, fun i x hi => ?_⟩, .inr (by rw [h1]; rfl)⟩
    subst h1
    have hi' := (List.getElem?_eq_some_iff.1 hi).1
    have := h.cellAt i (by omega)
    rw [Nat.zero_add, this, List.getElem?_map, hi]; rfl
end

/-- The slice shows the runs R, which lie from cell off of block b on. -/
structure SeenR (w : World) (ao : Option Addr) (cap b off : Nat) (R : List (Int × Int)) : Prop where
  le : R.length ≤ cap
  max : cap ≤ 9223372036854775807
  at_ : R ≠ [] → ao = some ⟨b, off, none⟩
  cell : ∀ (i : Nat) (p : Int × Int), R[i]? = some p → w.cell? ⟨b, off + i * 2, none⟩ = some (.int .i64 p.1) ∧ w.cell? ⟨b, off + i * 2 + 1, none⟩ = some (.int .i64 p.2)

section
variable {w w' : World} {ao : Option Addr} {cap b off : Nat} {R : List (Int × Int)}
theorem SeenR.draws (h : SeenR w ao cap b off R) (q : Nat) : SeenR (w.drewN q) ao cap b off R := ⟨h.le, h.max, h.at_, h.cell⟩
theorem SeenR.kept (h : SeenR w ao cap b off R) (hb : R ≠ [] → w'.heap[b]? = w.heap[b]?) : SeenR w' ao cap b off R :=
  ⟨h.le, h.max, h.at_, fun i x hi => by
    have e := hb (fun e => by rw [e] at hi; cases hi)
    exact ⟨(World.cell?_of_block (w := w) e).trans (h.cell i x hi).1, (World.cell?_of_block (w := w) e).trans (h.cell i x hi).2⟩⟩
theorem SeenR.lt (h : SeenR w ao cap b off R) (hx : R ≠ []) : b < w.heap.size := by
  match R, hx with
  | x :: _, _ => exact lt_of_cell (h.cell 0 x rfl).1
theorem SeenR.below (h : SeenR w ao cap b off R) (hb : Below w.heap.size w w') : SeenR w' ao cap b off R := h.kept fun hx => hb.block b (h.lt hx)
end

/-- The slice shows the triples D, which lie from cell off of block b on. -/
structure SeenD (w : World) (ao : Option Addr) (cap b off : Nat) (D : List (Int × Int × Int)) : Prop where
  le : D.length ≤ cap
  max : cap ≤ 9223372036854775807
  at_ : D ≠ [] → ao = some ⟨b, off, none⟩
  cell : ∀ (i : Nat) (p : Int × Int × Int), D[i]? = some p → w.cell? ⟨b, off + i * 3, none⟩ = some (.int .i64 p.1) ∧ w.cell? ⟨b, off + i * 3 + 1, none⟩ = some (.int .i64 p.2.1) ∧ w.cell? ⟨b, off + i * 3 + 2, none⟩ = some (.int .i64 p.2.2)

section
variable {w w' : World} {ao : Option Addr} {cap b off : Nat} {D : List (Int × Int × Int)}
theorem SeenD.kept (h : SeenD w ao cap b off D) (hb : D ≠ [] → w'.heap[b]? = w.heap[b]?) : SeenD w' ao cap b off D :=
  ⟨h.le, h.max, h.at_, fun i x hi => by
    have e := hb (fun e => by rw [e] at hi; cases hi)
    exact ⟨(World.cell?_of_block (w := w) e).trans (h.cell i x hi).1, (World.cell?_of_block (w := w) e).trans (h.cell i x hi).2.1, (World.cell?_of_block (w := w) e).trans (h.cell i x hi).2.2⟩⟩
theorem SeenD.lt (h : SeenD w ao cap b off D) (hx : D ≠ []) : b < w.heap.size := by
  match D, hx with
  | x :: _, _ => exact lt_of_cell (h.cell 0 x rfl).1
theorem SeenD.below (h : SeenD w ao cap b off D) (hb : Below w.heap.size w w') : SeenD w' ao cap b off D := h.kept fun hx => hb.block b (h.lt hx)
end

end Go.Proofs.Ytdnfclhljahghaa
