/- Runs of the call's own, seen. -/
import Derived.Test.YtneapdegjofodaaRefUnpack
import Derived.Test.YtneapdegjofodaaAwake
namespace Go.Proofs.Ytneapdegjofodaa
open Go.RowKit PackInt

theorem SeenR.ofRow {w : World} {R : List (Int × Int)} {base n : Nat} {t : TypeId} {v : Value} (h : w.ownsRow base t 2 v n (cells R)) (hn : n = R.length) :
    ∃ ao cap b, v = .slice ao R.length cap ∧ SeenR w ao cap b 0 R ∧ base ≤ b := by
  subst hn
  rcases h.2 with ⟨h1, h2⟩ | ⟨g, cap, cur, h1, hb, hh, hn, hm, _⟩
  · have : R = [] := List.length_eq_zero_iff.1 h2
    subst this
    exact ⟨none, 0, base, h1, ⟨by simp, by omega, fun h => absurd rfl h, fun i p h => by cases h⟩, Nat.le_refl _⟩
  · refine ⟨_, _, g, h1, ⟨hn, by unfold maxLen at hm; omega, fun _ => rfl, fun i p hi => ?_⟩, hb⟩
    subst h1
    have hi' := (List.getElem?_eq_some_iff.1 hi).1
    obtain ⟨c0, c1⟩ := cells_at R i p hi
    rw [Nat.zero_add, h.cellAt (i * 2) (by omega), h.cellAt (i * 2 + 1) (by omega)]
    exact ⟨c0, c1⟩

theorem runs_nil_iff {l : List Int} : runs l = [] ↔ l = [] := by
  refine ⟨fun h => ?_, fun h => by subst h; rfl⟩
  have := (good_runs l).ex
  rw [h] at this
  exact this.symm

theorem runN_runs (l : List Int) : runN (runs l) = (l.length : Int) := by
  rw [runN_expand (good_runs l).cnt, (good_runs l).ex]

end Go.Proofs.Ytneapdegjofodaa
