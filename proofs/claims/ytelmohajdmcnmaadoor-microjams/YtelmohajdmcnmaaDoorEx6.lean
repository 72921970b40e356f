/- A box of its own. -/
import Derived.Test.YtelmohajdmcnmaaDoorEx2
namespace Go.Proofs.YtelmohajdmcnmaaDoor.Ex
open Go.RowKit Alu
set_option linter.unusedVariables false

theorem RAt.alloc {w : World} {b o : Nat} {r : Rg} (h : RAt w b o r) (X : Obj) : RAt (w.alloc X) b o r := h.below ((Below.refl _ w).alloc (Nat.le_refl _) _)
theorem new_cell (W : World) (v : Value) (t : TypeId) : (W.alloc (.cells #[v] t)).cell? ⟨W.heap.size, 0, none⟩ = some v ∧ (W.alloc (.cells #[v] t)).frozen? ⟨W.heap.size, 0, none⟩ = false := by
  have hh := heap_alloc_new W (.cells #[v] t)
  exact ⟨cell_of_row _ _ _ _ _ _ hh, frozen_of_row _ _ _ _ _ hh⟩

end Go.Proofs.YtelmohajdmcnmaaDoor.Ex
