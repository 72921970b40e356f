/- The table of package code, as it is read. -/
import Derived.Test.YtelmohajdmcnmaaDoorCodeM
import Derived.Deep.MidRow
namespace Go.Proofs.YtelmohajdmcnmaaDoor.Co
open Go.RowKit

def modeV : List Value := modeL.map fun l => .string ⟨l.toArray⟩

/-- The program's variables as they are laid. -/
structure Tab (w : World) : Prop where
  md : w.rangeAt 3 0 modeV

theorem range_below {w w' : World} {n b : Nat} {cs : List Value} (h : w.rangeAt b 0 cs) (hb : Below n w w') (hn : b < n) : w'.rangeAt b 0 cs := fun j v hv => (hb.cell (p := ⟨b, 0 + j, none⟩) hn).trans (h j v hv)
theorem Tab.lt {w : World} (h : Tab w) : 3 < w.heap.size := by
  have := h.md 0 _ rfl
  by_cases hb : 3 < w.heap.size
  · exact hb
  · simp [World.cell?, Array.getElem?_eq_none (Nat.le_of_not_lt hb)] at this
theorem Tab.below {w w' : World} {n : Nat} (h : Tab w) (hb : Below n w w') (hn : 3 < n) : Tab w' := ⟨range_below h.md hb hn⟩
theorem Tab.next {w w' : World} (h : Tab w) (hb : Below w.heap.size w w') : Tab w' := h.below hb h.lt
theorem Tab.same {w w' : World} (h : Tab w) (he : w'.heap = w.heap) : Tab w' := by
  obtain ⟨d⟩ := h
  have hc : ∀ p, w'.cell? p = w.cell? p := fun p => by unfold World.cell?; rw [he]
  exact ⟨fun j v hv => (hc _).trans (d j v hv)⟩

def rowsV : Array Value := #[.string (rowB 0), .string (rowB 1), .string (rowB 2), .string (rowB 3), .string (rowB 4), .string (rowB 5), .string (rowB 6), .string (rowB 7), .string (rowB 8), .string (rowB 9), .string (rowB 10), .string (rowB 11), .string (rowB 12), .string (rowB 13), .string (rowB 14), .string (rowB 15)]

set_option maxRecDepth 100000 in
set_option maxHeartbeats 1000000 in
theorem rows (w : World) : Calls Tryd.prog 71 #[] w fun e w' => e = .returned (.agg rowsV) ∧ Below w.heap.size w w' := by
  go_enter Tryd.func71, Tryd.ntmps71
  go_wp2
  exact bodyPost_ret (v := .agg rowsV) (by simp [results, Tryd.results71, go_sem]; rfl) rfl ⟨rfl, (Below.refl _ _).alloc (Nat.le_refl _) _⟩

end Go.Proofs.YtelmohajdmcnmaaDoor.Co
