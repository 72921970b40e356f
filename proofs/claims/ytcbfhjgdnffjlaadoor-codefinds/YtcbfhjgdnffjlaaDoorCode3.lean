/- The table of package code, as it is read. -/
import Derived.Test.YtcbfhjgdnffjlaaDoorCodeM
import Derived.Deep.MidRow
namespace Go.Proofs.YtcbfhjgdnffjlaaDoor.Co
open Go.RowKit

def readV : List Int := [2, 2, 2, 3, 4, 4, 4, 4, 4, 6, 5]
def storeV : List Int := [0, 0, 0, 3, 4, 4, 4, 5, 5, 6, 6]
def turnV : List Int := [2, 2, 2, 5, 6, 6, 6, 7, 7, 8, 8]
def modeV : List Value := modeL.map fun l => .string ⟨l.toArray⟩

/-- The program's variables as they are laid. -/
structure Tab (w : World) : Prop where
  rd : w.rangeAt 0 0 (readV.map fun n => .int .i64 n)
  st : w.rangeAt 1 0 (storeV.map fun n => .int .i64 n)
  tn : w.rangeAt 2 0 (turnV.map fun n => .int .i64 n)
  md : w.rangeAt 3 0 modeV

theorem range_below {w w' : World} {n b : Nat} {cs : List Value} (h : w.rangeAt b 0 cs) (hb : Below n w w') (hn : b < n) : w'.rangeAt b 0 cs := fun j v hv => (hb.cell (p := ⟨b, 0 + j, none⟩) hn).trans (h j v hv)
theorem Tab.lt {w : World} (h : Tab w) : 3 < w.heap.size := by
  have := h.md 0 _ rfl
  by_cases hb : 3 < w.heap.size
  · exact hb
  · simp [World.cell?, Array.getElem?_eq_none (Nat.le_of_not_lt hb)] at this
theorem Tab.below {w w' : World} {n : Nat} (h : Tab w) (hb : Below n w w') (hn : 3 < n) : Tab w' :=
  ⟨range_below h.rd hb (by omega), range_below h.st hb (by omega), range_below h.tn hb (by omega), range_below h.md hb hn⟩
theorem Tab.next {w w' : World} (h : Tab w) (hb : Below w.heap.size w w') : Tab w' := h.below hb h.lt
theorem Tab.same {w w' : World} (h : Tab w) (he : w'.heap = w.heap) : Tab w' := by
  obtain ⟨a, b, c, d⟩ := h
  have hc : ∀ p, w'.cell? p = w.cell? p := fun p => by unfold World.cell?; rw [he]
  exact ⟨fun j v hv => (hc _).trans (a j v hv), fun j v hv => (hc _).trans (b j v hv), fun j v hv => (hc _).trans (c j v hv), fun j v hv => (hc _).trans (d j v hv)⟩

def rowsV : Array Value := #[.string (rowB 0), .string (rowB 1), .string (rowB 2), .string (rowB 3), .string (rowB 4), .string (rowB 5), .string (rowB 6), .string (rowB 7), .string (rowB 8), .string (rowB 9), .string (rowB 10), .string (rowB 11), .string (rowB 12), .string (rowB 13), .string (rowB 14), .string (rowB 15)]

set_option maxRecDepth 100000 in
set_option maxHeartbeats 1000000 in
theorem rows (w : World) : Calls Tryd.prog 31 #[] w fun e w' => e = .returned (.agg rowsV) ∧ Below w.heap.size w w' := by
  go_enter Tryd.func31, Tryd.ntmps31
  go_wp2
  exact bodyPost_ret (v := .agg rowsV) (by simp [results, Tryd.results31, go_sem]; rfl) rfl ⟨rfl, (Below.refl _ _).alloc (Nat.le_refl _) _⟩

end Go.Proofs.YtcbfhjgdnffjlaaDoor.Co
