/- A row of cells at a block's beginning. -/
import Derived.Test.YtdnfclhljahghaaTurn
import Derived.Test.YtdnfclhljahghaaBase
import Derived.Test.YtdnfclhljahghaaRows
import Derived.ProofKit
import Derived.OpenShut
import Derived.Handy
import Derived.WalkLawsBesides
import Derived.BigQuiet
import Derived.Deep.QuietTactic
import Derived.Lib.SmallJoins
import Derived.Laws.BitsAllLaws
import Derived.Deep.RegionWith
import Derived.Deep.RegionHeld3
namespace Go.Proofs.Ytdnfclhljahghaa
open Go.RowKit
set_option linter.unusedVariables false

/-- A row of cells at a block's beginning; none of them is frozen. -/
structure Row (w : World) (b : Nat) (cs : List Go.Value) : Prop where
  at_ : ∀ i v, cs[i]? = some v → w.cell? ⟨b, i, none⟩ = some v
  fz : ∀ j, w.frozen? ⟨b, j, none⟩ = false
section
variable {w w' : World} {b c : Nat} {cs cs' : List Go.Value}
theorem Row.put (h : Row w b cs) (i : Nat) (v : Go.Value) : Row (w.setCell ⟨b, i, none⟩ v) b (cs.set i v) := by
  refine ⟨fun j u hu => ?_, fun j => by rw [World.frozen?_setCell]; exact h.fz j⟩
  by_cases hj : j = i
  · subst hj
    by_cases hl : j < cs.length
    · rw [List.getElem?_set_self hl] at hu
      obtain rfl := Option.some.inj hu
      exact World.cell?_setCell_same' _ _ _ (by rw [h.at_ j _ (List.getElem?_eq_getElem hl)]; rfl)
    · have hn : (cs.set j v)[j]? = none := List.getElem?_eq_none (by rw [List.length_set]; omega)
      rw [hn] at hu
      exact absurd hu (by simp)
  · rw [List.getElem?_set_ne (Ne.symm hj)] at hu
    exact (World.cell?_setCell_other _ _ _ _ (by first | (simp; done) | (simp; omega))).trans (h.at_ j u hu)
theorem Row.to (h : Row w b cs) (e : cs = cs') : Row w b cs' := e ▸ h
theorem Row.kept (h : Row w b cs) (hb : w'.heap[b]? = w.heap[b]?) : Row w' b cs :=
  ⟨fun i v hv => (World.cell?_of_block (w := w) hb).trans (h.at_ i v hv), fun j => (World.frozen?_of_block (w := w) hb).trans (h.fz j)⟩
theorem Row.lt (h : Row w b cs) (hc : 0 < cs.length) : b < w.heap.size := lt_of_cell (h.at_ 0 _ (List.getElem?_eq_getElem hc))
theorem Row.below (h : Row w b cs) (hc : 0 < cs.length) (hb : Below w.heap.size w w') : Row w' b cs := h.kept (hb.block b (h.lt hc))
theorem Row.old {n : Nat} (h : Row w b cs) (hb : Below n w w') (hn : b < n) : Row w' b cs := h.kept (hb.block b hn)
theorem Row.turn (h : Row w b cs) (hc : 0 < cs.length) (ht : Turn c w w') (hn : b ≠ c) : Row w' b cs := h.kept (ht.block b (h.lt hc) hn)
theorem Row.draws (h : Row w b cs) (q : Nat) : Row (w.drewN q) b cs := ⟨h.at_, h.fz⟩
theorem Row.drew (h : Row w b cs) : Row w.drew b cs := ⟨h.at_, h.fz⟩
theorem Row.alloc (h : Row w b cs) (hc : 0 < cs.length) (o : Obj) : Row (w.alloc o) b cs := h.below hc ((Below.refl _ w).alloc (Nat.le_refl _) o)
theorem Row.far (h : Row w b cs) {c o : Nat} (v : Go.Value) (hn : b ≠ c) : Row (w.setCell ⟨c, o, none⟩ v) b cs := h.kept (Below.heap_setCell _ _ _ _ hn)
theorem Row.new (w : World) (cs : Array Go.Value) (t : TypeId) : Row (w.alloc (.cells cs t)) w.heap.size cs.toList := by
  have hh := heap_alloc_new w (.cells cs t)
  exact ⟨fun i v hv => (cell_of_row _ _ _ _ _ _ hh).trans (by simpa using hv), fun j => frozen_of_row _ _ _ _ _ hh⟩
theorem Row.newL (w : World) (cs : List Go.Value) (t : TypeId) : Row (w.alloc (.cells cs.toArray t)) w.heap.size cs := Row.new w cs.toArray t
end

/-- Three boxes, one behind the other. -/
theorem rows3 (w : World) (a b c : Array Go.Value) (s t u : TypeId) (ha : 0 < a.toList.length) (hb : 0 < b.toList.length) :
    let w' := ((w.alloc (.cells a s)).alloc (.cells b t)).alloc (.cells c u)
    Row w' w.heap.size a.toList ∧ Row w' (w.heap.size + 1) b.toList ∧ Row w' (w.heap.size + 1 + 1) c.toList ∧ Below w.heap.size w w' := by
  refine ⟨((Row.new w a s).alloc ha _).alloc ha _, ?_, ?_, (((Below.refl _ w).alloc (Nat.le_refl _) _).alloc (by simp) _).alloc (by simp; omega) _⟩
  · have h : (w.alloc (.cells a s)).heap.size = w.heap.size + 1 := by simp
    rw [← h]
    exact (Row.new _ b t).alloc hb _
  · have h : ((w.alloc (.cells a s)).alloc (.cells b t)).heap.size = w.heap.size + 1 + 1 := by simp
    rw [← h]
    exact Row.new _ c u
theorem rows2 (w : World) (a b : Array Go.Value) (s t : TypeId) (ha : 0 < a.toList.length) :
    let w' := (w.alloc (.cells a s)).alloc (.cells b t)
    Row w' w.heap.size a.toList ∧ Row w' (w.heap.size + 1) b.toList ∧ Below w.heap.size w w' := by
  refine ⟨(Row.new w a s).alloc ha _, ?_, ((Below.refl _ w).alloc (Nat.le_refl _) _).alloc (by simp) _⟩
  have h : (w.alloc (.cells a s)).heap.size = w.heap.size + 1 := by simp
  rw [← h]
  exact Row.new _ b t

/-- A call in a world that is another one drawn from. -/
theorem turn_drew {b : Nat} {w w' : World} (h : Turn b w.drew w') : Turn b w w' := ⟨h.os, h.tape, h.output, h.size, h.block⟩
theorem below_drew {n : Nat} {w w' : World} (h : Below n w.drew w') : Below n w w' := ⟨h.os, h.tape, h.output, h.size, h.block⟩
theorem Turn.drewR {b : Nat} {w w' : World} (h : Turn b w w') : Turn b w w'.drew := ⟨h.os, h.tape, h.output, h.size, h.block⟩
theorem Turn.drewsR {b : Nat} {w w' : World} (h : Turn b w w') (q : Nat) : Turn b w (w'.drewN q) := ⟨h.os, h.tape, h.output, h.size, h.block⟩
theorem Turn.belowR {b : Nat} {w w' w'' : World} (h : Turn b w w') (g : Below w'.heap.size w' w'') : Turn b w w'' := h.trans (Turn.of_below g)
theorem Turn.alloc {b : Nat} {w w' : World} (h : Turn b w w') (o : Obj) : Turn b w (w'.alloc o) := h.belowR ((Below.refl _ w').alloc (Nat.le_refl _) o)
theorem Below.thenTurn {n b : Nat} {w w' w'' : World} (h : Below n w w') (g : Turn b w' w'') (hn : n ≤ b) (hs : n ≤ w'.heap.size) : Below n w w'' := h.trans (g.below hn hs)

end Go.Proofs.Ytdnfclhljahghaa
