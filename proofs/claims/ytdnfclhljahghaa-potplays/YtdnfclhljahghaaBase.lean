/- Plain worlds: new cells, old cells; worlds of which only some blocks have turned. -/
import Derived.Test.YtdnfclhljahghaaMath
import Derived.WalkKit
import Derived.RangeFuncFrom
import Derived.RangeFuncLeaves
import Derived.RangeFuncCalls
import Derived.RangeFuncBound
import Derived.Shelf.Abstract
import Derived.Deep.Draws
namespace Go.Proofs.Ytdnfclhljahghaa
open Go.RowKit Go.Shelf

theorem lt_of_cell {w : World} {b o : Nat} {v : Value} (h : w.cell? ⟨b, o, none⟩ = some v) : b < w.heap.size := by
  by_cases hb : b < w.heap.size
  · exact hb
  · simp [World.cell?, Array.getElem?_eq_none (Nat.le_of_not_lt hb)] at h

theorem new_cell (W : World) (v : Value) (t : TypeId) : (W.alloc (.cells #[v] t)).cell? ⟨W.heap.size, 0, none⟩ = some v ∧ (W.alloc (.cells #[v] t)).frozen? ⟨W.heap.size, 0, none⟩ = false := by
  have h : (W.alloc (.cells #[v] t)).heap[W.heap.size]? = some (.cells #[v] t (0, 0)) := World.alloc_heap_new W _
  exact ⟨cell_of_one h, free_of_one h⟩
theorem old_cell {W : World} {a : Addr} {v : Value} (o : Obj) (h : W.cell? a = some v) : (W.alloc o).cell? a = some v := cell_kept h (World.grownBy_alloc W o none) (fun r e => by cases e)
theorem old_frozen {W : World} {a : Addr} {v : Value} (o : Obj) (h : W.cell? a = some v) (hf : W.frozen? a = false) : (W.alloc o).frozen? a = false := (frozen_kept h (World.grownBy_alloc W o none) (fun r e => by cases e)).trans hf

/-- Of what there was, only blocks of S have turned. -/
structure Tn (S : Nat → Prop) (w w' : World) : Prop where
  os : w'.os = w.os
  tape : w'.tape = w.tape
  output : w'.output = w.output
  size : w.heap.size ≤ w'.heap.size
  block : ∀ k, k < w.heap.size → ¬ S k → w'.heap[k]? = w.heap[k]?

section
variable {S : Nat → Prop} {w w' w'' : World}
theorem Tn.refl (S : Nat → Prop) (w : World) : Tn S w w := ⟨rfl, rfl, rfl, Nat.le_refl _, fun _ _ _ => rfl⟩
theorem Tn.trans (h : Tn S w w') (g : Tn S w' w'') : Tn S w w'' :=
  ⟨g.os.trans h.os, g.tape.trans h.tape, g.output.trans h.output, Nat.le_trans h.size g.size, fun i hi hb => (g.block i (Nat.lt_of_lt_of_le hi h.size) hb).trans (h.block i hi hb)⟩
theorem Tn.of_below (S : Nat → Prop) (h : Below w.heap.size w w') : Tn S w w' := ⟨h.os, h.tape, h.output, h.size, fun k hk _ => h.block k hk⟩
theorem Tn.of_touch {b lo hi : Nat} (h : Touch b lo hi w w') (hs : S b) : Tn S w w' := ⟨h.os, h.tape, h.output, h.size, fun k hk hn => h.block k hk (fun e => hn (e ▸ hs))⟩
theorem Tn.below {n : Nat} (h : Tn S w w') (hn : ∀ k, S k → n ≤ k) (hs : n ≤ w.heap.size) : Below n w w' := ⟨h.os, h.tape, h.output, h.size, fun k hk => h.block k (by omega) (fun e => by have := hn k e; omega)⟩
theorem Tn.set (h : Tn S w w') (b o : Nat) (v : Value) (hs : S b) : Tn S w (w'.setCell ⟨b, o, none⟩ v) :=
  h.trans ⟨rfl, rfl, rfl, by simp [World.setCell], fun _ _ hb => Below.heap_setCell _ _ _ _ (fun e => hb (by subst e; exact hs))⟩
theorem Tn.cell {c o : Nat} (h : Tn S w w') (hc : c < w.heap.size) (hb : ¬ S c) : w'.cell? ⟨c, o, none⟩ = w.cell? ⟨c, o, none⟩ := World.cell?_of_block (w := w) (h.block c hc hb)
theorem Tn.fz {c o : Nat} (h : Tn S w w') (hc : c < w.heap.size) (hb : ¬ S c) : w'.frozen? ⟨c, o, none⟩ = w.frozen? ⟨c, o, none⟩ := World.frozen?_of_block (w := w) (h.block c hc hb)
theorem Tn.drew (h : Tn S w.drew w') : Tn S w w' := ⟨h.os, h.tape, h.output, h.size, h.block⟩
theorem Tn.draws {q : Nat} (h : Tn S (w.drewN q) w') : Tn S w w' := ⟨h.os, h.tape, h.output, h.size, h.block⟩
theorem Tn.drewN (h : Tn S w w') (q : Nat) : Tn S w (w'.drewN q) := ⟨h.os, h.tape, h.output, h.size, h.block⟩
theorem Tn.mono {T : Nat → Prop} (h : Tn S w w') (hs : ∀ k, S k → T k) : Tn T w w' := ⟨h.os, h.tape, h.output, h.size, fun k hk hn => h.block k hk (fun e => hn (hs k e))⟩
theorem Tn.alloc (h : Tn S w w') (o : Obj) : Tn S w (w'.alloc o) := h.trans (Tn.of_below S ((Below.refl _ w').alloc (Nat.le_refl _) o))
end

end Go.Proofs.Ytdnfclhljahghaa
