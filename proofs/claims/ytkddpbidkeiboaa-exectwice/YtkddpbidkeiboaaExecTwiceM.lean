/- Three names where they lie. -/
import Derived.Test.YtkddpbidkeiboaaAwakeE
namespace Go.Proofs.Ytkddpbidkeiboaa.execTwice
open Go.RowKit Alu Ex
set_option linter.unusedVariables false

theorem cells_of {w : World} {b o : Nat} {r : Rg} (h : RAt w b o r) (X : Obj) : RAt (w.alloc X) b o r := h.alloc X

/-- Three names, where they lie. -/
structure X3 (w : World) (b : Nat) (s0 s1 s2 : ByteArray) : Prop where
  c0 : w.cell? ⟨b, 0, none⟩ = some (.string s0)
  c1 : w.cell? ⟨b, 1, none⟩ = some (.string s1)
  c2 : w.cell? ⟨b, 2, none⟩ = some (.string s2)
theorem X3.below {w w' : World} {b : Nat} {s0 s1 s2 : ByteArray} (h : X3 w b s0 s1 s2) (hb : Below w.heap.size w w') : X3 w' b s0 s1 s2 := by
  have hk := hb.block b (lt_of_cell h.c0)
  exact ⟨(World.cell?_of_block (w := w) hk).trans h.c0, (World.cell?_of_block (w := w) hk).trans h.c1, (World.cell?_of_block (w := w) hk).trans h.c2⟩
theorem X3.alloc {w : World} {b : Nat} {s0 s1 s2 : ByteArray} (h : X3 w b s0 s1 s2) (X : Obj) : X3 (w.alloc X) b s0 s1 s2 := h.below ((Below.refl _ w).alloc (Nat.le_refl _) _)

theorem sizeLe {n : Nat} {a w : World} (h : Below n a w) (hn : n = a.heap.size) : n ≤ w.heap.size := by rw [hn]; exact h.size

end Go.Proofs.Ytkddpbidkeiboaa.execTwice
