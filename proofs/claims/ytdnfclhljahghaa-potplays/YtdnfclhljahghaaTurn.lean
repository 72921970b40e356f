/- Worlds of which only one block has turned. -/
import Derived.Test.YtdnfclhljahghaaSeen
namespace Go.Proofs.Ytdnfclhljahghaa
open Go.RowKit

/-- Of what there was, only block b has turned. -/
structure Turn (b : Nat) (w w' : World) : Prop where
  os : w'.os = w.os
  tape : w'.tape = w.tape
  output : w'.output = w.output
  size : w.heap.size ≤ w'.heap.size
  block : ∀ k, k < w.heap.size → k ≠ b → w'.heap[k]? = w.heap[k]?

theorem Turn.refl (b : Nat) (w : World) : Turn b w w := ⟨rfl, rfl, rfl, Nat.le_refl _, fun _ _ _ => rfl⟩
theorem Turn.trans {b : Nat} {w w' w'' : World} (h : Turn b w w') (g : Turn b w' w'') : Turn b w w'' :=
  ⟨g.os.trans h.os, g.tape.trans h.tape, g.output.trans h.output, Nat.le_trans h.size g.size, fun i hi hb => (g.block i (Nat.lt_of_lt_of_le hi h.size) hb).trans (h.block i hi hb)⟩
theorem Turn.set {b : Nat} {w w' : World} (h : Turn b w w') (o : Nat) (v : Value) : Turn b w (w'.setCell ⟨b, o, none⟩ v) :=
  h.trans ⟨rfl, rfl, rfl, by simp [World.setCell], fun _ _ hb => Below.heap_setCell _ _ _ _ hb⟩
theorem Turn.below {b n : Nat} {w w' : World} (h : Turn b w w') (hn : n ≤ b) (hs : n ≤ w.heap.size) : Below n w w' := ⟨h.os, h.tape, h.output, h.size, fun k hk => h.block k (by omega) (by omega)⟩
theorem Turn.of_below {b : Nat} {w w' : World} (h : Below w.heap.size w w') : Turn b w w' := ⟨h.os, h.tape, h.output, h.size, fun k hk _ => h.block k hk⟩
theorem Turn.cell {b c o : Nat} {w w' : World} (h : Turn b w w') (hc : c < w.heap.size) (hb : c ≠ b) : w'.cell? ⟨c, o, none⟩ = w.cell? ⟨c, o, none⟩ := World.cell?_of_block (w := w) (h.block c hc hb)
theorem Turn.fz {b c o : Nat} {w w' : World} (h : Turn b w w') (hc : c < w.heap.size) (hb : c ≠ b) : w'.frozen? ⟨c, o, none⟩ = w.frozen? ⟨c, o, none⟩ := World.frozen?_of_block (w := w) (h.block c hc hb)

theorem turn_draws {b q : Nat} {w w' : World} (h : Turn b (w.drewN q) w') : Turn b w w' := ⟨h.os, h.tape, h.output, h.size, h.block⟩

end Go.Proofs.Ytdnfclhljahghaa
