/- A motion in its block; plain numbers of it. -/
import Derived.Test.YtkondnlilkpdoaaTurn
import Derived.Test.YtkondnlilkpdoaaBase
import Derived.Test.YtkondnlilkpdoaaRows
import Derived.ProofKit
import Derived.OpenShut
import Derived.Handy
import Derived.WalkLawsBesides
import Derived.BigQuiet
import Derived.Deep.QuietTactic
import Derived.Lib.SmallJoins
import Derived.Laws.BitsAllLaws
namespace Go.Proofs.Ytkondnlilkpdoaa.Mo
open Go.RowKit

/-- A motion lies at block b. -/
structure MAt (w : World) (b c g v : Nat) : Prop where
  c0 : w.cell? ⟨b, 0, none⟩ = some (.int .i64 (c : Int))
  c1 : w.cell? ⟨b, 1, none⟩ = some (.int .i64 (g : Int))
  c2 : w.cell? ⟨b, 2, none⟩ = some (.int .u8 (v : Int))
  fz : ∀ o, w.frozen? ⟨b, o, none⟩ = false
  ok : c ≤ 16 ∧ g ≤ 3 ∧ v < 32

section
variable {w w' : World} {b c g v k : Nat}
theorem MAt.lt (h : MAt w b c g v) : b < w.heap.size := lt_of_cell h.c0
theorem MAt.kept (h : MAt w b c g v) (hb : w'.heap[b]? = w.heap[b]?) : MAt w' b c g v :=
  ⟨(World.cell?_of_block (w := w) hb).trans h.c0, (World.cell?_of_block (w := w) hb).trans h.c1, (World.cell?_of_block (w := w) hb).trans h.c2, fun o => (World.frozen?_of_block (w := w) hb).trans (h.fz o), h.ok⟩
theorem MAt.below (h : MAt w b c g v) (hb : Below w.heap.size w w') : MAt w' b c g v := h.kept (hb.block b h.lt)
theorem MAt.old {n : Nat} (h : MAt w b c g v) (hb : Below n w w') (hn : b < n) : MAt w' b c g v := h.kept (hb.block b hn)
theorem MAt.turn (h : MAt w b c g v) (ht : Turn k w w') (hc : b ≠ k) : MAt w' b c g v := h.kept (ht.block b h.lt hc)
theorem MAt.draws (h : MAt w b c g v) (q : Nat) : MAt (w.drewN q) b c g v := ⟨h.c0, h.c1, h.c2, h.fz, h.ok⟩
theorem MAt.put0 (h : MAt w b c g v) (n : Nat) (hn : n ≤ 16) : MAt (w.setCell ⟨b, 0, none⟩ (.int .i64 (n : Int))) b n g v :=
  ⟨World.cell?_setCell_same' _ _ _ (by rw [h.c0]; rfl), (World.cell?_setCell_other _ _ _ _ (by simp)).trans h.c1, (World.cell?_setCell_other _ _ _ _ (by simp)).trans h.c2, fun o => by rw [World.frozen?_setCell]; exact h.fz o, hn, h.ok.2⟩
theorem MAt.put1 (h : MAt w b c g v) (n : Nat) (hn : n ≤ 3) : MAt (w.setCell ⟨b, 1, none⟩ (.int .i64 (n : Int))) b c n v :=
  ⟨(World.cell?_setCell_other _ _ _ _ (by simp)).trans h.c0, World.cell?_setCell_same' _ _ _ (by rw [h.c1]; rfl), (World.cell?_setCell_other _ _ _ _ (by simp)).trans h.c2, fun o => by rw [World.frozen?_setCell]; exact h.fz o, h.ok.1, hn, h.ok.2.2⟩
theorem MAt.put2 (h : MAt w b c g v) (n : Nat) (hn : n < 32) : MAt (w.setCell ⟨b, 2, none⟩ (.int .u8 (n : Int))) b c g n :=
  ⟨(World.cell?_setCell_other _ _ _ _ (by simp)).trans h.c0, (World.cell?_setCell_other _ _ _ _ (by simp)).trans h.c1, World.cell?_setCell_same' _ _ _ (by rw [h.c2]; rfl), fun o => by rw [World.frozen?_setCell]; exact h.fz o, h.ok.1, h.ok.2.1, hn⟩
end

/-- How often a nibble moves its thing. -/
def mvN (n : Nat) : Nat := (n % 16 + 8) % 16
theorem mvN_lt (n : Nat) : mvN n < 16 := Nat.mod_lt _ (by decide)
theorem mv_mod : ∀ n : Nat, n < 256 → bits .xor .u8 ((n : Int) % 16) 8 = (mvN n : Int) := by decide +kernel
theorem mv_bits : ∀ n : Nat, n < 256 → bits .xor .u8 (bits .and .u8 (n : Int) 15) 8 = (mvN n : Int) := by decide +kernel

end Go.Proofs.Ytkondnlilkpdoaa.Mo
