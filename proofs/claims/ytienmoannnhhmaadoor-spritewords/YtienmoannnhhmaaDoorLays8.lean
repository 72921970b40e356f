/- The library's calls that package sprite makes, over this program. -/
import Derived.Test.YtienmoannnhhmaaDoorMath
import Derived.Test.YtienmoannnhhmaaDoorRows
import Derived.Shelf.Sort.Plain
import Derived.Shelf.Spec.TrailingZeros
import Derived.Shelf.Lay
namespace Go.Proofs
open Go.Shelf
shelf_lay Lays.n189 Nm 189 at Tryd as Tryd.lays189
shelf_lay Lays7.n29 Nm7 29 at Tryd as Tryd.lays29
end Go.Proofs

namespace Go.Proofs.YtienmoannnhhmaaDoor.Sp
open Go.RowKit Go.Sort Go.Shelf

/-- slices.Sort of ints: the row is sorted. -/
theorem SortI (blk off cap : Nat) (L : List Int) (w : World) (hH : Holds (Value.int .i64) w blk off L.toArray) (hblk : blk < w.heap.size) (hsz : L.length < 4611686018427387904) :
    Calls Tryd.prog 39 #[.slice (some ⟨blk, off, none⟩) L.length cap] w fun e w' =>
      e = .returned (.tuple #[]) ∧ ∃ n os, w' = grow (putRow (Value.int .i64) (Sort.ahead w n) blk off (L.mergeSort fun x y => decide (x ≤ y)).toArray) os :=
  Any.slices_Sort_int Tryd.lays189 blk off cap L w hH hblk hsz

end Go.Proofs.YtienmoannnhhmaaDoor.Sp
