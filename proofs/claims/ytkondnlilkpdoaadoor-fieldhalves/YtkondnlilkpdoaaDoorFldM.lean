/- The field's bits, colours, pairs: plain numbers. -/
import Derived.Test.YtkondnlilkpdoaaDoorBase
import Derived.Test.YtkondnlilkpdoaaDoorRows
import Derived.ProofKit
import Derived.OpenShut
import Derived.Handy
import Derived.WalkLawsBesides
import Derived.BigQuiet
import Derived.Deep.QuietTactic
import Derived.Deep.RegionHeld3
import Derived.Lib.SmallJoins
import Derived.Laws.BitsAllLaws
namespace Go.Proofs.YtkondnlilkpdoaaDoor.Fi
open Go.RowKit

/-- Is the bit k of a number set? -/
def bs (b k : Nat) : Bool := decide (b / 2 ^ k % 2 = 1)
theorem shr_bit : ∀ b : Nat, b < 256 → ∀ k : Nat, k < 8 → (bits .and .u8 ((b / 2 ^ k : Nat) : Int) 1 == 1) = bs b k := by decide +kernel

/-- The n-th bit of the field, from the left. -/
def fbit (p0 p1 p2 n : Nat) : Bool := if n < 4 then bs p0 (4 + n) else if n < 12 then bs p1 (11 - n) else bs p2 (n - 12)
/-- Which bit of the field a pixel shows. -/
def at_ (c x : Nat) : Nat := if 80 ≤ x ∧ c % 2 = 1 then 19 - x % 80 / 4 else x % 80 / 4
theorem at_le (c : Nat) {x : Nat} (h : x < 160) : at_ c x ≤ 19 := by unfold at_; split <;> omega

set_option maxRecDepth 100000 in
set_option maxHeartbeats 400000 in
theorem isSet (b k : Nat) (w : World) (hb : b < 256) (hk : k < 8) : Calls Tryd.prog 20 #[.int .u8 (b : Int), .int .i64 (k : Int)] w fun e w' => e = .returned (.bool (bs b k)) ∧ w' = w := by
  have l1 : b / 2 ^ k < 256 := Nat.lt_of_le_of_lt (Nat.div_le_self _ _) hb
  have HE : Hid ((bits .and .u8 ((b : Int) / 2 ^ k) 1 == 1) = bs b k) := by
    show (bits .and .u8 ((b : Int) / 2 ^ k) 1 == 1) = bs b k
    have e1 : ((b : Int) / 2 ^ k) = ((b / 2 ^ k : Nat) : Int) := by rw [Int.natCast_ediv]; simp
    rw [e1]
    exact shr_bit b hb k hk
  clear l1
  go_enter Tryd.func20, Tryd.ntmps20
  go_wp2
  go_returns
  exact ⟨ret_bool HE.out, rfl⟩

set_option maxRecDepth 100000 in
set_option maxHeartbeats 400000 in
theorem Lit_no (p0 p1 p2 c : Nat) (x : Int) (w : World) (hx : x < 0 ∨ 159 < x) : Calls Tryd.prog 9 #[.agg #[.int .u8 (p0 : Int), .int .u8 (p1 : Int), .int .u8 (p2 : Int)], .int .u8 (c : Int), .int .i64 x] w fun e w' => e = .returned (.bool false) ∧ Below w.heap.size w w' := by
  rcases hx with h | h
  · go_enter Tryd.func9, Tryd.ntmps9
    go_wp2
    go_returns
    exact ⟨rfl, by go_grown⟩
  · have h0 : (0 : Int) ≤ x := by omega
    have h1 : (160 : Int) ≤ x := by omega
    go_enter Tryd.func9, Tryd.ntmps9
    go_wp2
    go_returns
    exact ⟨rfl, by go_grown⟩

end Go.Proofs.YtkondnlilkpdoaaDoor.Fi
