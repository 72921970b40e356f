/- How long a code is and how many cycles it takes, by the document. -/
import Derived.Test.YtcbfhjgdnffjlaaDoorRefC6
namespace Go.Proofs.YtcbfhjgdnffjlaaDoor.Co
open Go.RowKit

/-- Those of the kind of turns are neither implied nor immediate; a jump is named so. -/
def soundC (op : Nat) : Bool := (decide (kindN op ≠ 3) || (decide (modeN op ≠ 0) && decide (modeN op ≠ 2))) && (decide (bl (nameB op) = [74, 77, 80]) == decide (kindN op = 7))
set_option maxRecDepth 100000 in
theorem sounds : ∀ op, op < 256 → soundC op = true := by decide +kernel

theorem below4' {w w2 : World} (h : Below w.heap.size w w2) (A B C D : Obj) : Below w.heap.size w ((((w2.alloc A).alloc B).alloc C).alloc D) := by
  have := h.size
  exact (((h.alloc this _).alloc (by simp; omega) _).alloc (by simp; omega) _).alloc (by simp; omega) _
theorem fieldMode (a b c d : Value) (w : World) : (Instr.field 28 (.agg #[a, b, c, d]) 1).run Tryd.prog w = .ok b w := by kernel_rfl
theorem fieldName (a b c d : Value) (w : World) : (Instr.field 25 (.agg #[a, b, c, d]) 0).run Tryd.prog w = .ok a w := by kernel_rfl

set_option maxRecDepth 100000 in
set_option maxHeartbeats 4000000 in
theorem RLength (op : Nat) (j : Int) (w : World) (h : op < 256) (hj : j = (op : Int)) : Calls Tryd.prog 10 #[.int .i64 j] w fun e w' => e = .returned (.int .i64 (lenF (modeN op))) ∧ Below w.heap.size w w' := by
  have HO : Hid (∀ w, Calls Tryd.prog 8 #[.int .i64 j] w fun e w' => e = .returned (.agg #[.string (nameB op), .int .i64 (modeN op : Int), .int .i64 (kindN op), .bool (knownB op)]) ∧ Below w.heap.size w w') := fun w => ROfS op j w h hj
  have hl := modeN_le op
  have hfm := fieldMode
  clear hj
  generalize modeN op = m at HO hl
  rcases (show m = 0 ∨ m = 1 ∨ m = 2 ∨ m = 3 ∨ m = 4 ∨ m = 5 ∨ m = 6 ∨ m = 7 ∨ m = 8 ∨ m = 9 ∨ m = 10 ∨ m = 11 ∨ m = 12 by omega) with rfl | rfl | rfl | rfl | rfl | rfl | rfl | rfl | rfl | rfl | rfl | rfl | rfl
  all_goals
    go_enter Tryd.func10, Tryd.ntmps10
    go_wp2_with (go_at_call 8; refine (HO.out _).mono ?_; rintro e w2 ⟨rfl, hB2⟩)
    go_ret
    exact ⟨rfl, hB2⟩

end Go.Proofs.YtcbfhjgdnffjlaaDoor.Co
