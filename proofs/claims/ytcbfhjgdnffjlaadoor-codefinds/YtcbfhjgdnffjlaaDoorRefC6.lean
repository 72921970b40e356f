/- The document's table and the program's are one. -/
import Derived.Test.YtcbfhjgdnffjlaaDoorRefC5
namespace Go.Proofs.YtcbfhjgdnffjlaaDoor.Co
open Go.RowKit

def knownS (op : Nat) : Bool := if decide (placeL tOdd (bl (nameR op)) < 0) then (if op = 235 then false else if bl (nameR op) == [78, 79, 80] then ((op : Int) == 234) else true) else false
theorem knownS_eq (op : Nat) : knownR op = knownS op := by unfold knownR knownS; rw [bl_eq]

/-- One code of the document's and the program's. -/
def sameB (op : Nat) : Bool := decide (bl (nameR op) = bl (nameB op)) && decide (modeR op = (modeN op : Int)) && decide (kindQ op = kindN op) && (knownS op == knownB op)

set_option maxRecDepth 100000 in
theorem same : ∀ op, op < 256 → sameB op = true := by decide +kernel

theorem same_name (op : Nat) (h : op < 256) : nameR op = nameB op := by
  have := same op h; unfold sameB at this; simp only [Bool.and_eq_true, decide_eq_true_eq, beq_iff_eq] at this; exact bl_inj this.1.1.1
theorem same_mode (op : Nat) (h : op < 256) : modeR op = (modeN op : Int) := by
  have := same op h; unfold sameB at this; simp only [Bool.and_eq_true, decide_eq_true_eq, beq_iff_eq] at this; exact this.1.1.2
theorem same_kind (op : Nat) (h : op < 256) : kindQ op = kindN op := by
  have := same op h; unfold sameB at this; simp only [Bool.and_eq_true, decide_eq_true_eq, beq_iff_eq] at this; exact this.1.2
theorem same_known (op : Nat) (h : op < 256) : knownR op = knownB op := by
  have := same op h; unfold sameB at this; simp only [Bool.and_eq_true, decide_eq_true_eq, beq_iff_eq] at this; rw [knownS_eq]; exact this.2
theorem codeR_eq (op : Nat) (h : op < 256) : codeR op = #[.string (nameB op), .int .i64 (modeN op : Int), .int .i64 (kindN op), .bool (knownB op)] := by
  unfold codeR
  rw [same_name op h, same_mode op h, same_kind op h, same_known op h]

theorem ROfS (op : Nat) (j : Int) (w : World) (h : op < 256) (hj : j = (op : Int)) : Calls Tryd.prog 8 #[.int .i64 j] w fun e w' => e = .returned (.agg #[.string (nameB op), .int .i64 (modeN op : Int), .int .i64 (kindN op), .bool (knownB op)]) ∧ Below w.heap.size w w' := by
  subst hj
  have := ROf op w h
  rwa [codeR_eq op h] at this

end Go.Proofs.YtcbfhjgdnffjlaaDoor.Co
