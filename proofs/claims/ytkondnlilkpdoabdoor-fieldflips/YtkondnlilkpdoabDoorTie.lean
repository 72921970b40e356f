/-
  DERIVED. GIVEN WITH THE SEED: THE PROGRAM's TIES (one call each: nine closed facts by the kernel) AND EACH ROW's TIE, after the 31st guide's Derived/Test/Toyas{Tie, Card}.lean. No idea stands in it: it is a product of the set-up. Laid BY PROGRAM, IN A SANDBOX (cutbox-door.mjs). By AI agents, Wed Nov 11 2026. No macro, syntax, notation, axiom, sorry.
-/
import Derived.Test.YtkondnlilkpdoabDoorRows
import Derived.LaidByTextLater
import Derived.SevenTiedAt
import Derived.LaidSub
import Derived.LaidOnce
namespace Go.Proofs.YtkondnlilkpdoabDoor
open Go
set_option maxRecDepth 100000
theorem seatTie1 : Tryd.prog.laidByTextLater [("woodgrain/field.pairs", Rows.laid_woodgrain_field_pairs), ("woodgrain/field.have", Rows.laid_woodgrain_field_have)] [.data, .data] true :=
  Program.laidByTextLater_by_one 37 8 31 (by kernel_rfl) (by kernel_rfl) (by kernel_rfl) (by kernel_rfl) (by kernel_rfl) (by kernel_rfl) (fun _ _ => by kernel_rfl)
theorem noOwnUnsafe : Tryd.pinned.checked.prog.headLifts.contains "ownunsafe" = false := by kernel_rfl
theorem tie : Tryd.prog.laidByTextLater [("woodgrain/field.pairs", Rows.laid_woodgrain_field_pairs), ("woodgrain/field.have", Rows.laid_woodgrain_field_have)] [.data, .data] true :=
  Program.laidByTextLater.sub seatTie1 ["woodgrain/field.pairs", "woodgrain/field.have"] (by kernel_rfl) (by kernel_rfl)
theorem fieldFlips_row_tie : Rows.fieldFlipsRow.laidByTextAt .later Tryd.pinned [.data, .data] true :=
  OpenClaim.laidByTextAt_later rfl rfl tie noOwnUnsafe
theorem fieldFlipsUpto_row_tie : Rows.fieldFlipsUptoRow.laidByTextAt .later Tryd.pinned [.data, .data] true :=
  OpenClaim.laidByTextAt_later rfl rfl tie noOwnUnsafe
end Go.Proofs.YtkondnlilkpdoabDoor
