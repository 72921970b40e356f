/-
  DERIVED. GIVEN WITH THE SEED: THE PROGRAM's TIES (one call each: nine closed facts by the kernel) AND EACH ROW's TIE, after the 31st guide's Derived/Test/Toyas{Tie, Card}.lean. No idea stands in it: it is a product of the set-up. Laid BY PROGRAM, IN A SANDBOX (cutbox-door.mjs). By AI agents, Wed Nov 11 2026. No macro, syntax, notation, axiom, sorry.
-/
import Derived.Test.YtelmohajdmcnmaaDoorRows
import Derived.LaidByTextLater
import Derived.SevenTiedAt
import Derived.LaidSub
import Derived.LaidOnce
namespace Go.Proofs.YtelmohajdmcnmaaDoor
open Go
set_option maxRecDepth 100000
theorem seatTie1 : Tryd.prog.laidByTextLater [("woodgrain/code.readCycles", Rows.laid_woodgrain_code_readCycles), ("woodgrain/code.storeCycles", Rows.laid_woodgrain_code_storeCycles), ("woodgrain/code.turnCycles", Rows.laid_woodgrain_code_turnCycles), ("woodgrain/code.modes", Rows.laid_woodgrain_code_modes)] [.data, .data, .data, .data] true :=
  Program.laidByTextLater_by_one 29 8 14 (by kernel_rfl) (by kernel_rfl) (by kernel_rfl) (by kernel_rfl) (by kernel_rfl) (by kernel_rfl) (fun _ _ => by kernel_rfl)
theorem noOwnUnsafe : Tryd.pinned.checked.prog.headLifts.contains "ownunsafe" = false := by kernel_rfl
theorem tie : Tryd.prog.laidByTextLater [("woodgrain/code.readCycles", Rows.laid_woodgrain_code_readCycles), ("woodgrain/code.storeCycles", Rows.laid_woodgrain_code_storeCycles), ("woodgrain/code.turnCycles", Rows.laid_woodgrain_code_turnCycles), ("woodgrain/code.modes", Rows.laid_woodgrain_code_modes)] [.data, .data, .data, .data] true :=
  Program.laidByTextLater.sub seatTie1 ["woodgrain/code.readCycles", "woodgrain/code.storeCycles", "woodgrain/code.turnCycles", "woodgrain/code.modes"] (by kernel_rfl) (by kernel_rfl)
theorem microCounts_row_tie : Rows.microCountsRow.laidByTextAt .later Tryd.pinned [.data, .data, .data, .data] true :=
  OpenClaim.laidByTextAt_later rfl rfl tie noOwnUnsafe
theorem tie2 : Tryd.prog.laidByTextLater [("woodgrain/code.modes", Rows.laid_woodgrain_code_modes)] [.data] true :=
  Program.laidByTextLater.sub seatTie1 ["woodgrain/code.modes"] (by kernel_rfl) (by kernel_rfl)
theorem microHalts_row_tie : Rows.microHaltsRow.laidByTextAt .later Tryd.pinned [.data] true :=
  OpenClaim.laidByTextAt_later rfl rfl tie2 noOwnUnsafe
theorem microJams_row_tie : Rows.microJamsRow.laidByTextAt .later Tryd.pinned [.data] true :=
  OpenClaim.laidByTextAt_later rfl rfl tie2 noOwnUnsafe
theorem microCopies_row_tie : Rows.microCopiesRow.laidByTextAt .later Tryd.pinned [.data] true :=
  OpenClaim.laidByTextAt_later rfl rfl tie2 noOwnUnsafe
theorem microNil_row_tie : Rows.microNilRow.laidByTextAt .later Tryd.pinned [.data] true :=
  OpenClaim.laidByTextAt_later rfl rfl tie2 noOwnUnsafe
theorem topImmediate_row_tie : Rows.topImmediateRow.laidByTextAt .later Tryd.pinned [.data] true :=
  OpenClaim.laidByTextAt_later rfl rfl tie2 noOwnUnsafe
theorem topStack_row_tie : Rows.topStackRow.laidByTextAt .later Tryd.pinned [.data] true :=
  OpenClaim.laidByTextAt_later rfl rfl tie2 noOwnUnsafe
theorem topMemory_row_tie : Rows.topMemoryRow.laidByTextAt .later Tryd.pinned [.data] true :=
  OpenClaim.laidByTextAt_later rfl rfl tie2 noOwnUnsafe
theorem microCountsUpto_row_tie : Rows.microCountsUptoRow.laidByTextAt .later Tryd.pinned [.data, .data, .data, .data] true :=
  OpenClaim.laidByTextAt_later rfl rfl tie noOwnUnsafe
theorem microHaltsUpto_row_tie : Rows.microHaltsUptoRow.laidByTextAt .later Tryd.pinned [.data] true :=
  OpenClaim.laidByTextAt_later rfl rfl tie2 noOwnUnsafe
theorem microJamsUpto_row_tie : Rows.microJamsUptoRow.laidByTextAt .later Tryd.pinned [.data] true :=
  OpenClaim.laidByTextAt_later rfl rfl tie2 noOwnUnsafe
theorem microCopiesUpto_row_tie : Rows.microCopiesUptoRow.laidByTextAt .later Tryd.pinned [.data] true :=
  OpenClaim.laidByTextAt_later rfl rfl tie2 noOwnUnsafe
theorem microNilUpto_row_tie : Rows.microNilUptoRow.laidByTextAt .later Tryd.pinned [.data] true :=
  OpenClaim.laidByTextAt_later rfl rfl tie2 noOwnUnsafe
theorem topImmediateUpto_row_tie : Rows.topImmediateUptoRow.laidByTextAt .later Tryd.pinned [.data] true :=
  OpenClaim.laidByTextAt_later rfl rfl tie2 noOwnUnsafe
theorem topStackUpto_row_tie : Rows.topStackUptoRow.laidByTextAt .later Tryd.pinned [.data] true :=
  OpenClaim.laidByTextAt_later rfl rfl tie2 noOwnUnsafe
theorem topMemoryUpto_row_tie : Rows.topMemoryUptoRow.laidByTextAt .later Tryd.pinned [.data] true :=
  OpenClaim.laidByTextAt_later rfl rfl tie2 noOwnUnsafe
end Go.Proofs.YtelmohajdmcnmaaDoor
