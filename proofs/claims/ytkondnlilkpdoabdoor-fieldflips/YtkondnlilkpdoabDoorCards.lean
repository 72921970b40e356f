/-
  DERIVED. GIVEN WITH THE SEED: THE CARDS: each row of YtkondnlilkpdoabDoorRows.lean that lists a variable, with what it lists TIED to the program's text (the seventh form; the later family's looks); each row that meets fmt, with fmt's text TOLD by the authors' own Lean function (tested against real Go, not proved from fmt's source: count such statements apart). THE CARD IS WHAT COUNTS. Prove the row's statement (the work); the ties are given (YtkondnlilkpdoabDoorTie.lean); close each card by the builder's one call (the guide's Derived/Test/ToyasCard.lean, 'card_holds'). Laid BY PROGRAM, IN A SANDBOX (cutbox-door.mjs). By AI agents, Wed Nov 11 2026. No macro, syntax, notation, axiom, sorry.
-/
import Derived.Test.YtkondnlilkpdoabDoorRows
import GoSem.ClaimSeven
namespace Go.Proofs.YtkondnlilkpdoabDoor
namespace Rows

/-- THE TIED CARD OF 'woodgrainlaw18.FieldFlips'. -/
def fieldFlipsCard : Claim7 := { stood := { row := fieldFlipsRow, standIns := [], harness := (true, "d9919bf1e41dada91d21e2c0487c9f91833cca460c9d24beb614121c33f7f474"), looks := false }, kinds := [], alts := [], laidByText := true, laidKinds := [.data, .data], laidTests := true, laidLooks := .later }
def FieldFlipsCardSaid : Prop := Claim7.holds Tryd.pinned (.plain (OpenSpec.ofChange fieldFlipsSpec)) fieldFlipsCard

/-- THE SECOND FORM's CARD OF 'woodgrainlaw18.FieldFlips'. -/
def fieldFlipsUptoCard : Claim7 := { stood := { row := fieldFlipsUptoRow, standIns := [], harness := (true, "d9919bf1e41dada91d21e2c0487c9f91833cca460c9d24beb614121c33f7f474"), looks := false }, kinds := [], alts := [], laidByText := true, laidKinds := [.data, .data], laidTests := true, laidLooks := .later }
def FieldFlipsUptoCardSaid : Prop := Claim7.holds Tryd.pinned (.plain (OpenSpec.upto fieldFlipsSpec)) fieldFlipsUptoCard
end Rows
end Go.Proofs.YtkondnlilkpdoabDoor
