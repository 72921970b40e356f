/-
  DERIVED. GIVEN WITH THE SEED: THE CARDS: each row of YtkondnlilkpdoaaDoorRows.lean that lists a variable, with what it lists TIED to the program's text (the seventh form; the later family's looks); each row that meets fmt, with fmt's text TOLD by the authors' own Lean function (tested against real Go, not proved from fmt's source: count such statements apart). THE CARD IS WHAT COUNTS. Prove the row's statement (the work); the ties are given (YtkondnlilkpdoaaDoorTie.lean); close each card by the builder's one call (the guide's Derived/Test/ToyasCard.lean, 'card_holds'). Laid BY PROGRAM, IN A SANDBOX (cutbox-door.mjs). By AI agents, Wed Nov 11 2026. No macro, syntax, notation, axiom, sorry.
-/
import Derived.Test.YtkondnlilkpdoaaDoorRows
import GoSem.ClaimSeven
namespace Go.Proofs.YtkondnlilkpdoaaDoor
namespace Rows

/-- THE TIED CARD OF 'woodgrainlaw18.FieldLits'. -/
def fieldLitsCard : Claim7 := { stood := { row := fieldLitsRow, standIns := [], harness := (true, "4ad75363ccbc74f3dc16f9e594e2dad7b7075b5e05de0f293468f57f496ee252"), looks := false }, kinds := [], alts := [], laidByText := true, laidKinds := [.data, .data], laidTests := true, laidLooks := .later }
def FieldLitsCardSaid : Prop := Claim7.holds Tryd.pinned (.plain (OpenSpec.ofChange fieldLitsSpec)) fieldLitsCard

/-- THE TIED CARD OF 'woodgrainlaw18.FieldSees'. -/
def fieldSeesCard : Claim7 := { stood := { row := fieldSeesRow, standIns := [], harness := (true, "4ad75363ccbc74f3dc16f9e594e2dad7b7075b5e05de0f293468f57f496ee252"), looks := false }, kinds := [], alts := [], laidByText := true, laidKinds := [.data, .data], laidTests := true, laidLooks := .later }
def FieldSeesCardSaid : Prop := Claim7.holds Tryd.pinned (.plain (OpenSpec.ofChange fieldSeesSpec)) fieldSeesCard

/-- THE TIED CARD OF 'woodgrainlaw18.FieldTells'. -/
def fieldTellsCard : Claim7 := { stood := { row := fieldTellsRow, standIns := [], harness := (true, "4ad75363ccbc74f3dc16f9e594e2dad7b7075b5e05de0f293468f57f496ee252"), looks := false }, kinds := [], alts := [], laidByText := true, laidKinds := [.data, .data], laidTests := true, laidLooks := .later }
def FieldTellsCardSaid : Prop := Claim7.holds Tryd.pinned (.plain (OpenSpec.ofChange fieldTellsSpec)) fieldTellsCard

/-- THE TIED CARD OF 'woodgrainlaw18.FieldGraphs'. -/
def fieldGraphsCard : Claim7 := { stood := { row := fieldGraphsRow, standIns := [], harness := (true, "4ad75363ccbc74f3dc16f9e594e2dad7b7075b5e05de0f293468f57f496ee252"), looks := false }, kinds := [], alts := [], laidByText := true, laidKinds := [.data, .data], laidTests := true, laidLooks := .later }
def FieldGraphsCardSaid : Prop := Claim7.holds Tryd.pinned (.plain (OpenSpec.ofChange fieldGraphsSpec)) fieldGraphsCard

/-- THE TIED CARD OF 'woodgrainlaw18.FieldHalves'. -/
def fieldHalvesCard : Claim7 := { stood := { row := fieldHalvesRow, standIns := [], harness := (true, "4ad75363ccbc74f3dc16f9e594e2dad7b7075b5e05de0f293468f57f496ee252"), looks := false }, kinds := [], alts := [], laidByText := true, laidKinds := [.data, .data], laidTests := true, laidLooks := .later }
def FieldHalvesCardSaid : Prop := Claim7.holds Tryd.pinned (.plain (OpenSpec.ofChange fieldHalvesSpec)) fieldHalvesCard

/-- THE TIED CARD OF 'woodgrainlaw18.FieldMeets'. -/
def fieldMeetsCard : Claim7 := { stood := { row := fieldMeetsRow, standIns := [], harness := (true, "4ad75363ccbc74f3dc16f9e594e2dad7b7075b5e05de0f293468f57f496ee252"), looks := false }, kinds := [], alts := [], laidByText := true, laidKinds := [.data, .data], laidTests := true, laidLooks := .later }
def FieldMeetsCardSaid : Prop := Claim7.holds Tryd.pinned (.plain (OpenSpec.ofChange fieldMeetsSpec)) fieldMeetsCard

/-- THE SECOND FORM's CARD OF 'woodgrainlaw18.FieldLits'. -/
def fieldLitsUptoCard : Claim7 := { stood := { row := fieldLitsUptoRow, standIns := [], harness := (true, "4ad75363ccbc74f3dc16f9e594e2dad7b7075b5e05de0f293468f57f496ee252"), looks := false }, kinds := [], alts := [], laidByText := true, laidKinds := [.data, .data], laidTests := true, laidLooks := .later }
def FieldLitsUptoCardSaid : Prop := Claim7.holds Tryd.pinned (.plain (OpenSpec.upto fieldLitsSpec)) fieldLitsUptoCard

/-- THE SECOND FORM's CARD OF 'woodgrainlaw18.FieldSees'. -/
def fieldSeesUptoCard : Claim7 := { stood := { row := fieldSeesUptoRow, standIns := [], harness := (true, "4ad75363ccbc74f3dc16f9e594e2dad7b7075b5e05de0f293468f57f496ee252"), looks := false }, kinds := [], alts := [], laidByText := true, laidKinds := [.data, .data], laidTests := true, laidLooks := .later }
def FieldSeesUptoCardSaid : Prop := Claim7.holds Tryd.pinned (.plain (OpenSpec.upto fieldSeesSpec)) fieldSeesUptoCard

/-- THE SECOND FORM's CARD OF 'woodgrainlaw18.FieldTells'. -/
def fieldTellsUptoCard : Claim7 := { stood := { row := fieldTellsUptoRow, standIns := [], harness := (true, "4ad75363ccbc74f3dc16f9e594e2dad7b7075b5e05de0f293468f57f496ee252"), looks := false }, kinds := [], alts := [], laidByText := true, laidKinds := [.data, .data], laidTests := true, laidLooks := .later }
def FieldTellsUptoCardSaid : Prop := Claim7.holds Tryd.pinned (.plain (OpenSpec.upto fieldTellsSpec)) fieldTellsUptoCard

/-- THE SECOND FORM's CARD OF 'woodgrainlaw18.FieldGraphs'. -/
def fieldGraphsUptoCard : Claim7 := { stood := { row := fieldGraphsUptoRow, standIns := [], harness := (true, "4ad75363ccbc74f3dc16f9e594e2dad7b7075b5e05de0f293468f57f496ee252"), looks := false }, kinds := [], alts := [], laidByText := true, laidKinds := [.data, .data], laidTests := true, laidLooks := .later }
def FieldGraphsUptoCardSaid : Prop := Claim7.holds Tryd.pinned (.plain (OpenSpec.upto fieldGraphsSpec)) fieldGraphsUptoCard

/-- THE SECOND FORM's CARD OF 'woodgrainlaw18.FieldHalves'. -/
def fieldHalvesUptoCard : Claim7 := { stood := { row := fieldHalvesUptoRow, standIns := [], harness := (true, "4ad75363ccbc74f3dc16f9e594e2dad7b7075b5e05de0f293468f57f496ee252"), looks := false }, kinds := [], alts := [], laidByText := true, laidKinds := [.data, .data], laidTests := true, laidLooks := .later }
def FieldHalvesUptoCardSaid : Prop := Claim7.holds Tryd.pinned (.plain (OpenSpec.upto fieldHalvesSpec)) fieldHalvesUptoCard

/-- THE SECOND FORM's CARD OF 'woodgrainlaw18.FieldMeets'. -/
def fieldMeetsUptoCard : Claim7 := { stood := { row := fieldMeetsUptoRow, standIns := [], harness := (true, "4ad75363ccbc74f3dc16f9e594e2dad7b7075b5e05de0f293468f57f496ee252"), looks := false }, kinds := [], alts := [], laidByText := true, laidKinds := [.data, .data], laidTests := true, laidLooks := .later }
def FieldMeetsUptoCardSaid : Prop := Claim7.holds Tryd.pinned (.plain (OpenSpec.upto fieldMeetsSpec)) fieldMeetsUptoCard
end Rows
end Go.Proofs.YtkondnlilkpdoaaDoor
