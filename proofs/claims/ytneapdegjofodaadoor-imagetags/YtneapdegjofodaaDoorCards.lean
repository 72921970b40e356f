/-
  DERIVED. GIVEN WITH THE SEED: THE CARDS: each row of YtneapdegjofodaaDoorRows.lean that lists a variable, with what it lists TIED to the program's text (the seventh form; the later family's looks); each row that meets fmt, with fmt's text TOLD by the authors' own Lean function (tested against real Go, not proved from fmt's source: count such statements apart). THE CARD IS WHAT COUNTS. Prove the row's statement (the work); the ties are given (YtneapdegjofodaaDoorTie.lean); close each card by the builder's one call (the guide's Derived/Test/ToyasCard.lean, 'card_holds'). Laid BY PROGRAM, IN A SANDBOX (cutbox-door.mjs). By AI agents, Wed Nov 11 2026. No macro, syntax, notation, axiom, sorry.
-/
import Derived.Test.YtneapdegjofodaaDoorRows
import GoSem.ClaimSeven
namespace Go.Proofs.YtneapdegjofodaaDoor
namespace Rows

/-- THE TIED CARD OF 'woodgrainlaw04.ImageFits'. -/
def imageFitsCard : Claim7 := { stood := { row := imageFitsRow, standIns := [], harness := (true, "3c148d4b57cf9b124ed066a594938a401a5909643f47546abe5b5762ddf353c6"), looks := false }, kinds := [], alts := [], laidByText := true, laidKinds := [.data], laidTests := true, laidLooks := .later }
def ImageFitsCardSaid : Prop := Claim7.holds Tryd.pinned (.plain (OpenSpec.ofChange imageFitsSpec)) imageFitsCard

/-- THE TIED CARD OF 'woodgrainlaw04.ImageTags'. -/
def imageTagsCard : Claim7 := { stood := { row := imageTagsRow, standIns := [], harness := (true, "3c148d4b57cf9b124ed066a594938a401a5909643f47546abe5b5762ddf353c6"), looks := false }, kinds := [], alts := [], laidByText := true, laidKinds := [.data], laidTests := true, laidLooks := .later }
def ImageTagsCardSaid : Prop := Claim7.holds Tryd.pinned (.plain (OpenSpec.ofChange imageTagsSpec)) imageTagsCard

/-- THE TIED CARD OF 'woodgrainlaw04.ImageWhole'. -/
def imageWholeCard : Claim7 := { stood := { row := imageWholeRow, standIns := [], harness := (true, "3c148d4b57cf9b124ed066a594938a401a5909643f47546abe5b5762ddf353c6"), looks := false }, kinds := [], alts := [], laidByText := true, laidKinds := [.data], laidTests := true, laidLooks := .later }
def ImageWholeCardSaid : Prop := Claim7.holds Tryd.pinned (.plain (OpenSpec.ofChange imageWholeSpec)) imageWholeCard

/-- THE SECOND FORM's CARD OF 'woodgrainlaw04.ImageFits'. -/
def imageFitsUptoCard : Claim7 := { stood := { row := imageFitsUptoRow, standIns := [], harness := (true, "3c148d4b57cf9b124ed066a594938a401a5909643f47546abe5b5762ddf353c6"), looks := false }, kinds := [], alts := [], laidByText := true, laidKinds := [.data], laidTests := true, laidLooks := .later }
def ImageFitsUptoCardSaid : Prop := Claim7.holds Tryd.pinned (.plain (OpenSpec.upto imageFitsSpec)) imageFitsUptoCard

/-- THE SECOND FORM's CARD OF 'woodgrainlaw04.ImageTags'. -/
def imageTagsUptoCard : Claim7 := { stood := { row := imageTagsUptoRow, standIns := [], harness := (true, "3c148d4b57cf9b124ed066a594938a401a5909643f47546abe5b5762ddf353c6"), looks := false }, kinds := [], alts := [], laidByText := true, laidKinds := [.data], laidTests := true, laidLooks := .later }
def ImageTagsUptoCardSaid : Prop := Claim7.holds Tryd.pinned (.plain (OpenSpec.upto imageTagsSpec)) imageTagsUptoCard

/-- THE SECOND FORM's CARD OF 'woodgrainlaw04.ImageWhole'. -/
def imageWholeUptoCard : Claim7 := { stood := { row := imageWholeUptoRow, standIns := [], harness := (true, "3c148d4b57cf9b124ed066a594938a401a5909643f47546abe5b5762ddf353c6"), looks := false }, kinds := [], alts := [], laidByText := true, laidKinds := [.data], laidTests := true, laidLooks := .later }
def ImageWholeUptoCardSaid : Prop := Claim7.holds Tryd.pinned (.plain (OpenSpec.upto imageWholeSpec)) imageWholeUptoCard
end Rows
end Go.Proofs.YtneapdegjofodaaDoor
