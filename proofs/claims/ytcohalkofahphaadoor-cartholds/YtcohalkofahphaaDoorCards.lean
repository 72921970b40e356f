/-
  DERIVED. GIVEN WITH THE SEED: THE CARDS: each row of YtcohalkofahphaaDoorRows.lean that lists a variable, with what it lists TIED to the program's text (the seventh form; the later family's looks); each row that meets fmt, with fmt's text TOLD by the authors' own Lean function (tested against real Go, not proved from fmt's source: count such statements apart). THE CARD IS WHAT COUNTS. Prove the row's statement (the work); the ties are given (YtcohalkofahphaaDoorTie.lean); close each card by the builder's one call (the guide's Derived/Test/ToyasCard.lean, 'card_holds'). Laid BY PROGRAM, IN A SANDBOX (cutbox-door.mjs). By AI agents, Wed Nov 11 2026. No macro, syntax, notation, axiom, sorry.
-/
import Derived.Test.YtcohalkofahphaaDoorRows
import GoSem.ClaimSeven
namespace Go.Proofs.YtcohalkofahphaaDoor
namespace Rows

/-- THE TIED CARD OF 'woodgrainlaw04.ImageFits'. -/
def imageFitsCard : Claim7 := { stood := { row := imageFitsRow, standIns := [], harness := (true, "98004b26e43588a167363ef27a9912f37cb9bd7e5cb4cc96505a723717825503"), looks := false }, kinds := [], alts := [], laidByText := true, laidKinds := [.data], laidTests := true, laidLooks := .later }
def ImageFitsCardSaid : Prop := Claim7.holds Tryd.pinned (.plain (OpenSpec.ofChange imageFitsSpec)) imageFitsCard

/-- THE TIED CARD OF 'woodgrainlaw05.CartPlays'. -/
def cartPlaysCard : Claim7 := { stood := { row := cartPlaysRow, standIns := [], harness := (true, "98004b26e43588a167363ef27a9912f37cb9bd7e5cb4cc96505a723717825503"), looks := false }, kinds := [], alts := [], laidByText := true, laidKinds := [.data], laidTests := true, laidLooks := .later }
def CartPlaysCardSaid : Prop := Claim7.holds Tryd.pinned (.plain (OpenSpec.ofChange cartPlaysSpec)) cartPlaysCard

/-- THE TIED CARD OF 'woodgrainlaw05.CartSets'. -/
def cartSetsCard : Claim7 := { stood := { row := cartSetsRow, standIns := [], harness := (true, "98004b26e43588a167363ef27a9912f37cb9bd7e5cb4cc96505a723717825503"), looks := false }, kinds := [], alts := [], laidByText := true, laidKinds := [.data], laidTests := true, laidLooks := .later }
def CartSetsCardSaid : Prop := Claim7.holds Tryd.pinned (.plain (OpenSpec.ofChange cartSetsSpec)) cartSetsCard

/-- THE TIED CARD OF 'woodgrainlaw05.CartServes'. -/
def cartServesCard : Claim7 := { stood := { row := cartServesRow, standIns := [], harness := (true, "98004b26e43588a167363ef27a9912f37cb9bd7e5cb4cc96505a723717825503"), looks := false }, kinds := [], alts := [], laidByText := true, laidKinds := [.data], laidTests := true, laidLooks := .later }
def CartServesCardSaid : Prop := Claim7.holds Tryd.pinned (.plain (OpenSpec.ofChange cartServesSpec)) cartServesCard

/-- THE TIED CARD OF 'woodgrainlaw05.CartHolds'. -/
def cartHoldsCard : Claim7 := { stood := { row := cartHoldsRow, standIns := [], harness := (true, "98004b26e43588a167363ef27a9912f37cb9bd7e5cb4cc96505a723717825503"), looks := false }, kinds := [], alts := [], laidByText := true, laidKinds := [.data], laidTests := true, laidLooks := .later }
def CartHoldsCardSaid : Prop := Claim7.holds Tryd.pinned (.plain (OpenSpec.ofChange cartHoldsSpec)) cartHoldsCard

/-- THE TIED CARD OF 'woodgrainlaw05.CartCopies'. -/
def cartCopiesCard : Claim7 := { stood := { row := cartCopiesRow, standIns := [], harness := (true, "98004b26e43588a167363ef27a9912f37cb9bd7e5cb4cc96505a723717825503"), looks := false }, kinds := [], alts := [], laidByText := true, laidKinds := [.data], laidTests := true, laidLooks := .later }
def CartCopiesCardSaid : Prop := Claim7.holds Tryd.pinned (.plain (OpenSpec.ofChange cartCopiesSpec)) cartCopiesCard

/-- THE TIED CARD OF 'woodgrainlaw05.CartNil'. -/
def cartNilCard : Claim7 := { stood := { row := cartNilRow, standIns := [], harness := (true, "98004b26e43588a167363ef27a9912f37cb9bd7e5cb4cc96505a723717825503"), looks := false }, kinds := [], alts := [], laidByText := true, laidKinds := [.data], laidTests := true, laidLooks := .later }
def CartNilCardSaid : Prop := Claim7.holds Tryd.pinned (.plain (OpenSpec.ofChange cartNilSpec)) cartNilCard

/-- THE SECOND FORM's CARD OF 'woodgrainlaw04.ImageFits'. -/
def imageFitsUptoCard : Claim7 := { stood := { row := imageFitsUptoRow, standIns := [], harness := (true, "98004b26e43588a167363ef27a9912f37cb9bd7e5cb4cc96505a723717825503"), looks := false }, kinds := [], alts := [], laidByText := true, laidKinds := [.data], laidTests := true, laidLooks := .later }
def ImageFitsUptoCardSaid : Prop := Claim7.holds Tryd.pinned (.plain (OpenSpec.upto imageFitsSpec)) imageFitsUptoCard

/-- THE SECOND FORM's CARD OF 'woodgrainlaw05.CartPlays'. -/
def cartPlaysUptoCard : Claim7 := { stood := { row := cartPlaysUptoRow, standIns := [], harness := (true, "98004b26e43588a167363ef27a9912f37cb9bd7e5cb4cc96505a723717825503"), looks := false }, kinds := [], alts := [], laidByText := true, laidKinds := [.data], laidTests := true, laidLooks := .later }
def CartPlaysUptoCardSaid : Prop := Claim7.holds Tryd.pinned (.plain (OpenSpec.upto cartPlaysSpec)) cartPlaysUptoCard

/-- THE SECOND FORM's CARD OF 'woodgrainlaw05.CartSets'. -/
def cartSetsUptoCard : Claim7 := { stood := { row := cartSetsUptoRow, standIns := [], harness := (true, "98004b26e43588a167363ef27a9912f37cb9bd7e5cb4cc96505a723717825503"), looks := false }, kinds := [], alts := [], laidByText := true, laidKinds := [.data], laidTests := true, laidLooks := .later }
def CartSetsUptoCardSaid : Prop := Claim7.holds Tryd.pinned (.plain (OpenSpec.upto cartSetsSpec)) cartSetsUptoCard

/-- THE SECOND FORM's CARD OF 'woodgrainlaw05.CartServes'. -/
def cartServesUptoCard : Claim7 := { stood := { row := cartServesUptoRow, standIns := [], harness := (true, "98004b26e43588a167363ef27a9912f37cb9bd7e5cb4cc96505a723717825503"), looks := false }, kinds := [], alts := [], laidByText := true, laidKinds := [.data], laidTests := true, laidLooks := .later }
def CartServesUptoCardSaid : Prop := Claim7.holds Tryd.pinned (.plain (OpenSpec.upto cartServesSpec)) cartServesUptoCard

/-- THE SECOND FORM's CARD OF 'woodgrainlaw05.CartHolds'. -/
def cartHoldsUptoCard : Claim7 := { stood := { row := cartHoldsUptoRow, standIns := [], harness := (true, "98004b26e43588a167363ef27a9912f37cb9bd7e5cb4cc96505a723717825503"), looks := false }, kinds := [], alts := [], laidByText := true, laidKinds := [.data], laidTests := true, laidLooks := .later }
def CartHoldsUptoCardSaid : Prop := Claim7.holds Tryd.pinned (.plain (OpenSpec.upto cartHoldsSpec)) cartHoldsUptoCard

/-- THE SECOND FORM's CARD OF 'woodgrainlaw05.CartCopies'. -/
def cartCopiesUptoCard : Claim7 := { stood := { row := cartCopiesUptoRow, standIns := [], harness := (true, "98004b26e43588a167363ef27a9912f37cb9bd7e5cb4cc96505a723717825503"), looks := false }, kinds := [], alts := [], laidByText := true, laidKinds := [.data], laidTests := true, laidLooks := .later }
def CartCopiesUptoCardSaid : Prop := Claim7.holds Tryd.pinned (.plain (OpenSpec.upto cartCopiesSpec)) cartCopiesUptoCard

/-- THE SECOND FORM's CARD OF 'woodgrainlaw05.CartNil'. -/
def cartNilUptoCard : Claim7 := { stood := { row := cartNilUptoRow, standIns := [], harness := (true, "98004b26e43588a167363ef27a9912f37cb9bd7e5cb4cc96505a723717825503"), looks := false }, kinds := [], alts := [], laidByText := true, laidKinds := [.data], laidTests := true, laidLooks := .later }
def CartNilUptoCardSaid : Prop := Claim7.holds Tryd.pinned (.plain (OpenSpec.upto cartNilSpec)) cartNilUptoCard
end Rows
end Go.Proofs.YtcohalkofahphaaDoor
