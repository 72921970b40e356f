/-
  DERIVED. GIVEN WITH THE SEED: THE CARDS: each row of YtelmohajdmcnmaaDoorRows.lean that lists a variable, with what it lists TIED to the program's text (the seventh form; the later family's looks); each row that meets fmt, with fmt's text TOLD by the authors' own Lean function (tested against real Go, not proved from fmt's source: count such statements apart). THE CARD IS WHAT COUNTS. Prove the row's statement (the work); the ties are given (YtelmohajdmcnmaaDoorTie.lean); close each card by the builder's one call (the guide's Derived/Test/ToyasCard.lean, 'card_holds'). Laid BY PROGRAM, IN A SANDBOX (cutbox-door.mjs). By AI agents, Wed Nov 11 2026. No macro, syntax, notation, axiom, sorry.
-/
import Derived.Test.YtelmohajdmcnmaaDoorRows
import GoSem.ClaimSeven
namespace Go.Proofs.YtelmohajdmcnmaaDoor
namespace Rows

/-- THE TIED CARD OF 'woodgrainlaw12.MicroCounts'. -/
def microCountsCard : Claim7 := { stood := { row := microCountsRow, standIns := [], harness := (true, "c264c73de3e7723eac7a21dfc3a4f81260b6fc1fdd1effc6b9800ee6361d8d70"), looks := false }, kinds := [], alts := [], laidByText := true, laidKinds := [.data, .data, .data, .data], laidTests := true, laidLooks := .later }
def MicroCountsCardSaid : Prop := Claim7.holds Tryd.pinned (.plain (OpenSpec.ofChange microCountsSpec)) microCountsCard

/-- THE TIED CARD OF 'woodgrainlaw12.MicroHalts'. -/
def microHaltsCard : Claim7 := { stood := { row := microHaltsRow, standIns := [], harness := (true, "c264c73de3e7723eac7a21dfc3a4f81260b6fc1fdd1effc6b9800ee6361d8d70"), looks := false }, kinds := [], alts := [], laidByText := true, laidKinds := [.data], laidTests := true, laidLooks := .later }
def MicroHaltsCardSaid : Prop := Claim7.holds Tryd.pinned (.plain (OpenSpec.ofChange microHaltsSpec)) microHaltsCard

/-- THE TIED CARD OF 'woodgrainlaw12.MicroJams'. -/
def microJamsCard : Claim7 := { stood := { row := microJamsRow, standIns := [], harness := (true, "c264c73de3e7723eac7a21dfc3a4f81260b6fc1fdd1effc6b9800ee6361d8d70"), looks := false }, kinds := [], alts := [], laidByText := true, laidKinds := [.data], laidTests := true, laidLooks := .later }
def MicroJamsCardSaid : Prop := Claim7.holds Tryd.pinned (.plain (OpenSpec.ofChange microJamsSpec)) microJamsCard

/-- THE TIED CARD OF 'woodgrainlaw12.MicroCopies'. -/
def microCopiesCard : Claim7 := { stood := { row := microCopiesRow, standIns := [], harness := (true, "c264c73de3e7723eac7a21dfc3a4f81260b6fc1fdd1effc6b9800ee6361d8d70"), looks := false }, kinds := [], alts := [], laidByText := true, laidKinds := [.data], laidTests := true, laidLooks := .later }
def MicroCopiesCardSaid : Prop := Claim7.holds Tryd.pinned (.plain (OpenSpec.ofChange microCopiesSpec)) microCopiesCard

/-- THE TIED CARD OF 'woodgrainlaw12.MicroNil'. -/
def microNilCard : Claim7 := { stood := { row := microNilRow, standIns := [], harness := (true, "c264c73de3e7723eac7a21dfc3a4f81260b6fc1fdd1effc6b9800ee6361d8d70"), looks := false }, kinds := [], alts := [], laidByText := true, laidKinds := [.data], laidTests := true, laidLooks := .later }
def MicroNilCardSaid : Prop := Claim7.holds Tryd.pinned (.plain (OpenSpec.ofChange microNilSpec)) microNilCard

/-- THE TIED CARD OF 'woodgraintop.TopImmediate'. -/
def topImmediateCard : Claim7 := { stood := { row := topImmediateRow, standIns := [], harness := (true, "c264c73de3e7723eac7a21dfc3a4f81260b6fc1fdd1effc6b9800ee6361d8d70"), looks := false }, kinds := [], alts := [], laidByText := true, laidKinds := [.data], laidTests := true, laidLooks := .later }
def TopImmediateCardSaid : Prop := Claim7.holds Tryd.pinned (.plain (OpenSpec.ofChange topImmediateSpec)) topImmediateCard

/-- THE TIED CARD OF 'woodgraintop.TopStack'. -/
def topStackCard : Claim7 := { stood := { row := topStackRow, standIns := [], harness := (true, "c264c73de3e7723eac7a21dfc3a4f81260b6fc1fdd1effc6b9800ee6361d8d70"), looks := false }, kinds := [], alts := [], laidByText := true, laidKinds := [.data], laidTests := true, laidLooks := .later }
def TopStackCardSaid : Prop := Claim7.holds Tryd.pinned (.plain (OpenSpec.ofChange topStackSpec)) topStackCard

/-- THE TIED CARD OF 'woodgraintop.TopMemory'. -/
def topMemoryCard : Claim7 := { stood := { row := topMemoryRow, standIns := [], harness := (true, "c264c73de3e7723eac7a21dfc3a4f81260b6fc1fdd1effc6b9800ee6361d8d70"), looks := false }, kinds := [], alts := [], laidByText := true, laidKinds := [.data], laidTests := true, laidLooks := .later }
def TopMemoryCardSaid : Prop := Claim7.holds Tryd.pinned (.plain (OpenSpec.ofChange topMemorySpec)) topMemoryCard

/-- THE SECOND FORM's CARD OF 'woodgrainlaw12.MicroCounts'. -/
def microCountsUptoCard : Claim7 := { stood := { row := microCountsUptoRow, standIns := [], harness := (true, "c264c73de3e7723eac7a21dfc3a4f81260b6fc1fdd1effc6b9800ee6361d8d70"), looks := false }, kinds := [], alts := [], laidByText := true, laidKinds := [.data, .data, .data, .data], laidTests := true, laidLooks := .later }
def MicroCountsUptoCardSaid : Prop := Claim7.holds Tryd.pinned (.plain (OpenSpec.upto microCountsSpec)) microCountsUptoCard

/-- THE SECOND FORM's CARD OF 'woodgrainlaw12.MicroHalts'. -/
def microHaltsUptoCard : Claim7 := { stood := { row := microHaltsUptoRow, standIns := [], harness := (true, "c264c73de3e7723eac7a21dfc3a4f81260b6fc1fdd1effc6b9800ee6361d8d70"), looks := false }, kinds := [], alts := [], laidByText := true, laidKinds := [.data], laidTests := true, laidLooks := .later }
def MicroHaltsUptoCardSaid : Prop := Claim7.holds Tryd.pinned (.plain (OpenSpec.upto microHaltsSpec)) microHaltsUptoCard

/-- THE SECOND FORM's CARD OF 'woodgrainlaw12.MicroJams'. -/
def microJamsUptoCard : Claim7 := { stood := { row := microJamsUptoRow, standIns := [], harness := (true, "c264c73de3e7723eac7a21dfc3a4f81260b6fc1fdd1effc6b9800ee6361d8d70"), looks := false }, kinds := [], alts := [], laidByText := true, laidKinds := [.data], laidTests := true, laidLooks := .later }
def MicroJamsUptoCardSaid : Prop := Claim7.holds Tryd.pinned (.plain (OpenSpec.upto microJamsSpec)) microJamsUptoCard

/-- THE SECOND FORM's CARD OF 'woodgrainlaw12.MicroCopies'. -/
def microCopiesUptoCard : Claim7 := { stood := { row := microCopiesUptoRow, standIns := [], harness := (true, "c264c73de3e7723eac7a21dfc3a4f81260b6fc1fdd1effc6b9800ee6361d8d70"), looks := false }, kinds := [], alts := [], laidByText := true, laidKinds := [.data], laidTests := true, laidLooks := .later }
def MicroCopiesUptoCardSaid : Prop := Claim7.holds Tryd.pinned (.plain (OpenSpec.upto microCopiesSpec)) microCopiesUptoCard

/-- THE SECOND FORM's CARD OF 'woodgrainlaw12.MicroNil'. -/
def microNilUptoCard : Claim7 := { stood := { row := microNilUptoRow, standIns := [], harness := (true, "c264c73de3e7723eac7a21dfc3a4f81260b6fc1fdd1effc6b9800ee6361d8d70"), looks := false }, kinds := [], alts := [], laidByText := true, laidKinds := [.data], laidTests := true, laidLooks := .later }
def MicroNilUptoCardSaid : Prop := Claim7.holds Tryd.pinned (.plain (OpenSpec.upto microNilSpec)) microNilUptoCard

/-- THE SECOND FORM's CARD OF 'woodgraintop.TopImmediate'. -/
def topImmediateUptoCard : Claim7 := { stood := { row := topImmediateUptoRow, standIns := [], harness := (true, "c264c73de3e7723eac7a21dfc3a4f81260b6fc1fdd1effc6b9800ee6361d8d70"), looks := false }, kinds := [], alts := [], laidByText := true, laidKinds := [.data], laidTests := true, laidLooks := .later }
def TopImmediateUptoCardSaid : Prop := Claim7.holds Tryd.pinned (.plain (OpenSpec.upto topImmediateSpec)) topImmediateUptoCard

/-- THE SECOND FORM's CARD OF 'woodgraintop.TopStack'. -/
def topStackUptoCard : Claim7 := { stood := { row := topStackUptoRow, standIns := [], harness := (true, "c264c73de3e7723eac7a21dfc3a4f81260b6fc1fdd1effc6b9800ee6361d8d70"), looks := false }, kinds := [], alts := [], laidByText := true, laidKinds := [.data], laidTests := true, laidLooks := .later }
def TopStackUptoCardSaid : Prop := Claim7.holds Tryd.pinned (.plain (OpenSpec.upto topStackSpec)) topStackUptoCard

/-- THE SECOND FORM's CARD OF 'woodgraintop.TopMemory'. -/
def topMemoryUptoCard : Claim7 := { stood := { row := topMemoryUptoRow, standIns := [], harness := (true, "c264c73de3e7723eac7a21dfc3a4f81260b6fc1fdd1effc6b9800ee6361d8d70"), looks := false }, kinds := [], alts := [], laidByText := true, laidKinds := [.data], laidTests := true, laidLooks := .later }
def TopMemoryUptoCardSaid : Prop := Claim7.holds Tryd.pinned (.plain (OpenSpec.upto topMemorySpec)) topMemoryUptoCard
end Rows
end Go.Proofs.YtelmohajdmcnmaaDoor
