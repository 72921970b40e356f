/-
  DERIVED. GIVEN WITH THE SEED: THE CARDS: each row of YtgclgegdojnpcaaDoorRows.lean that lists a variable, with what it lists TIED to the program's text (the seventh form; the later family's looks); each row that meets fmt, with fmt's text TOLD by the authors' own Lean function (tested against real Go, not proved from fmt's source: count such statements apart). THE CARD IS WHAT COUNTS. Prove the row's statement (the work); the ties are given (YtgclgegdojnpcaaDoorTie.lean); close each card by the builder's one call (the guide's Derived/Test/ToyasCard.lean, 'card_holds'). Laid BY PROGRAM, IN A SANDBOX (cutbox-door.mjs). By AI agents, Wed Nov 11 2026. No macro, syntax, notation, axiom, sorry.
-/
import Derived.Test.YtgclgegdojnpcaaDoorRows
import GoSem.ClaimSeven
namespace Go.Proofs.YtgclgegdojnpcaaDoor
namespace Rows

/-- THE TIED CARD OF 'woodgrainlaw08.RiotPlays'. -/
def riotPlaysCard : Claim7 := { stood := { row := riotPlaysRow, standIns := [], harness := (true, "f1bab294e362c982a1aaf5ea5279a2cf30daa72e261d93d3346f39b88e9eab55"), looks := false }, kinds := [], alts := [], laidByText := true, laidKinds := [.data], laidTests := true, laidLooks := .later }
def RiotPlaysCardSaid : Prop := Claim7.holds Tryd.pinned (.plain (OpenSpec.ofChange riotPlaysSpec)) riotPlaysCard

/-- THE TIED CARD OF 'woodgrainlaw08.RiotMirrors'. -/
def riotMirrorsCard : Claim7 := { stood := { row := riotMirrorsRow, standIns := [], harness := (true, "f1bab294e362c982a1aaf5ea5279a2cf30daa72e261d93d3346f39b88e9eab55"), looks := false }, kinds := [], alts := [], laidByText := true, laidKinds := [.data], laidTests := true, laidLooks := .later }
def RiotMirrorsCardSaid : Prop := Claim7.holds Tryd.pinned (.plain (OpenSpec.ofChange riotMirrorsSpec)) riotMirrorsCard

/-- THE TIED CARD OF 'woodgrainlaw08.RiotCopies'. -/
def riotCopiesCard : Claim7 := { stood := { row := riotCopiesRow, standIns := [], harness := (true, "f1bab294e362c982a1aaf5ea5279a2cf30daa72e261d93d3346f39b88e9eab55"), looks := false }, kinds := [], alts := [], laidByText := true, laidKinds := [.data], laidTests := true, laidLooks := .later }
def RiotCopiesCardSaid : Prop := Claim7.holds Tryd.pinned (.plain (OpenSpec.ofChange riotCopiesSpec)) riotCopiesCard

/-- THE TIED CARD OF 'woodgrainlaw08.RiotNil'. -/
def riotNilCard : Claim7 := { stood := { row := riotNilRow, standIns := [], harness := (true, "f1bab294e362c982a1aaf5ea5279a2cf30daa72e261d93d3346f39b88e9eab55"), looks := false }, kinds := [], alts := [], laidByText := true, laidKinds := [.data], laidTests := true, laidLooks := .later }
def RiotNilCardSaid : Prop := Claim7.holds Tryd.pinned (.plain (OpenSpec.ofChange riotNilSpec)) riotNilCard

/-- THE SECOND FORM's CARD OF 'woodgrainlaw08.RiotPlays'. -/
def riotPlaysUptoCard : Claim7 := { stood := { row := riotPlaysUptoRow, standIns := [], harness := (true, "f1bab294e362c982a1aaf5ea5279a2cf30daa72e261d93d3346f39b88e9eab55"), looks := false }, kinds := [], alts := [], laidByText := true, laidKinds := [.data], laidTests := true, laidLooks := .later }
def RiotPlaysUptoCardSaid : Prop := Claim7.holds Tryd.pinned (.plain (OpenSpec.upto riotPlaysSpec)) riotPlaysUptoCard

/-- THE SECOND FORM's CARD OF 'woodgrainlaw08.RiotMirrors'. -/
def riotMirrorsUptoCard : Claim7 := { stood := { row := riotMirrorsUptoRow, standIns := [], harness := (true, "f1bab294e362c982a1aaf5ea5279a2cf30daa72e261d93d3346f39b88e9eab55"), looks := false }, kinds := [], alts := [], laidByText := true, laidKinds := [.data], laidTests := true, laidLooks := .later }
def RiotMirrorsUptoCardSaid : Prop := Claim7.holds Tryd.pinned (.plain (OpenSpec.upto riotMirrorsSpec)) riotMirrorsUptoCard

/-- THE SECOND FORM's CARD OF 'woodgrainlaw08.RiotCopies'. -/
def riotCopiesUptoCard : Claim7 := { stood := { row := riotCopiesUptoRow, standIns := [], harness := (true, "f1bab294e362c982a1aaf5ea5279a2cf30daa72e261d93d3346f39b88e9eab55"), looks := false }, kinds := [], alts := [], laidByText := true, laidKinds := [.data], laidTests := true, laidLooks := .later }
def RiotCopiesUptoCardSaid : Prop := Claim7.holds Tryd.pinned (.plain (OpenSpec.upto riotCopiesSpec)) riotCopiesUptoCard

/-- THE SECOND FORM's CARD OF 'woodgrainlaw08.RiotNil'. -/
def riotNilUptoCard : Claim7 := { stood := { row := riotNilUptoRow, standIns := [], harness := (true, "f1bab294e362c982a1aaf5ea5279a2cf30daa72e261d93d3346f39b88e9eab55"), looks := false }, kinds := [], alts := [], laidByText := true, laidKinds := [.data], laidTests := true, laidLooks := .later }
def RiotNilUptoCardSaid : Prop := Claim7.holds Tryd.pinned (.plain (OpenSpec.upto riotNilSpec)) riotNilUptoCard
end Rows
end Go.Proofs.YtgclgegdojnpcaaDoor
