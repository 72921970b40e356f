/-
  DERIVED. GIVEN WITH THE SEED: THE CARDS: each row of YtienmoannnhhmaaDoorRows.lean that lists a variable, with what it lists TIED to the program's text (the seventh form; the later family's looks); each row that meets fmt, with fmt's text TOLD by the authors' own Lean function (tested against real Go, not proved from fmt's source: count such statements apart). THE CARD IS WHAT COUNTS. Prove the row's statement (the work); the ties are given (YtienmoannnhhmaaDoorTie.lean); close each card by the builder's one call (the guide's Derived/Test/ToyasCard.lean, 'card_holds'). Laid BY PROGRAM, IN A SANDBOX (cutbox-door.mjs). By AI agents, Wed Nov 11 2026. No macro, syntax, notation, axiom, sorry.
-/
import Derived.Test.YtienmoannnhhmaaDoorRows
import GoSem.ClaimSeven
namespace Go.Proofs.YtienmoannnhhmaaDoor
namespace Rows

/-- THE TIED CARD OF 'woodgrainlaw16.SpritePlays'. -/
def spritePlaysCard : Claim7 := { stood := { row := spritePlaysRow, standIns := [], harness := (true, "13a3fc77cd4dd07ccb7369a292b34d3625bfa4252c380a4f31990ce51d4c041e"), looks := false }, kinds := [], alts := [], laidByText := true, laidKinds := [.data], laidTests := true, laidLooks := .later }
def SpritePlaysCardSaid : Prop := Claim7.holds Tryd.pinned (.plain (OpenSpec.ofChange spritePlaysSpec)) spritePlaysCard

/-- THE TIED CARD OF 'woodgrainlaw16.SpriteStarts'. -/
def spriteStartsCard : Claim7 := { stood := { row := spriteStartsRow, standIns := [], harness := (true, "13a3fc77cd4dd07ccb7369a292b34d3625bfa4252c380a4f31990ce51d4c041e"), looks := false }, kinds := [], alts := [], laidByText := true, laidKinds := [.data], laidTests := true, laidLooks := .later }
def SpriteStartsCardSaid : Prop := Claim7.holds Tryd.pinned (.plain (OpenSpec.ofChange spriteStartsSpec)) spriteStartsCard

/-- THE TIED CARD OF 'woodgrainlaw16.SpriteRounds'. -/
def spriteRoundsCard : Claim7 := { stood := { row := spriteRoundsRow, standIns := [], harness := (true, "13a3fc77cd4dd07ccb7369a292b34d3625bfa4252c380a4f31990ce51d4c041e"), looks := false }, kinds := [], alts := [], laidByText := true, laidKinds := [.data], laidTests := true, laidLooks := .later }
def SpriteRoundsCardSaid : Prop := Claim7.holds Tryd.pinned (.plain (OpenSpec.ofChange spriteRoundsSpec)) spriteRoundsCard

/-- THE TIED CARD OF 'woodgrainlaw16.SpriteWords'. -/
def spriteWordsCard : Claim7 := { stood := { row := spriteWordsRow, standIns := [], harness := (true, "13a3fc77cd4dd07ccb7369a292b34d3625bfa4252c380a4f31990ce51d4c041e"), looks := false }, kinds := [], alts := [], laidByText := true, laidKinds := [.data], laidTests := true, laidLooks := .later }
def SpriteWordsCardSaid : Prop := Claim7.holds Tryd.pinned (.plain (OpenSpec.ofChange spriteWordsSpec)) spriteWordsCard

/-- THE TIED CARD OF 'woodgrainlaw16.SpriteNil'. -/
def spriteNilCard : Claim7 := { stood := { row := spriteNilRow, standIns := [], harness := (true, "13a3fc77cd4dd07ccb7369a292b34d3625bfa4252c380a4f31990ce51d4c041e"), looks := false }, kinds := [], alts := [], laidByText := true, laidKinds := [.data], laidTests := true, laidLooks := .later }
def SpriteNilCardSaid : Prop := Claim7.holds Tryd.pinned (.plain (OpenSpec.ofChange spriteNilSpec)) spriteNilCard

/-- THE SECOND FORM's CARD OF 'woodgrainlaw16.SpritePlays'. -/
def spritePlaysUptoCard : Claim7 := { stood := { row := spritePlaysUptoRow, standIns := [], harness := (true, "13a3fc77cd4dd07ccb7369a292b34d3625bfa4252c380a4f31990ce51d4c041e"), looks := false }, kinds := [], alts := [], laidByText := true, laidKinds := [.data], laidTests := true, laidLooks := .later }
def SpritePlaysUptoCardSaid : Prop := Claim7.holds Tryd.pinned (.plain (OpenSpec.upto spritePlaysSpec)) spritePlaysUptoCard

/-- THE SECOND FORM's CARD OF 'woodgrainlaw16.SpriteStarts'. -/
def spriteStartsUptoCard : Claim7 := { stood := { row := spriteStartsUptoRow, standIns := [], harness := (true, "13a3fc77cd4dd07ccb7369a292b34d3625bfa4252c380a4f31990ce51d4c041e"), looks := false }, kinds := [], alts := [], laidByText := true, laidKinds := [.data], laidTests := true, laidLooks := .later }
def SpriteStartsUptoCardSaid : Prop := Claim7.holds Tryd.pinned (.plain (OpenSpec.upto spriteStartsSpec)) spriteStartsUptoCard

/-- THE SECOND FORM's CARD OF 'woodgrainlaw16.SpriteRounds'. -/
def spriteRoundsUptoCard : Claim7 := { stood := { row := spriteRoundsUptoRow, standIns := [], harness := (true, "13a3fc77cd4dd07ccb7369a292b34d3625bfa4252c380a4f31990ce51d4c041e"), looks := false }, kinds := [], alts := [], laidByText := true, laidKinds := [.data], laidTests := true, laidLooks := .later }
def SpriteRoundsUptoCardSaid : Prop := Claim7.holds Tryd.pinned (.plain (OpenSpec.upto spriteRoundsSpec)) spriteRoundsUptoCard

/-- THE SECOND FORM's CARD OF 'woodgrainlaw16.SpriteWords'. -/
def spriteWordsUptoCard : Claim7 := { stood := { row := spriteWordsUptoRow, standIns := [], harness := (true, "13a3fc77cd4dd07ccb7369a292b34d3625bfa4252c380a4f31990ce51d4c041e"), looks := false }, kinds := [], alts := [], laidByText := true, laidKinds := [.data], laidTests := true, laidLooks := .later }
def SpriteWordsUptoCardSaid : Prop := Claim7.holds Tryd.pinned (.plain (OpenSpec.upto spriteWordsSpec)) spriteWordsUptoCard

/-- THE SECOND FORM's CARD OF 'woodgrainlaw16.SpriteNil'. -/
def spriteNilUptoCard : Claim7 := { stood := { row := spriteNilUptoRow, standIns := [], harness := (true, "13a3fc77cd4dd07ccb7369a292b34d3625bfa4252c380a4f31990ce51d4c041e"), looks := false }, kinds := [], alts := [], laidByText := true, laidKinds := [.data], laidTests := true, laidLooks := .later }
def SpriteNilUptoCardSaid : Prop := Claim7.holds Tryd.pinned (.plain (OpenSpec.upto spriteNilSpec)) spriteNilUptoCard
end Rows
end Go.Proofs.YtienmoannnhhmaaDoor
