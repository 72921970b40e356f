/-
  DERIVED. GIVEN WITH THE SEED: THE CARDS: each row of YtcidhklehhakdaaDoorRows.lean that lists a variable, with what it lists TIED to the program's text (the seventh form; the later family's looks); each row that meets fmt, with fmt's text TOLD by the authors' own Lean function (tested against real Go, not proved from fmt's source: count such statements apart). THE CARD IS WHAT COUNTS. Prove the row's statement (the work); the ties are given (YtcidhklehhakdaaDoorTie.lean); close each card by the builder's one call (the guide's Derived/Test/ToyasCard.lean, 'card_holds'). Laid BY PROGRAM, IN A SANDBOX (cutbox-door.mjs). By AI agents, Wed Nov 11 2026. No macro, syntax, notation, axiom, sorry.
-/
import Derived.Test.YtcidhklehhakdaaDoorRows
import GoSem.ClaimSeven
namespace Go.Proofs.YtcidhklehhakdaaDoor
namespace Rows

/-- THE TIED CARD OF 'woodgrainlaw06.TimerForm'. -/
def timerFormCard : Claim7 := { stood := { row := timerFormRow, standIns := [], harness := (true, "86470153ea54039911c0d5426e293e65ca0b212bc08161c3abfa56fa0d9ea0db"), looks := false }, kinds := [], alts := [], laidByText := true, laidKinds := [.data], laidTests := true, laidLooks := .later }
def TimerFormCardSaid : Prop := Claim7.holds Tryd.pinned (.plain (OpenSpec.ofChange timerFormSpec)) timerFormCard

/-- THE TIED CARD OF 'woodgrainlaw06.TimerWords'. -/
def timerWordsCard : Claim7 := { stood := { row := timerWordsRow, standIns := [], harness := (true, "86470153ea54039911c0d5426e293e65ca0b212bc08161c3abfa56fa0d9ea0db"), looks := false }, kinds := [], alts := [], laidByText := true, laidKinds := [.data], laidTests := true, laidLooks := .later }
def TimerWordsCardSaid : Prop := Claim7.holds Tryd.pinned (.plain (OpenSpec.ofChange timerWordsSpec)) timerWordsCard

/-- THE TIED CARD OF 'woodgrainlaw06.TimerNil'. -/
def timerNilCard : Claim7 := { stood := { row := timerNilRow, standIns := [], harness := (true, "86470153ea54039911c0d5426e293e65ca0b212bc08161c3abfa56fa0d9ea0db"), looks := false }, kinds := [], alts := [], laidByText := true, laidKinds := [.data], laidTests := true, laidLooks := .later }
def TimerNilCardSaid : Prop := Claim7.holds Tryd.pinned (.plain (OpenSpec.ofChange timerNilSpec)) timerNilCard

/-- THE SECOND FORM's CARD OF 'woodgrainlaw06.TimerForm'. -/
def timerFormUptoCard : Claim7 := { stood := { row := timerFormUptoRow, standIns := [], harness := (true, "86470153ea54039911c0d5426e293e65ca0b212bc08161c3abfa56fa0d9ea0db"), looks := false }, kinds := [], alts := [], laidByText := true, laidKinds := [.data], laidTests := true, laidLooks := .later }
def TimerFormUptoCardSaid : Prop := Claim7.holds Tryd.pinned (.plain (OpenSpec.upto timerFormSpec)) timerFormUptoCard

/-- THE SECOND FORM's CARD OF 'woodgrainlaw06.TimerWords'. -/
def timerWordsUptoCard : Claim7 := { stood := { row := timerWordsUptoRow, standIns := [], harness := (true, "86470153ea54039911c0d5426e293e65ca0b212bc08161c3abfa56fa0d9ea0db"), looks := false }, kinds := [], alts := [], laidByText := true, laidKinds := [.data], laidTests := true, laidLooks := .later }
def TimerWordsUptoCardSaid : Prop := Claim7.holds Tryd.pinned (.plain (OpenSpec.upto timerWordsSpec)) timerWordsUptoCard

/-- THE SECOND FORM's CARD OF 'woodgrainlaw06.TimerNil'. -/
def timerNilUptoCard : Claim7 := { stood := { row := timerNilUptoRow, standIns := [], harness := (true, "86470153ea54039911c0d5426e293e65ca0b212bc08161c3abfa56fa0d9ea0db"), looks := false }, kinds := [], alts := [], laidByText := true, laidKinds := [.data], laidTests := true, laidLooks := .later }
def TimerNilUptoCardSaid : Prop := Claim7.holds Tryd.pinned (.plain (OpenSpec.upto timerNilSpec)) timerNilUptoCard
end Rows
end Go.Proofs.YtcidhklehhakdaaDoor
