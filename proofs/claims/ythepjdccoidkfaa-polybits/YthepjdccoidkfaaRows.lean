/-
  No cell of these rows narrows 'for every input' (looked for: loops, veiled, ifaces, maps, wideKeys, modest, calm, conditions, laid).
  DERIVED. THE GIVEN ROWS OF THIS SEAT. 12 by the template 'for every input the law returns true; each argument reads behind the call as it read before'; 0 by the template 'total and deterministic' (their statements: YthepjdccoidkfaaTotals.lean).
  GIVEN WITH THE SEED: the statements are not yours to turn. If you find one false, say at which input.
  Laid BY PROGRAM, IN A SANDBOX (cutbox-rows.mjs): the forced cells as the released guide's own fill.sh prints them over the translation 626505c292c5c39f… (all of the seat's roots in one cut). By AI agents, Wed Nov 11 2026. No macro, syntax, notation, axiom, sorry.
-/
import Derived.Test.YthepjdccoidkfaaChecked
import GoSem.Claim
import GoSem.ClaimJoined
import GoSem.ClaimMapViews
import Derived.JoinedTies
import Derived.KernelRfl
namespace Go.Proofs.Ythepjdccoidkfaa
/- THE CELL 'sum', in the pinned program and in every row, IS THE sha256 OF THE DUMP (.gsa) THAT YthepjdccoidkfaaProg.lean LOADS. Nothing in Lean hashes anything: it is a label: what it is worth is what the hold of that sum in a sandbox is worth. -/
noncomputable def Try.pinned : Pinned := { name := "ythepjdccoidkfaa", sum := "626505c292c5c39ff89c6f47dee6fcc4889da0e7d516939116f997bc0fa95d3e", checked := Try.checked }
namespace Rows
def none {H : Type} : Left H := { results := [], args := [] }

/-- 'woodgrainlaw01.PolySteps': WHATEVER THE INPUT: true; the input reads as it did. -/
def polyStepsSpec : ChangeSpec := { name := "polySteps", fn := fun _ => fun
  | [d] => { results := [.lit (.bool true)], args := [d] }
  | _ => none }
def polyStepsRow : OpenClaim := { program := "ythepjdccoidkfaa", sum := "626505c292c5c39ff89c6f47dee6fcc4889da0e7d516939116f997bc0fa95d3e", func := "woodgrain/woodgrainlaw01.PolySteps", spec := "polySteps", unfollowed := true, recurses := true, apart := false }
def PolyStepsSaid : Prop := polyStepsRow.holds Try.pinned (OpenSpec.ofChange polyStepsSpec)

/-- ITS FALSE NEIGHBOUR: 'it returns false'. Refute it at one input. -/
def polyStepsWrong : ChangeSpec := { name := "polySteps", fn := fun _ => fun
  | [d] => { results := [.lit (.bool false)], args := [d] }
  | _ => none }
def PolyStepsWrongFalsely : Prop := polyStepsRow.holds Try.pinned (OpenSpec.ofChange polyStepsWrong)

/-- 'woodgrainlaw01.PolyBits': WHATEVER THE INPUT: true; the input reads as it did. -/
def polyBitsSpec : ChangeSpec := { name := "polyBits", fn := fun _ => fun
  | [d] => { results := [.lit (.bool true)], args := [d] }
  | _ => none }
def polyBitsRow : OpenClaim := { program := "ythepjdccoidkfaa", sum := "626505c292c5c39ff89c6f47dee6fcc4889da0e7d516939116f997bc0fa95d3e", func := "woodgrain/woodgrainlaw01.PolyBits", spec := "polyBits", unfollowed := true, recurses := true, apart := false }
def PolyBitsSaid : Prop := polyBitsRow.holds Try.pinned (OpenSpec.ofChange polyBitsSpec)

/-- ITS FALSE NEIGHBOUR: 'it returns false'. Refute it at one input. -/
def polyBitsWrong : ChangeSpec := { name := "polyBits", fn := fun _ => fun
  | [d] => { results := [.lit (.bool false)], args := [d] }
  | _ => none }
def PolyBitsWrongFalsely : Prop := polyBitsRow.holds Try.pinned (OpenSpec.ofChange polyBitsWrong)

/-- 'woodgrainlaw01.PolyPlaces': WHATEVER THE INPUT: true; the input reads as it did. -/
def polyPlacesSpec : ChangeSpec := { name := "polyPlaces", fn := fun _ => fun
  | [d] => { results := [.lit (.bool true)], args := [d] }
  | _ => none }
def polyPlacesRow : OpenClaim := { program := "ythepjdccoidkfaa", sum := "626505c292c5c39ff89c6f47dee6fcc4889da0e7d516939116f997bc0fa95d3e", func := "woodgrain/woodgrainlaw01.PolyPlaces", spec := "polyPlaces", unfollowed := true, recurses := true, apart := false }
def PolyPlacesSaid : Prop := polyPlacesRow.holds Try.pinned (OpenSpec.ofChange polyPlacesSpec)

/-- ITS FALSE NEIGHBOUR: 'it returns false'. Refute it at one input. -/
def polyPlacesWrong : ChangeSpec := { name := "polyPlaces", fn := fun _ => fun
  | [d] => { results := [.lit (.bool false)], args := [d] }
  | _ => none }
def PolyPlacesWrongFalsely : Prop := polyPlacesRow.holds Try.pinned (OpenSpec.ofChange polyPlacesWrong)

/-- 'woodgrainlaw01.PolyChips': WHATEVER THE INPUT: true; the input reads as it did. -/
def polyChipsSpec : ChangeSpec := { name := "polyChips", fn := fun _ => fun
  | [d] => { results := [.lit (.bool true)], args := [d] }
  | _ => none }
def polyChipsRow : OpenClaim := { program := "ythepjdccoidkfaa", sum := "626505c292c5c39ff89c6f47dee6fcc4889da0e7d516939116f997bc0fa95d3e", func := "woodgrain/woodgrainlaw01.PolyChips", spec := "polyChips", unfollowed := true, recurses := true, apart := false }
def PolyChipsSaid : Prop := polyChipsRow.holds Try.pinned (OpenSpec.ofChange polyChipsSpec)

/-- ITS FALSE NEIGHBOUR: 'it returns false'. Refute it at one input. -/
def polyChipsWrong : ChangeSpec := { name := "polyChips", fn := fun _ => fun
  | [d] => { results := [.lit (.bool false)], args := [d] }
  | _ => none }
def PolyChipsWrongFalsely : Prop := polyChipsRow.holds Try.pinned (OpenSpec.ofChange polyChipsWrong)

/-- 'woodgrainlaw01.PolyApart': WHATEVER THE INPUT: true; the input reads as it did. -/
def polyApartSpec : ChangeSpec := { name := "polyApart", fn := fun _ => fun
  | [d1, d2, d3] => { results := [.lit (.bool true)], args := [d1, d2, d3] }
  | _ => none }
def polyApartRow : OpenClaim := { program := "ythepjdccoidkfaa", sum := "626505c292c5c39ff89c6f47dee6fcc4889da0e7d516939116f997bc0fa95d3e", func := "woodgrain/woodgrainlaw01.PolyApart", spec := "polyApart", unfollowed := true, recurses := true, apart := false }
def PolyApartSaid : Prop := polyApartRow.holds Try.pinned (OpenSpec.ofChange polyApartSpec)

/-- ITS FALSE NEIGHBOUR: 'it returns false'. Refute it at one input. -/
def polyApartWrong : ChangeSpec := { name := "polyApart", fn := fun _ => fun
  | [d1, d2, d3] => { results := [.lit (.bool false)], args := [d1, d2, d3] }
  | _ => none }
def PolyApartWrongFalsely : Prop := polyApartRow.holds Try.pinned (OpenSpec.ofChange polyApartWrong)

/-- 'woodgrainlaw01.PolyRound': WHATEVER THE INPUT: true; the input reads as it did. -/
def polyRoundSpec : ChangeSpec := { name := "polyRound", fn := fun _ => fun
  | [d] => { results := [.lit (.bool true)], args := [d] }
  | _ => none }
def polyRoundRow : OpenClaim := { program := "ythepjdccoidkfaa", sum := "626505c292c5c39ff89c6f47dee6fcc4889da0e7d516939116f997bc0fa95d3e", func := "woodgrain/woodgrainlaw01.PolyRound", spec := "polyRound", unfollowed := true, recurses := true, apart := false }
def PolyRoundSaid : Prop := polyRoundRow.holds Try.pinned (OpenSpec.ofChange polyRoundSpec)

/-- ITS FALSE NEIGHBOUR: 'it returns false'. Refute it at one input. -/
def polyRoundWrong : ChangeSpec := { name := "polyRound", fn := fun _ => fun
  | [d] => { results := [.lit (.bool false)], args := [d] }
  | _ => none }
def PolyRoundWrongFalsely : Prop := polyRoundRow.holds Try.pinned (OpenSpec.ofChange polyRoundWrong)

/-- 'woodgrainlaw02.CountDivides': WHATEVER THE INPUT: true; the input reads as it did. -/
def countDividesSpec : ChangeSpec := { name := "countDivides", fn := fun _ => fun
  | [d] => { results := [.lit (.bool true)], args := [d] }
  | _ => none }
def countDividesRow : OpenClaim := { program := "ythepjdccoidkfaa", sum := "626505c292c5c39ff89c6f47dee6fcc4889da0e7d516939116f997bc0fa95d3e", func := "woodgrain/woodgrainlaw02.CountDivides", spec := "countDivides", unfollowed := true, recurses := true, apart := false }
def CountDividesSaid : Prop := countDividesRow.holds Try.pinned (OpenSpec.ofChange countDividesSpec)

/-- ITS FALSE NEIGHBOUR: 'it returns false'. Refute it at one input. -/
def countDividesWrong : ChangeSpec := { name := "countDivides", fn := fun _ => fun
  | [d] => { results := [.lit (.bool false)], args := [d] }
  | _ => none }
def CountDividesWrongFalsely : Prop := countDividesRow.holds Try.pinned (OpenSpec.ofChange countDividesWrong)

/-- 'woodgrainlaw02.CountCounts': WHATEVER THE INPUT: true; the input reads as it did. -/
def countCountsSpec : ChangeSpec := { name := "countCounts", fn := fun _ => fun
  | [d] => { results := [.lit (.bool true)], args := [d] }
  | _ => none }
def countCountsRow : OpenClaim := { program := "ythepjdccoidkfaa", sum := "626505c292c5c39ff89c6f47dee6fcc4889da0e7d516939116f997bc0fa95d3e", func := "woodgrain/woodgrainlaw02.CountCounts", spec := "countCounts", unfollowed := true, recurses := true, apart := false }
def CountCountsSaid : Prop := countCountsRow.holds Try.pinned (OpenSpec.ofChange countCountsSpec)

/-- ITS FALSE NEIGHBOUR: 'it returns false'. Refute it at one input. -/
def countCountsWrong : ChangeSpec := { name := "countCounts", fn := fun _ => fun
  | [d] => { results := [.lit (.bool false)], args := [d] }
  | _ => none }
def CountCountsWrongFalsely : Prop := countCountsRow.holds Try.pinned (OpenSpec.ofChange countCountsWrong)

/-- 'woodgrainlaw02.CountPlaces': WHATEVER THE INPUT: true; the input reads as it did. -/
def countPlacesSpec : ChangeSpec := { name := "countPlaces", fn := fun _ => fun
  | [d1, d2, d3] => { results := [.lit (.bool true)], args := [d1, d2, d3] }
  | _ => none }
def countPlacesRow : OpenClaim := { program := "ythepjdccoidkfaa", sum := "626505c292c5c39ff89c6f47dee6fcc4889da0e7d516939116f997bc0fa95d3e", func := "woodgrain/woodgrainlaw02.CountPlaces", spec := "countPlaces", unfollowed := true, recurses := true, apart := false }
def CountPlacesSaid : Prop := countPlacesRow.holds Try.pinned (OpenSpec.ofChange countPlacesSpec)

/-- ITS FALSE NEIGHBOUR: 'it returns false'. Refute it at one input. -/
def countPlacesWrong : ChangeSpec := { name := "countPlaces", fn := fun _ => fun
  | [d1, d2, d3] => { results := [.lit (.bool false)], args := [d1, d2, d3] }
  | _ => none }
def CountPlacesWrongFalsely : Prop := countPlacesRow.holds Try.pinned (OpenSpec.ofChange countPlacesWrong)

/-- 'woodgrainlaw02.CountRounds': WHATEVER THE INPUT: true; the input reads as it did. -/
def countRoundsSpec : ChangeSpec := { name := "countRounds", fn := fun _ => fun
  | [d1, d2] => { results := [.lit (.bool true)], args := [d1, d2] }
  | _ => none }
def countRoundsRow : OpenClaim := { program := "ythepjdccoidkfaa", sum := "626505c292c5c39ff89c6f47dee6fcc4889da0e7d516939116f997bc0fa95d3e", func := "woodgrain/woodgrainlaw02.CountRounds", spec := "countRounds", unfollowed := true, recurses := true, apart := false }
def CountRoundsSaid : Prop := countRoundsRow.holds Try.pinned (OpenSpec.ofChange countRoundsSpec)

/-- ITS FALSE NEIGHBOUR: 'it returns false'. Refute it at one input. -/
def countRoundsWrong : ChangeSpec := { name := "countRounds", fn := fun _ => fun
  | [d1, d2] => { results := [.lit (.bool false)], args := [d1, d2] }
  | _ => none }
def CountRoundsWrongFalsely : Prop := countRoundsRow.holds Try.pinned (OpenSpec.ofChange countRoundsWrong)

/-- 'woodgrainlaw02.CountMarks': WHATEVER THE INPUT: true; the input reads as it did. -/
def countMarksSpec : ChangeSpec := { name := "countMarks", fn := fun _ => fun
  | [d1, d2] => { results := [.lit (.bool true)], args := [d1, d2] }
  | _ => none }
def countMarksRow : OpenClaim := { program := "ythepjdccoidkfaa", sum := "626505c292c5c39ff89c6f47dee6fcc4889da0e7d516939116f997bc0fa95d3e", func := "woodgrain/woodgrainlaw02.CountMarks", spec := "countMarks", unfollowed := true, recurses := true, apart := false }
def CountMarksSaid : Prop := countMarksRow.holds Try.pinned (OpenSpec.ofChange countMarksSpec)

/-- ITS FALSE NEIGHBOUR: 'it returns false'. Refute it at one input. -/
def countMarksWrong : ChangeSpec := { name := "countMarks", fn := fun _ => fun
  | [d1, d2] => { results := [.lit (.bool false)], args := [d1, d2] }
  | _ => none }
def CountMarksWrongFalsely : Prop := countMarksRow.holds Try.pinned (OpenSpec.ofChange countMarksWrong)

/-- 'woodgrainlaw02.CountNil': WHATEVER THE INPUT: true; the input reads as it did. -/
def countNilSpec : ChangeSpec := { name := "countNil", fn := fun _ => fun
  | [d] => { results := [.lit (.bool true)], args := [d] }
  | _ => none }
def countNilRow : OpenClaim := { program := "ythepjdccoidkfaa", sum := "626505c292c5c39ff89c6f47dee6fcc4889da0e7d516939116f997bc0fa95d3e", func := "woodgrain/woodgrainlaw02.CountNil", spec := "countNil", unfollowed := true, recurses := true, apart := false }
def CountNilSaid : Prop := countNilRow.holds Try.pinned (OpenSpec.ofChange countNilSpec)

/-- ITS FALSE NEIGHBOUR: 'it returns false'. Refute it at one input. -/
def countNilWrong : ChangeSpec := { name := "countNil", fn := fun _ => fun
  | [d] => { results := [.lit (.bool false)], args := [d] }
  | _ => none }
def CountNilWrongFalsely : Prop := countNilRow.holds Try.pinned (OpenSpec.ofChange countNilWrong)

/- THE SECOND FORM. 'bulk': how many values and letters a reading holds, each counted each time it is reached (what is shared counts as often as it is met; a slice's spare places count too). A statement '..UptoSaid' is the law's where the arguments, and the package variables that the reading takes, are together of bulk at most 1048576: NARROWER than '..Said'. Prove '..Said' where nothing that the law and all that it calls make is longer than what came in: it says more and counts as full. Else prove '..UptoSaid'. A law counts once. -/
mutual
def uptoBulk {H : Type} : DataW H → Nat
  | .lit (.string bytes) => bytes.length + 1
  | .lit _ => 1
  | .nil => 1
  | .ptr d => uptoBulk d + 1
  | .slice elems spare => uptoBulkAll elems + uptoBulkAll spare + 1
  | .agg parts => uptoBulkAll parts + 1
  | .iface _ d => uptoBulk d + 1
  | .map entries => uptoBulkEntries entries + 1
  | .held _ => 1
def uptoBulkAll {H : Type} : List (DataW H) → Nat
  | [] => 0
  | d :: r => uptoBulk d + uptoBulkAll r
def uptoBulkEntries {H : Type} : List (Lit × DataW H) → Nat
  | [] => 0
  | x :: r => uptoBulkEntry x + uptoBulkEntries r
def uptoBulkEntry {H : Type} : Lit × DataW H → Nat
  | (.string bytes, d) => bytes.length + uptoBulk d + 1
  | (_, d) => uptoBulk d + 1
 end
def uptoSmall : (H : Type) → List (DataW H) → Bool := fun _ ds => decide (uptoBulkAll ds ≤ 1048576)
def OpenSpec.upto (s : _root_.Go.ChangeSpec) : _root_.Go.OpenSpec := { _root_.Go.OpenSpec.ofChange s with cond := some uptoSmall }

/-- 'woodgrainlaw01.PolySteps', WHERE WHAT IT READS IS OF BULK AT MOST 1048576: true; the input reads as it did. -/
def polyStepsUptoRow : OpenClaim := { program := "ythepjdccoidkfaa", sum := "626505c292c5c39ff89c6f47dee6fcc4889da0e7d516939116f997bc0fa95d3e", func := "woodgrain/woodgrainlaw01.PolySteps", spec := "polySteps", unfollowed := true, recurses := true, apart := false, narrowed := true }
def PolyStepsUptoSaid : Prop := polyStepsUptoRow.holds Try.pinned (OpenSpec.upto polyStepsSpec)

/-- 'woodgrainlaw01.PolyBits', WHERE WHAT IT READS IS OF BULK AT MOST 1048576: true; the input reads as it did. -/
def polyBitsUptoRow : OpenClaim := { program := "ythepjdccoidkfaa", sum := "626505c292c5c39ff89c6f47dee6fcc4889da0e7d516939116f997bc0fa95d3e", func := "woodgrain/woodgrainlaw01.PolyBits", spec := "polyBits", unfollowed := true, recurses := true, apart := false, narrowed := true }
def PolyBitsUptoSaid : Prop := polyBitsUptoRow.holds Try.pinned (OpenSpec.upto polyBitsSpec)

/-- 'woodgrainlaw01.PolyPlaces', WHERE WHAT IT READS IS OF BULK AT MOST 1048576: true; the input reads as it did. -/
def polyPlacesUptoRow : OpenClaim := { program := "ythepjdccoidkfaa", sum := "626505c292c5c39ff89c6f47dee6fcc4889da0e7d516939116f997bc0fa95d3e", func := "woodgrain/woodgrainlaw01.PolyPlaces", spec := "polyPlaces", unfollowed := true, recurses := true, apart := false, narrowed := true }
def PolyPlacesUptoSaid : Prop := polyPlacesUptoRow.holds Try.pinned (OpenSpec.upto polyPlacesSpec)

/-- 'woodgrainlaw01.PolyChips', WHERE WHAT IT READS IS OF BULK AT MOST 1048576: true; the input reads as it did. -/
def polyChipsUptoRow : OpenClaim := { program := "ythepjdccoidkfaa", sum := "626505c292c5c39ff89c6f47dee6fcc4889da0e7d516939116f997bc0fa95d3e", func := "woodgrain/woodgrainlaw01.PolyChips", spec := "polyChips", unfollowed := true, recurses := true, apart := false, narrowed := true }
def PolyChipsUptoSaid : Prop := polyChipsUptoRow.holds Try.pinned (OpenSpec.upto polyChipsSpec)

/-- 'woodgrainlaw01.PolyApart', WHERE WHAT IT READS IS OF BULK AT MOST 1048576: true; the input reads as it did. -/
def polyApartUptoRow : OpenClaim := { program := "ythepjdccoidkfaa", sum := "626505c292c5c39ff89c6f47dee6fcc4889da0e7d516939116f997bc0fa95d3e", func := "woodgrain/woodgrainlaw01.PolyApart", spec := "polyApart", unfollowed := true, recurses := true, apart := false, narrowed := true }
def PolyApartUptoSaid : Prop := polyApartUptoRow.holds Try.pinned (OpenSpec.upto polyApartSpec)

/-- 'woodgrainlaw01.PolyRound', WHERE WHAT IT READS IS OF BULK AT MOST 1048576: true; the input reads as it did. -/
def polyRoundUptoRow : OpenClaim := { program := "ythepjdccoidkfaa", sum := "626505c292c5c39ff89c6f47dee6fcc4889da0e7d516939116f997bc0fa95d3e", func := "woodgrain/woodgrainlaw01.PolyRound", spec := "polyRound", unfollowed := true, recurses := true, apart := false, narrowed := true }
def PolyRoundUptoSaid : Prop := polyRoundUptoRow.holds Try.pinned (OpenSpec.upto polyRoundSpec)

/-- 'woodgrainlaw02.CountDivides', WHERE WHAT IT READS IS OF BULK AT MOST 1048576: true; the input reads as it did. -/
def countDividesUptoRow : OpenClaim := { program := "ythepjdccoidkfaa", sum := "626505c292c5c39ff89c6f47dee6fcc4889da0e7d516939116f997bc0fa95d3e", func := "woodgrain/woodgrainlaw02.CountDivides", spec := "countDivides", unfollowed := true, recurses := true, apart := false, narrowed := true }
def CountDividesUptoSaid : Prop := countDividesUptoRow.holds Try.pinned (OpenSpec.upto countDividesSpec)

/-- 'woodgrainlaw02.CountCounts', WHERE WHAT IT READS IS OF BULK AT MOST 1048576: true; the input reads as it did. -/
def countCountsUptoRow : OpenClaim := { program := "ythepjdccoidkfaa", sum := "626505c292c5c39ff89c6f47dee6fcc4889da0e7d516939116f997bc0fa95d3e", func := "woodgrain/woodgrainlaw02.CountCounts", spec := "countCounts", unfollowed := true, recurses := true, apart := false, narrowed := true }
def CountCountsUptoSaid : Prop := countCountsUptoRow.holds Try.pinned (OpenSpec.upto countCountsSpec)

/-- 'woodgrainlaw02.CountPlaces', WHERE WHAT IT READS IS OF BULK AT MOST 1048576: true; the input reads as it did. -/
def countPlacesUptoRow : OpenClaim := { program := "ythepjdccoidkfaa", sum := "626505c292c5c39ff89c6f47dee6fcc4889da0e7d516939116f997bc0fa95d3e", func := "woodgrain/woodgrainlaw02.CountPlaces", spec := "countPlaces", unfollowed := true, recurses := true, apart := false, narrowed := true }
def CountPlacesUptoSaid : Prop := countPlacesUptoRow.holds Try.pinned (OpenSpec.upto countPlacesSpec)

/-- 'woodgrainlaw02.CountRounds', WHERE WHAT IT READS IS OF BULK AT MOST 1048576: true; the input reads as it did. -/
def countRoundsUptoRow : OpenClaim := { program := "ythepjdccoidkfaa", sum := "626505c292c5c39ff89c6f47dee6fcc4889da0e7d516939116f997bc0fa95d3e", func := "woodgrain/woodgrainlaw02.CountRounds", spec := "countRounds", unfollowed := true, recurses := true, apart := false, narrowed := true }
def CountRoundsUptoSaid : Prop := countRoundsUptoRow.holds Try.pinned (OpenSpec.upto countRoundsSpec)

/-- 'woodgrainlaw02.CountMarks', WHERE WHAT IT READS IS OF BULK AT MOST 1048576: true; the input reads as it did. -/
def countMarksUptoRow : OpenClaim := { program := "ythepjdccoidkfaa", sum := "626505c292c5c39ff89c6f47dee6fcc4889da0e7d516939116f997bc0fa95d3e", func := "woodgrain/woodgrainlaw02.CountMarks", spec := "countMarks", unfollowed := true, recurses := true, apart := false, narrowed := true }
def CountMarksUptoSaid : Prop := countMarksUptoRow.holds Try.pinned (OpenSpec.upto countMarksSpec)

/-- 'woodgrainlaw02.CountNil', WHERE WHAT IT READS IS OF BULK AT MOST 1048576: true; the input reads as it did. -/
def countNilUptoRow : OpenClaim := { program := "ythepjdccoidkfaa", sum := "626505c292c5c39ff89c6f47dee6fcc4889da0e7d516939116f997bc0fa95d3e", func := "woodgrain/woodgrainlaw02.CountNil", spec := "countNil", unfollowed := true, recurses := true, apart := false, narrowed := true }
def CountNilUptoSaid : Prop := countNilUptoRow.holds Try.pinned (OpenSpec.upto countNilSpec)

end Rows
end Go.Proofs.Ythepjdccoidkfaa
