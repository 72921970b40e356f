/-
  NARROWER THAN 'FOR EVERY INPUT', by the rows' own cells (each row's printed sentence says how): TimerForm: laid · TimerWords: laid · TimerNil: laid.
  DERIVED. THE GIVEN ROWS OF THIS SEAT. 3 by the template 'for every input the law returns true; each argument reads behind the call as it read before'; 0 by the template 'total and deterministic' (their statements: YtcidhklehhakdaaDoorTotals.lean).
  GIVEN WITH THE SEED: the statements are not yours to turn. If you find one false, say at which input.
  Laid BY PROGRAM, IN A SANDBOX (cutbox-rows.mjs): the forced cells as the released guide's own fill.sh prints them over the translation 6811795aab45f199… (all of the seat's roots in one cut). By AI agents, Wed Nov 11 2026. No macro, syntax, notation, axiom, sorry.
-/
import Derived.Test.YtcidhklehhakdaaDoorChecked
import GoSem.Claim
import GoSem.ClaimJoined
import GoSem.ClaimMapViews
import Derived.JoinedTies
import Derived.KernelRfl
namespace Go.Proofs.YtcidhklehhakdaaDoor
/- THE CELL 'sum', in the pinned program and in every row, IS THE sha256 OF THE DUMP (.gsa) THAT YtcidhklehhakdaaDoorProg.lean LOADS. Nothing in Lean hashes anything: it is a label: what it is worth is what the hold of that sum in a sandbox is worth. -/
noncomputable def Tryd.pinned : Pinned := { name := "ytcidhklehhakdaadoor", sum := "6811795aab45f199198ff9e7eaac5150b02bb9c3231a17f79e264dbaca5edc05", checked := Tryd.checked }
namespace Rows
def none {H : Type} : Left H := { results := [], args := [] }

/- WHAT THE LISTED PACKAGE-LEVEL VARIABLES READ AS WHEN THE CALL BEGINS. Each datum BY PROGRAM (the guide's laid-datum.mjs) off the statement by which the dump's own 'gosem.cut.vars' lays the variable. In a bare row this is a premise. The card (YtcidhklehhakdaaDoorCards.lean) ties it to the program's text. -/
def laid_woodgrain_timer_intervals {H : Type} : DataW H := .agg [.lit (.int .i64 1), .lit (.int .i64 8), .lit (.int .i64 64), .lit (.int .i64 1024)]

/-- 'woodgrainlaw06.TimerForm': WHATEVER THE INPUT: true; the input reads as it did. -/
def timerFormSpec : ChangeSpec := { name := "timerForm", fn := fun _ => fun
  | [d1, d2, d3] => { results := [.lit (.bool true)], args := [d1, d2, d3] }
  | _ => none }
def timerFormRow : OpenClaim := { program := "ytcidhklehhakdaadoor", sum := "6811795aab45f199198ff9e7eaac5150b02bb9c3231a17f79e264dbaca5edc05", func := "woodgrain/woodgrainlaw06.TimerForm", spec := "timerForm", named := ["woodgrain/timer.intervals"], apart := false, laid := [("woodgrain/timer.intervals", laid_woodgrain_timer_intervals)] }
def TimerFormSaid : Prop := timerFormRow.holds Tryd.pinned (OpenSpec.ofChange timerFormSpec)

/-- ITS FALSE NEIGHBOUR: 'it returns false'. Refute it at one input. -/
def timerFormWrong : ChangeSpec := { name := "timerForm", fn := fun _ => fun
  | [d1, d2, d3] => { results := [.lit (.bool false)], args := [d1, d2, d3] }
  | _ => none }
def TimerFormWrongFalsely : Prop := timerFormRow.holds Tryd.pinned (OpenSpec.ofChange timerFormWrong)

/-- 'woodgrainlaw06.TimerWords': WHATEVER THE INPUT: true; the input reads as it did. -/
def timerWordsSpec : ChangeSpec := { name := "timerWords", fn := fun _ => fun
  | [d1, d2] => { results := [.lit (.bool true)], args := [d1, d2] }
  | _ => none }
def timerWordsRow : OpenClaim := { program := "ytcidhklehhakdaadoor", sum := "6811795aab45f199198ff9e7eaac5150b02bb9c3231a17f79e264dbaca5edc05", func := "woodgrain/woodgrainlaw06.TimerWords", spec := "timerWords", named := ["woodgrain/timer.intervals"], apart := false, laid := [("woodgrain/timer.intervals", laid_woodgrain_timer_intervals)] }
def TimerWordsSaid : Prop := timerWordsRow.holds Tryd.pinned (OpenSpec.ofChange timerWordsSpec)

/-- ITS FALSE NEIGHBOUR: 'it returns false'. Refute it at one input. -/
def timerWordsWrong : ChangeSpec := { name := "timerWords", fn := fun _ => fun
  | [d1, d2] => { results := [.lit (.bool false)], args := [d1, d2] }
  | _ => none }
def TimerWordsWrongFalsely : Prop := timerWordsRow.holds Tryd.pinned (OpenSpec.ofChange timerWordsWrong)

/-- 'woodgrainlaw06.TimerNil': WHATEVER THE INPUT: true; the input reads as it did. -/
def timerNilSpec : ChangeSpec := { name := "timerNil", fn := fun _ => fun
  | [d1, d2] => { results := [.lit (.bool true)], args := [d1, d2] }
  | _ => none }
def timerNilRow : OpenClaim := { program := "ytcidhklehhakdaadoor", sum := "6811795aab45f199198ff9e7eaac5150b02bb9c3231a17f79e264dbaca5edc05", func := "woodgrain/woodgrainlaw06.TimerNil", spec := "timerNil", named := ["woodgrain/timer.intervals"], apart := false, laid := [("woodgrain/timer.intervals", laid_woodgrain_timer_intervals)] }
def TimerNilSaid : Prop := timerNilRow.holds Tryd.pinned (OpenSpec.ofChange timerNilSpec)

/-- ITS FALSE NEIGHBOUR: 'it returns false'. Refute it at one input. -/
def timerNilWrong : ChangeSpec := { name := "timerNil", fn := fun _ => fun
  | [d1, d2] => { results := [.lit (.bool false)], args := [d1, d2] }
  | _ => none }
def TimerNilWrongFalsely : Prop := timerNilRow.holds Tryd.pinned (OpenSpec.ofChange timerNilWrong)

/- THE SECOND FORM. 'bulk': how many values and letters a reading holds, each counted each time it is reached (what is shared counts as often as it is met; a slice's spare places count too). A statement '..UptoSaid' is the law's where the arguments, and the package variables that the reading takes, are together of bulk at most 1048576: NARROWER than '..Said'. Prove '..Said' where nothing that the law and all that it calls make is longer than what came in: it says more and counts as full. Else prove '..UptoSaid'. A law counts once. -/
mutual
def uptoBulk {H : Type} : DataW H → Nat
  | .lit (.string bytes) => bytes.length + 1
  | .lit _ => 1
  | .nil => 1
  | .ptr d => uptoBulk d + 1
  | .slice elems spare => uptoBulkAll elems + uptoBulkAll spare + 1
  | .agg parts => uptoBulkAll parts + 1
  | .iface _ d => uptoBulk d + 1
  | .map entries => uptoBulkEntries entries + 1
  | .held _ => 1
def uptoBulkAll {H : Type} : List (DataW H) → Nat
  | [] => 0
  | d :: r => uptoBulk d + uptoBulkAll r
def uptoBulkEntries {H : Type} : List (Lit × DataW H) → Nat
  | [] => 0
  | x :: r => uptoBulkEntry x + uptoBulkEntries r
def uptoBulkEntry {H : Type} : Lit × DataW H → Nat
  | (.string bytes, d) => bytes.length + uptoBulk d + 1
  | (_, d) => uptoBulk d + 1
 end
def uptoSmall : (H : Type) → List (DataW H) → Bool := fun _ ds => decide (uptoBulkAll ds ≤ 1048576)
def OpenSpec.upto (s : _root_.Go.ChangeSpec) : _root_.Go.OpenSpec := { _root_.Go.OpenSpec.ofChange s with cond := some uptoSmall }

/-- 'woodgrainlaw06.TimerForm', WHERE WHAT IT READS IS OF BULK AT MOST 1048576: true; the input reads as it did. -/
def timerFormUptoRow : OpenClaim := { program := "ytcidhklehhakdaadoor", sum := "6811795aab45f199198ff9e7eaac5150b02bb9c3231a17f79e264dbaca5edc05", func := "woodgrain/woodgrainlaw06.TimerForm", spec := "timerForm", named := ["woodgrain/timer.intervals"], apart := false, laid := [("woodgrain/timer.intervals", laid_woodgrain_timer_intervals)], narrowed := true }
def TimerFormUptoSaid : Prop := timerFormUptoRow.holds Tryd.pinned (OpenSpec.upto timerFormSpec)

/-- 'woodgrainlaw06.TimerWords', WHERE WHAT IT READS IS OF BULK AT MOST 1048576: true; the input reads as it did. -/
def timerWordsUptoRow : OpenClaim := { program := "ytcidhklehhakdaadoor", sum := "6811795aab45f199198ff9e7eaac5150b02bb9c3231a17f79e264dbaca5edc05", func := "woodgrain/woodgrainlaw06.TimerWords", spec := "timerWords", named := ["woodgrain/timer.intervals"], apart := false, laid := [("woodgrain/timer.intervals", laid_woodgrain_timer_intervals)], narrowed := true }
def TimerWordsUptoSaid : Prop := timerWordsUptoRow.holds Tryd.pinned (OpenSpec.upto timerWordsSpec)

/-- 'woodgrainlaw06.TimerNil', WHERE WHAT IT READS IS OF BULK AT MOST 1048576: true; the input reads as it did. -/
def timerNilUptoRow : OpenClaim := { program := "ytcidhklehhakdaadoor", sum := "6811795aab45f199198ff9e7eaac5150b02bb9c3231a17f79e264dbaca5edc05", func := "woodgrain/woodgrainlaw06.TimerNil", spec := "timerNil", named := ["woodgrain/timer.intervals"], apart := false, laid := [("woodgrain/timer.intervals", laid_woodgrain_timer_intervals)], narrowed := true }
def TimerNilUptoSaid : Prop := timerNilUptoRow.holds Tryd.pinned (OpenSpec.upto timerNilSpec)

end Rows
end Go.Proofs.YtcidhklehhakdaaDoor
