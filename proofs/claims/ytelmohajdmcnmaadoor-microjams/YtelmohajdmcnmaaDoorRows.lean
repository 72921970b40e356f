/-
  NARROWER THAN 'FOR EVERY INPUT', by the rows' own cells (each row's printed sentence says how): MicroCounts: laid · MicroHalts: laid · MicroJams: laid · MicroCopies: laid · MicroNil: laid · TopImmediate: laid · TopStack: laid · TopMemory: laid.
  DERIVED. THE GIVEN ROWS OF THIS SEAT. 8 by the template 'for every input the law returns true; each argument reads behind the call as it read before'; 0 by the template 'total and deterministic' (their statements: YtelmohajdmcnmaaDoorTotals.lean).
  GIVEN WITH THE SEED: the statements are not yours to turn. If you find one false, say at which input.
  Laid BY PROGRAM, IN A SANDBOX (cutbox-rows.mjs): the forced cells as the released guide's own fill.sh prints them over the translation bf2fdebc253789e9… (all of the seat's roots in one cut). By AI agents, Wed Nov 11 2026. No macro, syntax, notation, axiom, sorry.
-/
import Derived.Test.YtelmohajdmcnmaaDoorChecked
import GoSem.Claim
import GoSem.ClaimJoined
import GoSem.ClaimMapViews
import Derived.JoinedTies
import Derived.KernelRfl
namespace Go.Proofs.YtelmohajdmcnmaaDoor
/- THE CELL 'sum', in the pinned program and in every row, IS THE sha256 OF THE DUMP (.gsa) THAT YtelmohajdmcnmaaDoorProg.lean LOADS. Nothing in Lean hashes anything: it is a label: what it is worth is what the hold of that sum in a sandbox is worth. -/
noncomputable def Tryd.pinned : Pinned := { name := "ytelmohajdmcnmaadoor", sum := "bf2fdebc253789e9478f6ae700f093245a53bceef50efb6e19225bc77ebd06d4", checked := Tryd.checked }
namespace Rows
def none {H : Type} : Left H := { results := [], args := [] }

/- WHAT THE LISTED PACKAGE-LEVEL VARIABLES READ AS WHEN THE CALL BEGINS. Each datum BY PROGRAM (the guide's laid-datum.mjs) off the statement by which the dump's own 'gosem.cut.vars' lays the variable. In a bare row this is a premise. The card (YtelmohajdmcnmaaDoorCards.lean) ties it to the program's text. -/
def laid_woodgrain_code_readCycles {H : Type} : DataW H := .agg [.lit (.int .i64 2), .lit (.int .i64 2), .lit (.int .i64 2), .lit (.int .i64 3), .lit (.int .i64 4), .lit (.int .i64 4), .lit (.int .i64 4), .lit (.int .i64 4), .lit (.int .i64 4), .lit (.int .i64 6), .lit (.int .i64 5)]
def laid_woodgrain_code_storeCycles {H : Type} : DataW H := .agg [.lit (.int .i64 0), .lit (.int .i64 0), .lit (.int .i64 0), .lit (.int .i64 3), .lit (.int .i64 4), .lit (.int .i64 4), .lit (.int .i64 4), .lit (.int .i64 5), .lit (.int .i64 5), .lit (.int .i64 6), .lit (.int .i64 6)]
def laid_woodgrain_code_turnCycles {H : Type} : DataW H := .agg [.lit (.int .i64 2), .lit (.int .i64 2), .lit (.int .i64 2), .lit (.int .i64 5), .lit (.int .i64 6), .lit (.int .i64 6), .lit (.int .i64 6), .lit (.int .i64 7), .lit (.int .i64 7), .lit (.int .i64 8), .lit (.int .i64 8)]
def laid_woodgrain_code_modes {H : Type} : DataW H := .agg [.lit (.string [105, 109, 112]), .lit (.string [97, 99, 99]), .lit (.string [105, 109, 109]), .lit (.string [122, 112, 32]), .lit (.string [122, 112, 120]), .lit (.string [122, 112, 121]), .lit (.string [97, 98, 115]), .lit (.string [97, 98, 120]), .lit (.string [97, 98, 121]), .lit (.string [105, 122, 120]), .lit (.string [105, 122, 121]), .lit (.string [114, 101, 108]), .lit (.string [105, 110, 100])]

/-- 'woodgrainlaw12.MicroCounts': WHATEVER THE INPUT: true; the input reads as it did. -/
def microCountsSpec : ChangeSpec := { name := "microCounts", fn := fun _ => fun
  | [d] => { results := [.lit (.bool true)], args := [d] }
  | _ => none }
def microCountsRow : OpenClaim := { program := "ytelmohajdmcnmaadoor", sum := "bf2fdebc253789e9478f6ae700f093245a53bceef50efb6e19225bc77ebd06d4", func := "woodgrain/woodgrainlaw12.MicroCounts", spec := "microCounts", recurses := true, named := ["woodgrain/code.modes", "woodgrain/code.readCycles", "woodgrain/code.storeCycles", "woodgrain/code.turnCycles"], apart := false, laid := [("woodgrain/code.readCycles", laid_woodgrain_code_readCycles), ("woodgrain/code.storeCycles", laid_woodgrain_code_storeCycles), ("woodgrain/code.turnCycles", laid_woodgrain_code_turnCycles), ("woodgrain/code.modes", laid_woodgrain_code_modes)] }
def MicroCountsSaid : Prop := microCountsRow.holds Tryd.pinned (OpenSpec.ofChange microCountsSpec)

/-- ITS FALSE NEIGHBOUR: 'it returns false'. Refute it at one input. -/
def microCountsWrong : ChangeSpec := { name := "microCounts", fn := fun _ => fun
  | [d] => { results := [.lit (.bool false)], args := [d] }
  | _ => none }
def MicroCountsWrongFalsely : Prop := microCountsRow.holds Tryd.pinned (OpenSpec.ofChange microCountsWrong)

/-- 'woodgrainlaw12.MicroHalts': WHATEVER THE INPUT: true; the input reads as it did. -/
def microHaltsSpec : ChangeSpec := { name := "microHalts", fn := fun _ => fun
  | [d1, d2] => { results := [.lit (.bool true)], args := [d1, d2] }
  | _ => none }
def microHaltsRow : OpenClaim := { program := "ytelmohajdmcnmaadoor", sum := "bf2fdebc253789e9478f6ae700f093245a53bceef50efb6e19225bc77ebd06d4", func := "woodgrain/woodgrainlaw12.MicroHalts", spec := "microHalts", recurses := true, named := ["woodgrain/code.modes"], apart := false, laid := [("woodgrain/code.modes", laid_woodgrain_code_modes)] }
def MicroHaltsSaid : Prop := microHaltsRow.holds Tryd.pinned (OpenSpec.ofChange microHaltsSpec)

/-- ITS FALSE NEIGHBOUR: 'it returns false'. Refute it at one input. -/
def microHaltsWrong : ChangeSpec := { name := "microHalts", fn := fun _ => fun
  | [d1, d2] => { results := [.lit (.bool false)], args := [d1, d2] }
  | _ => none }
def MicroHaltsWrongFalsely : Prop := microHaltsRow.holds Tryd.pinned (OpenSpec.ofChange microHaltsWrong)

/-- 'woodgrainlaw12.MicroJams': WHATEVER THE INPUT: true; the input reads as it did. -/
def microJamsSpec : ChangeSpec := { name := "microJams", fn := fun _ => fun
  | [d1, d2, d3] => { results := [.lit (.bool true)], args := [d1, d2, d3] }
  | _ => none }
def microJamsRow : OpenClaim := { program := "ytelmohajdmcnmaadoor", sum := "bf2fdebc253789e9478f6ae700f093245a53bceef50efb6e19225bc77ebd06d4", func := "woodgrain/woodgrainlaw12.MicroJams", spec := "microJams", recurses := true, named := ["woodgrain/code.modes"], apart := false, laid := [("woodgrain/code.modes", laid_woodgrain_code_modes)] }
def MicroJamsSaid : Prop := microJamsRow.holds Tryd.pinned (OpenSpec.ofChange microJamsSpec)

/-- ITS FALSE NEIGHBOUR: 'it returns false'. Refute it at one input. -/
def microJamsWrong : ChangeSpec := { name := "microJams", fn := fun _ => fun
  | [d1, d2, d3] => { results := [.lit (.bool false)], args := [d1, d2, d3] }
  | _ => none }
def MicroJamsWrongFalsely : Prop := microJamsRow.holds Tryd.pinned (OpenSpec.ofChange microJamsWrong)

/-- 'woodgrainlaw12.MicroCopies': WHATEVER THE INPUT: true; the input reads as it did. -/
def microCopiesSpec : ChangeSpec := { name := "microCopies", fn := fun _ => fun
  | [d1, d2] => { results := [.lit (.bool true)], args := [d1, d2] }
  | _ => none }
def microCopiesRow : OpenClaim := { program := "ytelmohajdmcnmaadoor", sum := "bf2fdebc253789e9478f6ae700f093245a53bceef50efb6e19225bc77ebd06d4", func := "woodgrain/woodgrainlaw12.MicroCopies", spec := "microCopies", recurses := true, named := ["woodgrain/code.modes"], apart := false, laid := [("woodgrain/code.modes", laid_woodgrain_code_modes)] }
def MicroCopiesSaid : Prop := microCopiesRow.holds Tryd.pinned (OpenSpec.ofChange microCopiesSpec)

/-- ITS FALSE NEIGHBOUR: 'it returns false'. Refute it at one input. -/
def microCopiesWrong : ChangeSpec := { name := "microCopies", fn := fun _ => fun
  | [d1, d2] => { results := [.lit (.bool false)], args := [d1, d2] }
  | _ => none }
def MicroCopiesWrongFalsely : Prop := microCopiesRow.holds Tryd.pinned (OpenSpec.ofChange microCopiesWrong)

/-- 'woodgrainlaw12.MicroNil': WHATEVER THE INPUT: true; the input reads as it did. -/
def microNilSpec : ChangeSpec := { name := "microNil", fn := fun _ => fun
  | [d] => { results := [.lit (.bool true)], args := [d] }
  | _ => none }
def microNilRow : OpenClaim := { program := "ytelmohajdmcnmaadoor", sum := "bf2fdebc253789e9478f6ae700f093245a53bceef50efb6e19225bc77ebd06d4", func := "woodgrain/woodgrainlaw12.MicroNil", spec := "microNil", recurses := true, named := ["woodgrain/code.modes"], apart := false, laid := [("woodgrain/code.modes", laid_woodgrain_code_modes)] }
def MicroNilSaid : Prop := microNilRow.holds Tryd.pinned (OpenSpec.ofChange microNilSpec)

/-- ITS FALSE NEIGHBOUR: 'it returns false'. Refute it at one input. -/
def microNilWrong : ChangeSpec := { name := "microNil", fn := fun _ => fun
  | [d] => { results := [.lit (.bool false)], args := [d] }
  | _ => none }
def MicroNilWrongFalsely : Prop := microNilRow.holds Tryd.pinned (OpenSpec.ofChange microNilWrong)

/-- 'woodgraintop.TopImmediate': WHATEVER THE INPUT: true; the input reads as it did. -/
def topImmediateSpec : ChangeSpec := { name := "topImmediate", fn := fun _ => fun
  | [d1, d2, d3] => { results := [.lit (.bool true)], args := [d1, d2, d3] }
  | _ => none }
def topImmediateRow : OpenClaim := { program := "ytelmohajdmcnmaadoor", sum := "bf2fdebc253789e9478f6ae700f093245a53bceef50efb6e19225bc77ebd06d4", func := "woodgrain/woodgraintop.TopImmediate", spec := "topImmediate", recurses := true, named := ["woodgrain/code.modes"], apart := false, laid := [("woodgrain/code.modes", laid_woodgrain_code_modes)] }
def TopImmediateSaid : Prop := topImmediateRow.holds Tryd.pinned (OpenSpec.ofChange topImmediateSpec)

/-- ITS FALSE NEIGHBOUR: 'it returns false'. Refute it at one input. -/
def topImmediateWrong : ChangeSpec := { name := "topImmediate", fn := fun _ => fun
  | [d1, d2, d3] => { results := [.lit (.bool false)], args := [d1, d2, d3] }
  | _ => none }
def TopImmediateWrongFalsely : Prop := topImmediateRow.holds Tryd.pinned (OpenSpec.ofChange topImmediateWrong)

/-- 'woodgraintop.TopStack': WHATEVER THE INPUT: true; the input reads as it did. -/
def topStackSpec : ChangeSpec := { name := "topStack", fn := fun _ => fun
  | [d] => { results := [.lit (.bool true)], args := [d] }
  | _ => none }
def topStackRow : OpenClaim := { program := "ytelmohajdmcnmaadoor", sum := "bf2fdebc253789e9478f6ae700f093245a53bceef50efb6e19225bc77ebd06d4", func := "woodgrain/woodgraintop.TopStack", spec := "topStack", recurses := true, named := ["woodgrain/code.modes"], apart := false, laid := [("woodgrain/code.modes", laid_woodgrain_code_modes)] }
def TopStackSaid : Prop := topStackRow.holds Tryd.pinned (OpenSpec.ofChange topStackSpec)

/-- ITS FALSE NEIGHBOUR: 'it returns false'. Refute it at one input. -/
def topStackWrong : ChangeSpec := { name := "topStack", fn := fun _ => fun
  | [d] => { results := [.lit (.bool false)], args := [d] }
  | _ => none }
def TopStackWrongFalsely : Prop := topStackRow.holds Tryd.pinned (OpenSpec.ofChange topStackWrong)

/-- 'woodgraintop.TopMemory': WHATEVER THE INPUT: true; the input reads as it did. -/
def topMemorySpec : ChangeSpec := { name := "topMemory", fn := fun _ => fun
  | [d] => { results := [.lit (.bool true)], args := [d] }
  | _ => none }
def topMemoryRow : OpenClaim := { program := "ytelmohajdmcnmaadoor", sum := "bf2fdebc253789e9478f6ae700f093245a53bceef50efb6e19225bc77ebd06d4", func := "woodgrain/woodgraintop.TopMemory", spec := "topMemory", recurses := true, named := ["woodgrain/code.modes"], apart := false, laid := [("woodgrain/code.modes", laid_woodgrain_code_modes)] }
def TopMemorySaid : Prop := topMemoryRow.holds Tryd.pinned (OpenSpec.ofChange topMemorySpec)

/-- ITS FALSE NEIGHBOUR: 'it returns false'. Refute it at one input. -/
def topMemoryWrong : ChangeSpec := { name := "topMemory", fn := fun _ => fun
  | [d] => { results := [.lit (.bool false)], args := [d] }
  | _ => none }
def TopMemoryWrongFalsely : Prop := topMemoryRow.holds Tryd.pinned (OpenSpec.ofChange topMemoryWrong)

/- THE SECOND FORM. 'bulk': how many values and letters a reading holds, each counted each time it is reached (what is shared counts as often as it is met; a slice's spare places count too). A statement '..UptoSaid' is the law's where the arguments, and the package variables that the reading takes, are together of bulk at most 1048576: NARROWER than '..Said'. Prove '..Said' where nothing that the law and all that it calls make is longer than what came in: it says more and counts as full. Else prove '..UptoSaid'. A law counts once. -/
mutual
def uptoBulk {H : Type} : DataW H → Nat
  | .lit (.string bytes) => bytes.length + 1
  | .lit _ => 1
  | .nil => 1
  | .ptr d => uptoBulk d + 1
  | .slice elems spare => uptoBulkAll elems + uptoBulkAll spare + 1
  | .agg parts => uptoBulkAll parts + 1
  | .iface _ d => uptoBulk d + 1
  | .map entries => uptoBulkEntries entries + 1
  | .held _ => 1
def uptoBulkAll {H : Type} : List (DataW H) → Nat
  | [] => 0
  | d :: r => uptoBulk d + uptoBulkAll r
def uptoBulkEntries {H : Type} : List (Lit × DataW H) → Nat
  | [] => 0
  | x :: r => uptoBulkEntry x + uptoBulkEntries r
def uptoBulkEntry {H : Type} : Lit × DataW H → Nat
  | (.string bytes, d) => bytes.length + uptoBulk d + 1
  | (_, d) => uptoBulk d + 1
 end
def uptoSmall : (H : Type) → List (DataW H) → Bool := fun _ ds => decide (uptoBulkAll ds ≤ 1048576)
def OpenSpec.upto (s : _root_.Go.ChangeSpec) : _root_.Go.OpenSpec := { _root_.Go.OpenSpec.ofChange s with cond := some uptoSmall }

/-- 'woodgrainlaw12.MicroCounts', WHERE WHAT IT READS IS OF BULK AT MOST 1048576: true; the input reads as it did. -/
def microCountsUptoRow : OpenClaim := { program := "ytelmohajdmcnmaadoor", sum := "bf2fdebc253789e9478f6ae700f093245a53bceef50efb6e19225bc77ebd06d4", func := "woodgrain/woodgrainlaw12.MicroCounts", spec := "microCounts", recurses := true, named := ["woodgrain/code.modes", "woodgrain/code.readCycles", "woodgrain/code.storeCycles", "woodgrain/code.turnCycles"], apart := false, laid := [("woodgrain/code.readCycles", laid_woodgrain_code_readCycles), ("woodgrain/code.storeCycles", laid_woodgrain_code_storeCycles), ("woodgrain/code.turnCycles", laid_woodgrain_code_turnCycles), ("woodgrain/code.modes", laid_woodgrain_code_modes)], narrowed := true }
def MicroCountsUptoSaid : Prop := microCountsUptoRow.holds Tryd.pinned (OpenSpec.upto microCountsSpec)

/-- 'woodgrainlaw12.MicroHalts', WHERE WHAT IT READS IS OF BULK AT MOST 1048576: true; the input reads as it did. -/
def microHaltsUptoRow : OpenClaim := { program := "ytelmohajdmcnmaadoor", sum := "bf2fdebc253789e9478f6ae700f093245a53bceef50efb6e19225bc77ebd06d4", func := "woodgrain/woodgrainlaw12.MicroHalts", spec := "microHalts", recurses := true, named := ["woodgrain/code.modes"], apart := false, laid := [("woodgrain/code.modes", laid_woodgrain_code_modes)], narrowed := true }
def MicroHaltsUptoSaid : Prop := microHaltsUptoRow.holds Tryd.pinned (OpenSpec.upto microHaltsSpec)

/-- 'woodgrainlaw12.MicroJams', WHERE WHAT IT READS IS OF BULK AT MOST 1048576: true; the input reads as it did. -/
def microJamsUptoRow : OpenClaim := { program := "ytelmohajdmcnmaadoor", sum := "bf2fdebc253789e9478f6ae700f093245a53bceef50efb6e19225bc77ebd06d4", func := "woodgrain/woodgrainlaw12.MicroJams", spec := "microJams", recurses := true, named := ["woodgrain/code.modes"], apart := false, laid := [("woodgrain/code.modes", laid_woodgrain_code_modes)], narrowed := true }
def MicroJamsUptoSaid : Prop := microJamsUptoRow.holds Tryd.pinned (OpenSpec.upto microJamsSpec)

/-- 'woodgrainlaw12.MicroCopies', WHERE WHAT IT READS IS OF BULK AT MOST 1048576: true; the input reads as it did. -/
def microCopiesUptoRow : OpenClaim := { program := "ytelmohajdmcnmaadoor", sum := "bf2fdebc253789e9478f6ae700f093245a53bceef50efb6e19225bc77ebd06d4", func := "woodgrain/woodgrainlaw12.MicroCopies", spec := "microCopies", recurses := true, named := ["woodgrain/code.modes"], apart := false, laid := [("woodgrain/code.modes", laid_woodgrain_code_modes)], narrowed := true }
def MicroCopiesUptoSaid : Prop := microCopiesUptoRow.holds Tryd.pinned (OpenSpec.upto microCopiesSpec)

/-- 'woodgrainlaw12.MicroNil', WHERE WHAT IT READS IS OF BULK AT MOST 1048576: true; the input reads as it did. -/
def microNilUptoRow : OpenClaim := { program := "ytelmohajdmcnmaadoor", sum := "bf2fdebc253789e9478f6ae700f093245a53bceef50efb6e19225bc77ebd06d4", func := "woodgrain/woodgrainlaw12.MicroNil", spec := "microNil", recurses := true, named := ["woodgrain/code.modes"], apart := false, laid := [("woodgrain/code.modes", laid_woodgrain_code_modes)], narrowed := true }
def MicroNilUptoSaid : Prop := microNilUptoRow.holds Tryd.pinned (OpenSpec.upto microNilSpec)

/-- 'woodgraintop.TopImmediate', WHERE WHAT IT READS IS OF BULK AT MOST 1048576: true; the input reads as it did. -/
def topImmediateUptoRow : OpenClaim := { program := "ytelmohajdmcnmaadoor", sum := "bf2fdebc253789e9478f6ae700f093245a53bceef50efb6e19225bc77ebd06d4", func := "woodgrain/woodgraintop.TopImmediate", spec := "topImmediate", recurses := true, named := ["woodgrain/code.modes"], apart := false, laid := [("woodgrain/code.modes", laid_woodgrain_code_modes)], narrowed := true }
def TopImmediateUptoSaid : Prop := topImmediateUptoRow.holds Tryd.pinned (OpenSpec.upto topImmediateSpec)

/-- 'woodgraintop.TopStack', WHERE WHAT IT READS IS OF BULK AT MOST 1048576: true; the input reads as it did. -/
def topStackUptoRow : OpenClaim := { program := "ytelmohajdmcnmaadoor", sum := "bf2fdebc253789e9478f6ae700f093245a53bceef50efb6e19225bc77ebd06d4", func := "woodgrain/woodgraintop.TopStack", spec := "topStack", recurses := true, named := ["woodgrain/code.modes"], apart := false, laid := [("woodgrain/code.modes", laid_woodgrain_code_modes)], narrowed := true }
def TopStackUptoSaid : Prop := topStackUptoRow.holds Tryd.pinned (OpenSpec.upto topStackSpec)

/-- 'woodgraintop.TopMemory', WHERE WHAT IT READS IS OF BULK AT MOST 1048576: true; the input reads as it did. -/
def topMemoryUptoRow : OpenClaim := { program := "ytelmohajdmcnmaadoor", sum := "bf2fdebc253789e9478f6ae700f093245a53bceef50efb6e19225bc77ebd06d4", func := "woodgrain/woodgraintop.TopMemory", spec := "topMemory", recurses := true, named := ["woodgrain/code.modes"], apart := false, laid := [("woodgrain/code.modes", laid_woodgrain_code_modes)], narrowed := true }
def TopMemoryUptoSaid : Prop := topMemoryUptoRow.holds Tryd.pinned (OpenSpec.upto topMemorySpec)

end Rows
end Go.Proofs.YtelmohajdmcnmaaDoor
