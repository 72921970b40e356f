/-
  NARROWER THAN 'FOR EVERY INPUT', by the rows' own cells (each row's printed sentence says how): CodeTells: laid · CodeFinds: laid · CodeBack: laid · CodeCounts: laid.
  DERIVED. THE GIVEN ROWS OF THIS SEAT. 4 by the template 'for every input the law returns true; each argument reads behind the call as it read before'; 0 by the template 'total and deterministic' (their statements: YtcbfhjgdnffjlaaDoorTotals.lean).
  GIVEN WITH THE SEED: the statements are not yours to turn. If you find one false, say at which input.
  Laid BY PROGRAM, IN A SANDBOX (cutbox-rows.mjs): the forced cells as the released guide's own fill.sh prints them over the translation 288af9c000f50663… (all of the seat's roots in one cut). By AI agents, Wed Nov 11 2026. No macro, syntax, notation, axiom, sorry.
-/
import Derived.Test.YtcbfhjgdnffjlaaDoorChecked
import GoSem.Claim
import GoSem.ClaimJoined
import GoSem.ClaimMapViews
import Derived.JoinedTies
import Derived.KernelRfl
namespace Go.Proofs.YtcbfhjgdnffjlaaDoor
/- THE CELL 'sum', in the pinned program and in every row, IS THE sha256 OF THE DUMP (.gsa) THAT YtcbfhjgdnffjlaaDoorProg.lean LOADS. Nothing in Lean hashes anything: it is a label: what it is worth is what the hold of that sum in a sandbox is worth. -/
noncomputable def Tryd.pinned : Pinned := { name := "ytcbfhjgdnffjlaadoor", sum := "288af9c000f5066322dac5b0f81b369c16bd835c53c691b6b515344f97ae5afa", checked := Tryd.checked }
namespace Rows
def none {H : Type} : Left H := { results := [], args := [] }

/- WHAT THE LISTED PACKAGE-LEVEL VARIABLES READ AS WHEN THE CALL BEGINS. Each datum BY PROGRAM (the guide's laid-datum.mjs) off the statement by which the dump's own 'gosem.cut.vars' lays the variable. In a bare row this is a premise. The card (YtcbfhjgdnffjlaaDoorCards.lean) ties it to the program's text. -/
def laid_woodgrain_code_readCycles {H : Type} : DataW H := .agg [.lit (.int .i64 2), .lit (.int .i64 2), .lit (.int .i64 2), .lit (.int .i64 3), .lit (.int .i64 4), .lit (.int .i64 4), .lit (.int .i64 4), .lit (.int .i64 4), .lit (.int .i64 4), .lit (.int .i64 6), .lit (.int .i64 5)]
def laid_woodgrain_code_storeCycles {H : Type} : DataW H := .agg [.lit (.int .i64 0), .lit (.int .i64 0), .lit (.int .i64 0), .lit (.int .i64 3), .lit (.int .i64 4), .lit (.int .i64 4), .lit (.int .i64 4), .lit (.int .i64 5), .lit (.int .i64 5), .lit (.int .i64 6), .lit (.int .i64 6)]
def laid_woodgrain_code_turnCycles {H : Type} : DataW H := .agg [.lit (.int .i64 2), .lit (.int .i64 2), .lit (.int .i64 2), .lit (.int .i64 5), .lit (.int .i64 6), .lit (.int .i64 6), .lit (.int .i64 6), .lit (.int .i64 7), .lit (.int .i64 7), .lit (.int .i64 8), .lit (.int .i64 8)]
def laid_woodgrain_code_modes {H : Type} : DataW H := .agg [.lit (.string [105, 109, 112]), .lit (.string [97, 99, 99]), .lit (.string [105, 109, 109]), .lit (.string [122, 112, 32]), .lit (.string [122, 112, 120]), .lit (.string [122, 112, 121]), .lit (.string [97, 98, 115]), .lit (.string [97, 98, 120]), .lit (.string [97, 98, 121]), .lit (.string [105, 122, 120]), .lit (.string [105, 122, 121]), .lit (.string [114, 101, 108]), .lit (.string [105, 110, 100])]

/-- 'woodgrainlaw10.CodeTells': WHATEVER THE INPUT: true; the input reads as it did. -/
def codeTellsSpec : ChangeSpec := { name := "codeTells", fn := fun _ => fun
  | [d] => { results := [.lit (.bool true)], args := [d] }
  | _ => none }
def codeTellsRow : OpenClaim := { program := "ytcbfhjgdnffjlaadoor", sum := "288af9c000f5066322dac5b0f81b369c16bd835c53c691b6b515344f97ae5afa", func := "woodgrain/woodgrainlaw10.CodeTells", spec := "codeTells", unfollowed := true, recurses := true, named := ["woodgrain/code.modes", "woodgrain/code.readCycles", "woodgrain/code.storeCycles", "woodgrain/code.turnCycles"], apart := false, laid := [("woodgrain/code.readCycles", laid_woodgrain_code_readCycles), ("woodgrain/code.storeCycles", laid_woodgrain_code_storeCycles), ("woodgrain/code.turnCycles", laid_woodgrain_code_turnCycles), ("woodgrain/code.modes", laid_woodgrain_code_modes)] }
def CodeTellsSaid : Prop := codeTellsRow.holds Tryd.pinned (OpenSpec.ofChange codeTellsSpec)

/-- ITS FALSE NEIGHBOUR: 'it returns false'. Refute it at one input. -/
def codeTellsWrong : ChangeSpec := { name := "codeTells", fn := fun _ => fun
  | [d] => { results := [.lit (.bool false)], args := [d] }
  | _ => none }
def CodeTellsWrongFalsely : Prop := codeTellsRow.holds Tryd.pinned (OpenSpec.ofChange codeTellsWrong)

/-- 'woodgrainlaw10.CodeFinds': WHATEVER THE INPUT: true; the input reads as it did. -/
def codeFindsSpec : ChangeSpec := { name := "codeFinds", fn := fun _ => fun
  | [d1, d2] => { results := [.lit (.bool true)], args := [d1, d2] }
  | _ => none }
def codeFindsRow : OpenClaim := { program := "ytcbfhjgdnffjlaadoor", sum := "288af9c000f5066322dac5b0f81b369c16bd835c53c691b6b515344f97ae5afa", func := "woodgrain/woodgrainlaw10.CodeFinds", spec := "codeFinds", unfollowed := true, recurses := true, named := ["woodgrain/code.modes", "woodgrain/code.readCycles", "woodgrain/code.storeCycles", "woodgrain/code.turnCycles"], apart := false, laid := [("woodgrain/code.readCycles", laid_woodgrain_code_readCycles), ("woodgrain/code.storeCycles", laid_woodgrain_code_storeCycles), ("woodgrain/code.turnCycles", laid_woodgrain_code_turnCycles), ("woodgrain/code.modes", laid_woodgrain_code_modes)] }
def CodeFindsSaid : Prop := codeFindsRow.holds Tryd.pinned (OpenSpec.ofChange codeFindsSpec)

/-- ITS FALSE NEIGHBOUR: 'it returns false'. Refute it at one input. -/
def codeFindsWrong : ChangeSpec := { name := "codeFinds", fn := fun _ => fun
  | [d1, d2] => { results := [.lit (.bool false)], args := [d1, d2] }
  | _ => none }
def CodeFindsWrongFalsely : Prop := codeFindsRow.holds Tryd.pinned (OpenSpec.ofChange codeFindsWrong)

/-- 'woodgrainlaw10.CodeBack': WHATEVER THE INPUT: true; the input reads as it did. -/
def codeBackSpec : ChangeSpec := { name := "codeBack", fn := fun _ => fun
  | [d] => { results := [.lit (.bool true)], args := [d] }
  | _ => none }
def codeBackRow : OpenClaim := { program := "ytcbfhjgdnffjlaadoor", sum := "288af9c000f5066322dac5b0f81b369c16bd835c53c691b6b515344f97ae5afa", func := "woodgrain/woodgrainlaw10.CodeBack", spec := "codeBack", unfollowed := true, recurses := true, named := ["woodgrain/code.modes", "woodgrain/code.readCycles", "woodgrain/code.storeCycles", "woodgrain/code.turnCycles"], apart := false, laid := [("woodgrain/code.readCycles", laid_woodgrain_code_readCycles), ("woodgrain/code.storeCycles", laid_woodgrain_code_storeCycles), ("woodgrain/code.turnCycles", laid_woodgrain_code_turnCycles), ("woodgrain/code.modes", laid_woodgrain_code_modes)] }
def CodeBackSaid : Prop := codeBackRow.holds Tryd.pinned (OpenSpec.ofChange codeBackSpec)

/-- ITS FALSE NEIGHBOUR: 'it returns false'. Refute it at one input. -/
def codeBackWrong : ChangeSpec := { name := "codeBack", fn := fun _ => fun
  | [d] => { results := [.lit (.bool false)], args := [d] }
  | _ => none }
def CodeBackWrongFalsely : Prop := codeBackRow.holds Tryd.pinned (OpenSpec.ofChange codeBackWrong)

/-- 'woodgrainlaw10.CodeCounts': WHATEVER THE INPUT: true; the input reads as it did. -/
def codeCountsSpec : ChangeSpec := { name := "codeCounts", fn := fun _ => fun
  | [d] => { results := [.lit (.bool true)], args := [d] }
  | _ => none }
def codeCountsRow : OpenClaim := { program := "ytcbfhjgdnffjlaadoor", sum := "288af9c000f5066322dac5b0f81b369c16bd835c53c691b6b515344f97ae5afa", func := "woodgrain/woodgrainlaw10.CodeCounts", spec := "codeCounts", unfollowed := true, recurses := true, named := ["woodgrain/code.modes", "woodgrain/code.readCycles", "woodgrain/code.storeCycles", "woodgrain/code.turnCycles"], apart := false, laid := [("woodgrain/code.readCycles", laid_woodgrain_code_readCycles), ("woodgrain/code.storeCycles", laid_woodgrain_code_storeCycles), ("woodgrain/code.turnCycles", laid_woodgrain_code_turnCycles), ("woodgrain/code.modes", laid_woodgrain_code_modes)] }
def CodeCountsSaid : Prop := codeCountsRow.holds Tryd.pinned (OpenSpec.ofChange codeCountsSpec)

/-- ITS FALSE NEIGHBOUR: 'it returns false'. Refute it at one input. -/
def codeCountsWrong : ChangeSpec := { name := "codeCounts", fn := fun _ => fun
  | [d] => { results := [.lit (.bool false)], args := [d] }
  | _ => none }
def CodeCountsWrongFalsely : Prop := codeCountsRow.holds Tryd.pinned (OpenSpec.ofChange codeCountsWrong)

/- THE SECOND FORM. 'bulk': how many values and letters a reading holds, each counted each time it is reached (what is shared counts as often as it is met; a slice's spare places count too). A statement '..UptoSaid' is the law's where the arguments, and the package variables that the reading takes, are together of bulk at most 1048576: NARROWER than '..Said'. Prove '..Said' where nothing that the law and all that it calls make is longer than what came in: it says more and counts as full. Else prove '..UptoSaid'. A law counts once. -/
mutual
def uptoBulk {H : Type} : DataW H → Nat
  | .lit (.string bytes) => bytes.length + 1
  | .lit _ => 1
  | .nil => 1
  | .ptr d => uptoBulk d + 1
  | .slice elems spare => uptoBulkAll elems + uptoBulkAll spare + 1
  | .agg parts => uptoBulkAll parts + 1
  | .iface _ d => uptoBulk d + 1
  | .map entries => uptoBulkEntries entries + 1
  | .held _ => 1
def uptoBulkAll {H : Type} : List (DataW H) → Nat
  | [] => 0
  | d :: r => uptoBulk d + uptoBulkAll r
def uptoBulkEntries {H : Type} : List (Lit × DataW H) → Nat
  | [] => 0
  | x :: r => uptoBulkEntry x + uptoBulkEntries r
def uptoBulkEntry {H : Type} : Lit × DataW H → Nat
  | (.string bytes, d) => bytes.length + uptoBulk d + 1
  | (_, d) => uptoBulk d + 1
 end
def uptoSmall : (H : Type) → List (DataW H) → Bool := fun _ ds => decide (uptoBulkAll ds ≤ 1048576)
def OpenSpec.upto (s : _root_.Go.ChangeSpec) : _root_.Go.OpenSpec := { _root_.Go.OpenSpec.ofChange s with cond := some uptoSmall }

/-- 'woodgrainlaw10.CodeTells', WHERE WHAT IT READS IS OF BULK AT MOST 1048576: true; the input reads as it did. -/
def codeTellsUptoRow : OpenClaim := { program := "ytcbfhjgdnffjlaadoor", sum := "288af9c000f5066322dac5b0f81b369c16bd835c53c691b6b515344f97ae5afa", func := "woodgrain/woodgrainlaw10.CodeTells", spec := "codeTells", unfollowed := true, recurses := true, named := ["woodgrain/code.modes", "woodgrain/code.readCycles", "woodgrain/code.storeCycles", "woodgrain/code.turnCycles"], apart := false, laid := [("woodgrain/code.readCycles", laid_woodgrain_code_readCycles), ("woodgrain/code.storeCycles", laid_woodgrain_code_storeCycles), ("woodgrain/code.turnCycles", laid_woodgrain_code_turnCycles), ("woodgrain/code.modes", laid_woodgrain_code_modes)], narrowed := true }
def CodeTellsUptoSaid : Prop := codeTellsUptoRow.holds Tryd.pinned (OpenSpec.upto codeTellsSpec)

/-- 'woodgrainlaw10.CodeFinds', WHERE WHAT IT READS IS OF BULK AT MOST 1048576: true; the input reads as it did. -/
def codeFindsUptoRow : OpenClaim := { program := "ytcbfhjgdnffjlaadoor", sum := "288af9c000f5066322dac5b0f81b369c16bd835c53c691b6b515344f97ae5afa", func := "woodgrain/woodgrainlaw10.CodeFinds", spec := "codeFinds", unfollowed := true, recurses := true, named := ["woodgrain/code.modes", "woodgrain/code.readCycles", "woodgrain/code.storeCycles", "woodgrain/code.turnCycles"], apart := false, laid := [("woodgrain/code.readCycles", laid_woodgrain_code_readCycles), ("woodgrain/code.storeCycles", laid_woodgrain_code_storeCycles), ("woodgrain/code.turnCycles", laid_woodgrain_code_turnCycles), ("woodgrain/code.modes", laid_woodgrain_code_modes)], narrowed := true }
def CodeFindsUptoSaid : Prop := codeFindsUptoRow.holds Tryd.pinned (OpenSpec.upto codeFindsSpec)

/-- 'woodgrainlaw10.CodeBack', WHERE WHAT IT READS IS OF BULK AT MOST 1048576: true; the input reads as it did. -/
def codeBackUptoRow : OpenClaim := { program := "ytcbfhjgdnffjlaadoor", sum := "288af9c000f5066322dac5b0f81b369c16bd835c53c691b6b515344f97ae5afa", func := "woodgrain/woodgrainlaw10.CodeBack", spec := "codeBack", unfollowed := true, recurses := true, named := ["woodgrain/code.modes", "woodgrain/code.readCycles", "woodgrain/code.storeCycles", "woodgrain/code.turnCycles"], apart := false, laid := [("woodgrain/code.readCycles", laid_woodgrain_code_readCycles), ("woodgrain/code.storeCycles", laid_woodgrain_code_storeCycles), ("woodgrain/code.turnCycles", laid_woodgrain_code_turnCycles), ("woodgrain/code.modes", laid_woodgrain_code_modes)], narrowed := true }
def CodeBackUptoSaid : Prop := codeBackUptoRow.holds Tryd.pinned (OpenSpec.upto codeBackSpec)

/-- 'woodgrainlaw10.CodeCounts', WHERE WHAT IT READS IS OF BULK AT MOST 1048576: true; the input reads as it did. -/
def codeCountsUptoRow : OpenClaim := { program := "ytcbfhjgdnffjlaadoor", sum := "288af9c000f5066322dac5b0f81b369c16bd835c53c691b6b515344f97ae5afa", func := "woodgrain/woodgrainlaw10.CodeCounts", spec := "codeCounts", unfollowed := true, recurses := true, named := ["woodgrain/code.modes", "woodgrain/code.readCycles", "woodgrain/code.storeCycles", "woodgrain/code.turnCycles"], apart := false, laid := [("woodgrain/code.readCycles", laid_woodgrain_code_readCycles), ("woodgrain/code.storeCycles", laid_woodgrain_code_storeCycles), ("woodgrain/code.turnCycles", laid_woodgrain_code_turnCycles), ("woodgrain/code.modes", laid_woodgrain_code_modes)], narrowed := true }
def CodeCountsUptoSaid : Prop := codeCountsUptoRow.holds Tryd.pinned (OpenSpec.upto codeCountsSpec)

end Rows
end Go.Proofs.YtcbfhjgdnffjlaaDoor
