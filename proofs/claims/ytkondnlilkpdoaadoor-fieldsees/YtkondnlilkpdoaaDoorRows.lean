/-
  NARROWER THAN 'FOR EVERY INPUT', by the rows' own cells (each row's printed sentence says how): FieldLits: laid · FieldSees: laid · FieldTells: laid · FieldGraphs: laid · FieldHalves: laid · FieldMeets: laid.
  DERIVED. THE GIVEN ROWS OF THIS SEAT. 6 by the template 'for every input the law returns true; each argument reads behind the call as it read before'; 0 by the template 'total and deterministic' (their statements: YtkondnlilkpdoaaDoorTotals.lean).
  GIVEN WITH THE SEED: the statements are not yours to turn. If you find one false, say at which input.
  Laid BY PROGRAM, IN A SANDBOX (cutbox-rows.mjs): the forced cells as the released guide's own fill.sh prints them over the translation dbdf4b0664d335a4… (all of the seat's roots in one cut). By AI agents, Wed Nov 11 2026. No macro, syntax, notation, axiom, sorry.
-/
import Derived.Test.YtkondnlilkpdoaaDoorChecked
import GoSem.Claim
import GoSem.ClaimJoined
import GoSem.ClaimMapViews
import Derived.JoinedTies
import Derived.KernelRfl
namespace Go.Proofs.YtkondnlilkpdoaaDoor
/- THE CELL 'sum', in the pinned program and in every row, IS THE sha256 OF THE DUMP (.gsa) THAT YtkondnlilkpdoaaDoorProg.lean LOADS. Nothing in Lean hashes anything: it is a label: what it is worth is what the hold of that sum in a sandbox is worth. -/
noncomputable def Tryd.pinned : Pinned := { name := "ytkondnlilkpdoaadoor", sum := "dbdf4b0664d335a46e95002014856c1dd8121eb05a93b4ab0a50bfb15e344eea", checked := Tryd.checked }
namespace Rows
def none {H : Type} : Left H := { results := [], args := [] }

/- WHAT THE LISTED PACKAGE-LEVEL VARIABLES READ AS WHEN THE CALL BEGINS. Each datum BY PROGRAM (the guide's laid-datum.mjs) off the statement by which the dump's own 'gosem.cut.vars' lays the variable. In a bare row this is a premise. The card (YtkondnlilkpdoaaDoorCards.lean) ties it to the program's text. -/
def laid_woodgrain_field_pairs {H : Type} : DataW H := .agg [.agg [.lit (.int .i64 2), .lit (.int .i64 1)], .agg [.lit (.int .i64 2), .lit (.int .i64 0)], .agg [.lit (.int .i64 3), .lit (.int .i64 0)], .agg [.lit (.int .i64 3), .lit (.int .i64 1)], .agg [.lit (.int .i64 0), .lit (.int .i64 5)], .agg [.lit (.int .i64 0), .lit (.int .i64 4)], .agg [.lit (.int .i64 1), .lit (.int .i64 5)], .agg [.lit (.int .i64 1), .lit (.int .i64 4)], .agg [.lit (.int .i64 2), .lit (.int .i64 5)], .agg [.lit (.int .i64 2), .lit (.int .i64 4)], .agg [.lit (.int .i64 3), .lit (.int .i64 5)], .agg [.lit (.int .i64 3), .lit (.int .i64 4)], .agg [.lit (.int .i64 4), .lit (.int .i64 5)], .agg [.lit (.int .i64 0), .lit (.int .i64 1)], .agg [.lit (.int .i64 2), .lit (.int .i64 3)]]
def laid_woodgrain_field_have {H : Type} : DataW H := .agg [.agg [.lit (.int .i64 0), .lit (.int .i64 2)], .agg [.lit (.int .i64 1), .lit (.int .i64 3)], .agg [.lit (.int .i64 4), .lit (.int .i64 5)]]

/-- 'woodgrainlaw18.FieldLits': WHATEVER THE INPUT: true; the input reads as it did. -/
def fieldLitsSpec : ChangeSpec := { name := "fieldLits", fn := fun _ => fun
  | [d1, d2, d3] => { results := [.lit (.bool true)], args := [d1, d2, d3] }
  | _ => none }
def fieldLitsRow : OpenClaim := { program := "ytkondnlilkpdoaadoor", sum := "dbdf4b0664d335a46e95002014856c1dd8121eb05a93b4ab0a50bfb15e344eea", func := "woodgrain/woodgrainlaw18.FieldLits", spec := "fieldLits", unfollowed := true, recurses := true, named := ["woodgrain/field.have", "woodgrain/field.pairs"], apart := false, laid := [("woodgrain/field.pairs", laid_woodgrain_field_pairs), ("woodgrain/field.have", laid_woodgrain_field_have)] }
def FieldLitsSaid : Prop := fieldLitsRow.holds Tryd.pinned (OpenSpec.ofChange fieldLitsSpec)

/-- ITS FALSE NEIGHBOUR: 'it returns false'. Refute it at one input. -/
def fieldLitsWrong : ChangeSpec := { name := "fieldLits", fn := fun _ => fun
  | [d1, d2, d3] => { results := [.lit (.bool false)], args := [d1, d2, d3] }
  | _ => none }
def FieldLitsWrongFalsely : Prop := fieldLitsRow.holds Tryd.pinned (OpenSpec.ofChange fieldLitsWrong)

/-- 'woodgrainlaw18.FieldSees': WHATEVER THE INPUT: true; the input reads as it did. -/
def fieldSeesSpec : ChangeSpec := { name := "fieldSees", fn := fun _ => fun
  | [d1, d2, d3] => { results := [.lit (.bool true)], args := [d1, d2, d3] }
  | _ => none }
def fieldSeesRow : OpenClaim := { program := "ytkondnlilkpdoaadoor", sum := "dbdf4b0664d335a46e95002014856c1dd8121eb05a93b4ab0a50bfb15e344eea", func := "woodgrain/woodgrainlaw18.FieldSees", spec := "fieldSees", unfollowed := true, recurses := true, named := ["woodgrain/field.pairs", "woodgrain/field.have"], apart := false, laid := [("woodgrain/field.pairs", laid_woodgrain_field_pairs), ("woodgrain/field.have", laid_woodgrain_field_have)] }
def FieldSeesSaid : Prop := fieldSeesRow.holds Tryd.pinned (OpenSpec.ofChange fieldSeesSpec)

/-- ITS FALSE NEIGHBOUR: 'it returns false'. Refute it at one input. -/
def fieldSeesWrong : ChangeSpec := { name := "fieldSees", fn := fun _ => fun
  | [d1, d2, d3] => { results := [.lit (.bool false)], args := [d1, d2, d3] }
  | _ => none }
def FieldSeesWrongFalsely : Prop := fieldSeesRow.holds Tryd.pinned (OpenSpec.ofChange fieldSeesWrong)

/-- 'woodgrainlaw18.FieldTells': WHATEVER THE INPUT: true; the input reads as it did. -/
def fieldTellsSpec : ChangeSpec := { name := "fieldTells", fn := fun _ => fun
  | [d1, d2] => { results := [.lit (.bool true)], args := [d1, d2] }
  | _ => none }
def fieldTellsRow : OpenClaim := { program := "ytkondnlilkpdoaadoor", sum := "dbdf4b0664d335a46e95002014856c1dd8121eb05a93b4ab0a50bfb15e344eea", func := "woodgrain/woodgrainlaw18.FieldTells", spec := "fieldTells", unfollowed := true, recurses := true, named := ["woodgrain/field.have", "woodgrain/field.pairs"], apart := false, laid := [("woodgrain/field.pairs", laid_woodgrain_field_pairs), ("woodgrain/field.have", laid_woodgrain_field_have)] }
def FieldTellsSaid : Prop := fieldTellsRow.holds Tryd.pinned (OpenSpec.ofChange fieldTellsSpec)

/-- ITS FALSE NEIGHBOUR: 'it returns false'. Refute it at one input. -/
def fieldTellsWrong : ChangeSpec := { name := "fieldTells", fn := fun _ => fun
  | [d1, d2] => { results := [.lit (.bool false)], args := [d1, d2] }
  | _ => none }
def FieldTellsWrongFalsely : Prop := fieldTellsRow.holds Tryd.pinned (OpenSpec.ofChange fieldTellsWrong)

/-- 'woodgrainlaw18.FieldGraphs': WHATEVER THE INPUT: true; the input reads as it did. -/
def fieldGraphsSpec : ChangeSpec := { name := "fieldGraphs", fn := fun _ => fun
  | [d] => { results := [.lit (.bool true)], args := [d] }
  | _ => none }
def fieldGraphsRow : OpenClaim := { program := "ytkondnlilkpdoaadoor", sum := "dbdf4b0664d335a46e95002014856c1dd8121eb05a93b4ab0a50bfb15e344eea", func := "woodgrain/woodgrainlaw18.FieldGraphs", spec := "fieldGraphs", unfollowed := true, recurses := true, named := ["woodgrain/field.have", "woodgrain/field.pairs"], apart := false, laid := [("woodgrain/field.pairs", laid_woodgrain_field_pairs), ("woodgrain/field.have", laid_woodgrain_field_have)] }
def FieldGraphsSaid : Prop := fieldGraphsRow.holds Tryd.pinned (OpenSpec.ofChange fieldGraphsSpec)

/-- ITS FALSE NEIGHBOUR: 'it returns false'. Refute it at one input. -/
def fieldGraphsWrong : ChangeSpec := { name := "fieldGraphs", fn := fun _ => fun
  | [d] => { results := [.lit (.bool false)], args := [d] }
  | _ => none }
def FieldGraphsWrongFalsely : Prop := fieldGraphsRow.holds Tryd.pinned (OpenSpec.ofChange fieldGraphsWrong)

/-- 'woodgrainlaw18.FieldHalves': WHATEVER THE INPUT: true; the input reads as it did. -/
def fieldHalvesSpec : ChangeSpec := { name := "fieldHalves", fn := fun _ => fun
  | [d1, d2, d3] => { results := [.lit (.bool true)], args := [d1, d2, d3] }
  | _ => none }
def fieldHalvesRow : OpenClaim := { program := "ytkondnlilkpdoaadoor", sum := "dbdf4b0664d335a46e95002014856c1dd8121eb05a93b4ab0a50bfb15e344eea", func := "woodgrain/woodgrainlaw18.FieldHalves", spec := "fieldHalves", unfollowed := true, recurses := true, named := ["woodgrain/field.have", "woodgrain/field.pairs"], apart := false, laid := [("woodgrain/field.pairs", laid_woodgrain_field_pairs), ("woodgrain/field.have", laid_woodgrain_field_have)] }
def FieldHalvesSaid : Prop := fieldHalvesRow.holds Tryd.pinned (OpenSpec.ofChange fieldHalvesSpec)

/-- ITS FALSE NEIGHBOUR: 'it returns false'. Refute it at one input. -/
def fieldHalvesWrong : ChangeSpec := { name := "fieldHalves", fn := fun _ => fun
  | [d1, d2, d3] => { results := [.lit (.bool false)], args := [d1, d2, d3] }
  | _ => none }
def FieldHalvesWrongFalsely : Prop := fieldHalvesRow.holds Tryd.pinned (OpenSpec.ofChange fieldHalvesWrong)

/-- 'woodgrainlaw18.FieldMeets': WHATEVER THE INPUT: true; the input reads as it did. -/
def fieldMeetsSpec : ChangeSpec := { name := "fieldMeets", fn := fun _ => fun
  | [d1, d2] => { results := [.lit (.bool true)], args := [d1, d2] }
  | _ => none }
def fieldMeetsRow : OpenClaim := { program := "ytkondnlilkpdoaadoor", sum := "dbdf4b0664d335a46e95002014856c1dd8121eb05a93b4ab0a50bfb15e344eea", func := "woodgrain/woodgrainlaw18.FieldMeets", spec := "fieldMeets", unfollowed := true, recurses := true, named := ["woodgrain/field.pairs", "woodgrain/field.have"], apart := false, laid := [("woodgrain/field.pairs", laid_woodgrain_field_pairs), ("woodgrain/field.have", laid_woodgrain_field_have)] }
def FieldMeetsSaid : Prop := fieldMeetsRow.holds Tryd.pinned (OpenSpec.ofChange fieldMeetsSpec)

/-- ITS FALSE NEIGHBOUR: 'it returns false'. Refute it at one input. -/
def fieldMeetsWrong : ChangeSpec := { name := "fieldMeets", fn := fun _ => fun
  | [d1, d2] => { results := [.lit (.bool false)], args := [d1, d2] }
  | _ => none }
def FieldMeetsWrongFalsely : Prop := fieldMeetsRow.holds Tryd.pinned (OpenSpec.ofChange fieldMeetsWrong)

/- THE SECOND FORM. 'bulk': how many values and letters a reading holds, each counted each time it is reached (what is shared counts as often as it is met; a slice's spare places count too). A statement '..UptoSaid' is the law's where the arguments, and the package variables that the reading takes, are together of bulk at most 1048576: NARROWER than '..Said'. Prove '..Said' where nothing that the law and all that it calls make is longer than what came in: it says more and counts as full. Else prove '..UptoSaid'. A law counts once. -/
mutual
def uptoBulk {H : Type} : DataW H → Nat
  | .lit (.string bytes) => bytes.length + 1
  | .lit _ => 1
  | .nil => 1
  | .ptr d => uptoBulk d + 1
  | .slice elems spare => uptoBulkAll elems + uptoBulkAll spare + 1
  | .agg parts => uptoBulkAll parts + 1
  | .iface _ d => uptoBulk d + 1
  | .map entries => uptoBulkEntries entries + 1
  | .held _ => 1
def uptoBulkAll {H : Type} : List (DataW H) → Nat
  | [] => 0
  | d :: r => uptoBulk d + uptoBulkAll r
def uptoBulkEntries {H : Type} : List (Lit × DataW H) → Nat
  | [] => 0
  | x :: r => uptoBulkEntry x + uptoBulkEntries r
def uptoBulkEntry {H : Type} : Lit × DataW H → Nat
  | (.string bytes, d) => bytes.length + uptoBulk d + 1
  | (_, d) => uptoBulk d + 1
 end
def uptoSmall : (H : Type) → List (DataW H) → Bool := fun _ ds => decide (uptoBulkAll ds ≤ 1048576)
def OpenSpec.upto (s : _root_.Go.ChangeSpec) : _root_.Go.OpenSpec := { _root_.Go.OpenSpec.ofChange s with cond := some uptoSmall }

/-- 'woodgrainlaw18.FieldLits', WHERE WHAT IT READS IS OF BULK AT MOST 1048576: true; the input reads as it did. -/
def fieldLitsUptoRow : OpenClaim := { program := "ytkondnlilkpdoaadoor", sum := "dbdf4b0664d335a46e95002014856c1dd8121eb05a93b4ab0a50bfb15e344eea", func := "woodgrain/woodgrainlaw18.FieldLits", spec := "fieldLits", unfollowed := true, recurses := true, named := ["woodgrain/field.have", "woodgrain/field.pairs"], apart := false, laid := [("woodgrain/field.pairs", laid_woodgrain_field_pairs), ("woodgrain/field.have", laid_woodgrain_field_have)], narrowed := true }
def FieldLitsUptoSaid : Prop := fieldLitsUptoRow.holds Tryd.pinned (OpenSpec.upto fieldLitsSpec)

/-- 'woodgrainlaw18.FieldSees', WHERE WHAT IT READS IS OF BULK AT MOST 1048576: true; the input reads as it did. -/
def fieldSeesUptoRow : OpenClaim := { program := "ytkondnlilkpdoaadoor", sum := "dbdf4b0664d335a46e95002014856c1dd8121eb05a93b4ab0a50bfb15e344eea", func := "woodgrain/woodgrainlaw18.FieldSees", spec := "fieldSees", unfollowed := true, recurses := true, named := ["woodgrain/field.pairs", "woodgrain/field.have"], apart := false, laid := [("woodgrain/field.pairs", laid_woodgrain_field_pairs), ("woodgrain/field.have", laid_woodgrain_field_have)], narrowed := true }
def FieldSeesUptoSaid : Prop := fieldSeesUptoRow.holds Tryd.pinned (OpenSpec.upto fieldSeesSpec)

/-- 'woodgrainlaw18.FieldTells', WHERE WHAT IT READS IS OF BULK AT MOST 1048576: true; the input reads as it did. -/
def fieldTellsUptoRow : OpenClaim := { program := "ytkondnlilkpdoaadoor", sum := "dbdf4b0664d335a46e95002014856c1dd8121eb05a93b4ab0a50bfb15e344eea", func := "woodgrain/woodgrainlaw18.FieldTells", spec := "fieldTells", unfollowed := true, recurses := true, named := ["woodgrain/field.have", "woodgrain/field.pairs"], apart := false, laid := [("woodgrain/field.pairs", laid_woodgrain_field_pairs), ("woodgrain/field.have", laid_woodgrain_field_have)], narrowed := true }
def FieldTellsUptoSaid : Prop := fieldTellsUptoRow.holds Tryd.pinned (OpenSpec.upto fieldTellsSpec)

/-- 'woodgrainlaw18.FieldGraphs', WHERE WHAT IT READS IS OF BULK AT MOST 1048576: true; the input reads as it did. -/
def fieldGraphsUptoRow : OpenClaim := { program := "ytkondnlilkpdoaadoor", sum := "dbdf4b0664d335a46e95002014856c1dd8121eb05a93b4ab0a50bfb15e344eea", func := "woodgrain/woodgrainlaw18.FieldGraphs", spec := "fieldGraphs", unfollowed := true, recurses := true, named := ["woodgrain/field.have", "woodgrain/field.pairs"], apart := false, laid := [("woodgrain/field.pairs", laid_woodgrain_field_pairs), ("woodgrain/field.have", laid_woodgrain_field_have)], narrowed := true }
def FieldGraphsUptoSaid : Prop := fieldGraphsUptoRow.holds Tryd.pinned (OpenSpec.upto fieldGraphsSpec)

/-- 'woodgrainlaw18.FieldHalves', WHERE WHAT IT READS IS OF BULK AT MOST 1048576: true; the input reads as it did. -/
def fieldHalvesUptoRow : OpenClaim := { program := "ytkondnlilkpdoaadoor", sum := "dbdf4b0664d335a46e95002014856c1dd8121eb05a93b4ab0a50bfb15e344eea", func := "woodgrain/woodgrainlaw18.FieldHalves", spec := "fieldHalves", unfollowed := true, recurses := true, named := ["woodgrain/field.have", "woodgrain/field.pairs"], apart := false, laid := [("woodgrain/field.pairs", laid_woodgrain_field_pairs), ("woodgrain/field.have", laid_woodgrain_field_have)], narrowed := true }
def FieldHalvesUptoSaid : Prop := fieldHalvesUptoRow.holds Tryd.pinned (OpenSpec.upto fieldHalvesSpec)

/-- 'woodgrainlaw18.FieldMeets', WHERE WHAT IT READS IS OF BULK AT MOST 1048576: true; the input reads as it did. -/
def fieldMeetsUptoRow : OpenClaim := { program := "ytkondnlilkpdoaadoor", sum := "dbdf4b0664d335a46e95002014856c1dd8121eb05a93b4ab0a50bfb15e344eea", func := "woodgrain/woodgrainlaw18.FieldMeets", spec := "fieldMeets", unfollowed := true, recurses := true, named := ["woodgrain/field.pairs", "woodgrain/field.have"], apart := false, laid := [("woodgrain/field.pairs", laid_woodgrain_field_pairs), ("woodgrain/field.have", laid_woodgrain_field_have)], narrowed := true }
def FieldMeetsUptoSaid : Prop := fieldMeetsUptoRow.holds Tryd.pinned (OpenSpec.upto fieldMeetsSpec)

end Rows
end Go.Proofs.YtkondnlilkpdoaaDoor
