/-
  NARROWER THAN 'FOR EVERY INPUT', by the rows' own cells (each row's printed sentence says how): ImageFits: laid · CartPlays: laid · CartSets: laid · CartServes: laid · CartHolds: laid · CartCopies: laid · CartNil: laid.
  DERIVED. THE GIVEN ROWS OF THIS SEAT. 7 by the template 'for every input the law returns true; each argument reads behind the call as it read before'; 0 by the template 'total and deterministic' (their statements: YtcohalkofahphaaDoorTotals.lean).
  GIVEN WITH THE SEED: the statements are not yours to turn. If you find one false, say at which input.
  Laid BY PROGRAM, IN A SANDBOX (cutbox-rows.mjs): the forced cells as the released guide's own fill.sh prints them over the translation 1d6b9239a658b4b1… (all of the seat's roots in one cut). By AI agents, Wed Nov 11 2026. No macro, syntax, notation, axiom, sorry.
-/
import Derived.Test.YtcohalkofahphaaDoorChecked
import GoSem.Claim
import GoSem.ClaimJoined
import GoSem.ClaimMapViews
import Derived.JoinedTies
import Derived.KernelRfl
namespace Go.Proofs.YtcohalkofahphaaDoor
/- THE CELL 'sum', in the pinned program and in every row, IS THE sha256 OF THE DUMP (.gsa) THAT YtcohalkofahphaaDoorProg.lean LOADS. Nothing in Lean hashes anything: it is a label: what it is worth is what the hold of that sum in a sandbox is worth. -/
noncomputable def Tryd.pinned : Pinned := { name := "ytcohalkofahphaadoor", sum := "1d6b9239a658b4b13d8c75ca4b030794ad70a11a00af15d5e590b598ce32173d", checked := Tryd.checked }
namespace Rows
def none {H : Type} : Left H := { results := [], args := [] }

/- WHAT THE LISTED PACKAGE-LEVEL VARIABLES READ AS WHEN THE CALL BEGINS. Each datum BY PROGRAM (the guide's laid-datum.mjs) off the statement by which the dump's own 'gosem.cut.vars' lays the variable. In a bare row this is a premise. The card (YtcohalkofahphaaDoorCards.lean) ties it to the program's text. -/
def laid_woodgrain_image_mappers {H : Type} : DataW H := .agg [.agg [.lit (.string [50, 75]), .lit (.int .i64 2048), .lit (.int .i64 2048), .lit (.int .i64 2048), .lit (.bool false), .agg [.lit (.int .i64 0), .lit (.int .i64 0), .lit (.int .i64 0), .lit (.int .i64 0)]], .agg [.lit (.string [51, 70]), .lit (.int .i64 2048), .lit (.int .i64 524288), .lit (.int .i64 2048), .lit (.bool false), .agg [.lit (.int .i64 0), .lit (.int .i64 (-1)), .lit (.int .i64 0), .lit (.int .i64 0)]], .agg [.lit (.string [52, 75]), .lit (.int .i64 4096), .lit (.int .i64 4096), .lit (.int .i64 4096), .lit (.bool false), .agg [.lit (.int .i64 0), .lit (.int .i64 0), .lit (.int .i64 0), .lit (.int .i64 0)]], .agg [.lit (.string [69, 48]), .lit (.int .i64 8192), .lit (.int .i64 8192), .lit (.int .i64 1024), .lit (.bool false), .agg [.lit (.int .i64 4), .lit (.int .i64 5), .lit (.int .i64 6), .lit (.int .i64 7)]], .agg [.lit (.string [70, 52]), .lit (.int .i64 32768), .lit (.int .i64 32768), .lit (.int .i64 4096), .lit (.bool false), .agg [.lit (.int .i64 (-1)), .lit (.int .i64 0), .lit (.int .i64 0), .lit (.int .i64 0)]], .agg [.lit (.string [70, 52, 83, 67]), .lit (.int .i64 32768), .lit (.int .i64 32768), .lit (.int .i64 4096), .lit (.bool true), .agg [.lit (.int .i64 (-1)), .lit (.int .i64 0), .lit (.int .i64 0), .lit (.int .i64 0)]], .agg [.lit (.string [70, 54]), .lit (.int .i64 16384), .lit (.int .i64 16384), .lit (.int .i64 4096), .lit (.bool false), .agg [.lit (.int .i64 (-1)), .lit (.int .i64 0), .lit (.int .i64 0), .lit (.int .i64 0)]], .agg [.lit (.string [70, 54, 83, 67]), .lit (.int .i64 16384), .lit (.int .i64 16384), .lit (.int .i64 4096), .lit (.bool true), .agg [.lit (.int .i64 (-1)), .lit (.int .i64 0), .lit (.int .i64 0), .lit (.int .i64 0)]], .agg [.lit (.string [70, 56]), .lit (.int .i64 8192), .lit (.int .i64 8192), .lit (.int .i64 4096), .lit (.bool false), .agg [.lit (.int .i64 (-1)), .lit (.int .i64 0), .lit (.int .i64 0), .lit (.int .i64 0)]], .agg [.lit (.string [70, 56, 83, 67]), .lit (.int .i64 8192), .lit (.int .i64 8192), .lit (.int .i64 4096), .lit (.bool true), .agg [.lit (.int .i64 (-1)), .lit (.int .i64 0), .lit (.int .i64 0), .lit (.int .i64 0)]], .agg [.lit (.string [70, 69]), .lit (.int .i64 8192), .lit (.int .i64 8192), .lit (.int .i64 4096), .lit (.bool false), .agg [.lit (.int .i64 0), .lit (.int .i64 0), .lit (.int .i64 0), .lit (.int .i64 0)]]]

/-- 'woodgrainlaw04.ImageFits': WHATEVER THE INPUT: true; the input reads as it did. -/
def imageFitsSpec : ChangeSpec := { name := "imageFits", fn := fun _ => fun
  | [d1, d2] => { results := [.lit (.bool true)], args := [d1, d2] }
  | _ => none }
def imageFitsRow : OpenClaim := { program := "ytcohalkofahphaadoor", sum := "1d6b9239a658b4b13d8c75ca4b030794ad70a11a00af15d5e590b598ce32173d", func := "woodgrain/woodgrainlaw04.ImageFits", spec := "imageFits", unfollowed := true, recurses := true, named := ["woodgrain/image.mappers"], apart := false, laid := [("woodgrain/image.mappers", laid_woodgrain_image_mappers)] }
def ImageFitsSaid : Prop := imageFitsRow.holds Tryd.pinned (OpenSpec.ofChange imageFitsSpec)

/-- ITS FALSE NEIGHBOUR: 'it returns false'. Refute it at one input. -/
def imageFitsWrong : ChangeSpec := { name := "imageFits", fn := fun _ => fun
  | [d1, d2] => { results := [.lit (.bool false)], args := [d1, d2] }
  | _ => none }
def ImageFitsWrongFalsely : Prop := imageFitsRow.holds Tryd.pinned (OpenSpec.ofChange imageFitsWrong)

/-- 'woodgrainlaw05.CartPlays': WHATEVER THE INPUT: true; the input reads as it did. -/
def cartPlaysSpec : ChangeSpec := { name := "cartPlays", fn := fun _ => fun
  | [d] => { results := [.lit (.bool true)], args := [d] }
  | _ => none }
def cartPlaysRow : OpenClaim := { program := "ytcohalkofahphaadoor", sum := "1d6b9239a658b4b13d8c75ca4b030794ad70a11a00af15d5e590b598ce32173d", func := "woodgrain/woodgrainlaw05.CartPlays", spec := "cartPlays", unfollowed := true, recurses := true, named := ["woodgrain/image.mappers"], apart := false, laid := [("woodgrain/image.mappers", laid_woodgrain_image_mappers)] }
def CartPlaysSaid : Prop := cartPlaysRow.holds Tryd.pinned (OpenSpec.ofChange cartPlaysSpec)

/-- ITS FALSE NEIGHBOUR: 'it returns false'. Refute it at one input. -/
def cartPlaysWrong : ChangeSpec := { name := "cartPlays", fn := fun _ => fun
  | [d] => { results := [.lit (.bool false)], args := [d] }
  | _ => none }
def CartPlaysWrongFalsely : Prop := cartPlaysRow.holds Tryd.pinned (OpenSpec.ofChange cartPlaysWrong)

/-- 'woodgrainlaw05.CartSets': WHATEVER THE INPUT: true; the input reads as it did. -/
def cartSetsSpec : ChangeSpec := { name := "cartSets", fn := fun _ => fun
  | [d1, d2] => { results := [.lit (.bool true)], args := [d1, d2] }
  | _ => none }
def cartSetsRow : OpenClaim := { program := "ytcohalkofahphaadoor", sum := "1d6b9239a658b4b13d8c75ca4b030794ad70a11a00af15d5e590b598ce32173d", func := "woodgrain/woodgrainlaw05.CartSets", spec := "cartSets", unfollowed := true, recurses := true, named := ["woodgrain/image.mappers"], apart := false, laid := [("woodgrain/image.mappers", laid_woodgrain_image_mappers)] }
def CartSetsSaid : Prop := cartSetsRow.holds Tryd.pinned (OpenSpec.ofChange cartSetsSpec)

/-- ITS FALSE NEIGHBOUR: 'it returns false'. Refute it at one input. -/
def cartSetsWrong : ChangeSpec := { name := "cartSets", fn := fun _ => fun
  | [d1, d2] => { results := [.lit (.bool false)], args := [d1, d2] }
  | _ => none }
def CartSetsWrongFalsely : Prop := cartSetsRow.holds Tryd.pinned (OpenSpec.ofChange cartSetsWrong)

/-- 'woodgrainlaw05.CartServes': WHATEVER THE INPUT: true; the input reads as it did. -/
def cartServesSpec : ChangeSpec := { name := "cartServes", fn := fun _ => fun
  | [d1, d2] => { results := [.lit (.bool true)], args := [d1, d2] }
  | _ => none }
def cartServesRow : OpenClaim := { program := "ytcohalkofahphaadoor", sum := "1d6b9239a658b4b13d8c75ca4b030794ad70a11a00af15d5e590b598ce32173d", func := "woodgrain/woodgrainlaw05.CartServes", spec := "cartServes", unfollowed := true, recurses := true, named := ["woodgrain/image.mappers"], apart := false, laid := [("woodgrain/image.mappers", laid_woodgrain_image_mappers)] }
def CartServesSaid : Prop := cartServesRow.holds Tryd.pinned (OpenSpec.ofChange cartServesSpec)

/-- ITS FALSE NEIGHBOUR: 'it returns false'. Refute it at one input. -/
def cartServesWrong : ChangeSpec := { name := "cartServes", fn := fun _ => fun
  | [d1, d2] => { results := [.lit (.bool false)], args := [d1, d2] }
  | _ => none }
def CartServesWrongFalsely : Prop := cartServesRow.holds Tryd.pinned (OpenSpec.ofChange cartServesWrong)

/-- 'woodgrainlaw05.CartHolds': WHATEVER THE INPUT: true; the input reads as it did. -/
def cartHoldsSpec : ChangeSpec := { name := "cartHolds", fn := fun _ => fun
  | [d1, d2] => { results := [.lit (.bool true)], args := [d1, d2] }
  | _ => none }
def cartHoldsRow : OpenClaim := { program := "ytcohalkofahphaadoor", sum := "1d6b9239a658b4b13d8c75ca4b030794ad70a11a00af15d5e590b598ce32173d", func := "woodgrain/woodgrainlaw05.CartHolds", spec := "cartHolds", unfollowed := true, recurses := true, named := ["woodgrain/image.mappers"], apart := false, laid := [("woodgrain/image.mappers", laid_woodgrain_image_mappers)] }
def CartHoldsSaid : Prop := cartHoldsRow.holds Tryd.pinned (OpenSpec.ofChange cartHoldsSpec)

/-- ITS FALSE NEIGHBOUR: 'it returns false'. Refute it at one input. -/
def cartHoldsWrong : ChangeSpec := { name := "cartHolds", fn := fun _ => fun
  | [d1, d2] => { results := [.lit (.bool false)], args := [d1, d2] }
  | _ => none }
def CartHoldsWrongFalsely : Prop := cartHoldsRow.holds Tryd.pinned (OpenSpec.ofChange cartHoldsWrong)

/-- 'woodgrainlaw05.CartCopies': WHATEVER THE INPUT: true; the input reads as it did. -/
def cartCopiesSpec : ChangeSpec := { name := "cartCopies", fn := fun _ => fun
  | [d1, d2] => { results := [.lit (.bool true)], args := [d1, d2] }
  | _ => none }
def cartCopiesRow : OpenClaim := { program := "ytcohalkofahphaadoor", sum := "1d6b9239a658b4b13d8c75ca4b030794ad70a11a00af15d5e590b598ce32173d", func := "woodgrain/woodgrainlaw05.CartCopies", spec := "cartCopies", unfollowed := true, recurses := true, named := ["woodgrain/image.mappers"], apart := false, laid := [("woodgrain/image.mappers", laid_woodgrain_image_mappers)] }
def CartCopiesSaid : Prop := cartCopiesRow.holds Tryd.pinned (OpenSpec.ofChange cartCopiesSpec)

/-- ITS FALSE NEIGHBOUR: 'it returns false'. Refute it at one input. -/
def cartCopiesWrong : ChangeSpec := { name := "cartCopies", fn := fun _ => fun
  | [d1, d2] => { results := [.lit (.bool false)], args := [d1, d2] }
  | _ => none }
def CartCopiesWrongFalsely : Prop := cartCopiesRow.holds Tryd.pinned (OpenSpec.ofChange cartCopiesWrong)

/-- 'woodgrainlaw05.CartNil': WHATEVER THE INPUT: true; the input reads as it did. -/
def cartNilSpec : ChangeSpec := { name := "cartNil", fn := fun _ => fun
  | [d] => { results := [.lit (.bool true)], args := [d] }
  | _ => none }
def cartNilRow : OpenClaim := { program := "ytcohalkofahphaadoor", sum := "1d6b9239a658b4b13d8c75ca4b030794ad70a11a00af15d5e590b598ce32173d", func := "woodgrain/woodgrainlaw05.CartNil", spec := "cartNil", unfollowed := true, recurses := true, named := ["woodgrain/image.mappers"], apart := false, laid := [("woodgrain/image.mappers", laid_woodgrain_image_mappers)] }
def CartNilSaid : Prop := cartNilRow.holds Tryd.pinned (OpenSpec.ofChange cartNilSpec)

/-- ITS FALSE NEIGHBOUR: 'it returns false'. Refute it at one input. -/
def cartNilWrong : ChangeSpec := { name := "cartNil", fn := fun _ => fun
  | [d] => { results := [.lit (.bool false)], args := [d] }
  | _ => none }
def CartNilWrongFalsely : Prop := cartNilRow.holds Tryd.pinned (OpenSpec.ofChange cartNilWrong)

/- THE SECOND FORM. 'bulk': how many values and letters a reading holds, each counted each time it is reached (what is shared counts as often as it is met; a slice's spare places count too). A statement '..UptoSaid' is the law's where the arguments, and the package variables that the reading takes, are together of bulk at most 1048576: NARROWER than '..Said'. Prove '..Said' where nothing that the law and all that it calls make is longer than what came in: it says more and counts as full. Else prove '..UptoSaid'. A law counts once. -/
mutual
def uptoBulk {H : Type} : DataW H → Nat
  | .lit (.string bytes) => bytes.length + 1
  | .lit _ => 1
  | .nil => 1
  | .ptr d => uptoBulk d + 1
  | .slice elems spare => uptoBulkAll elems + uptoBulkAll spare + 1
  | .agg parts => uptoBulkAll parts + 1
  | .iface _ d => uptoBulk d + 1
  | .map entries => uptoBulkEntries entries + 1
  | .held _ => 1
def uptoBulkAll {H : Type} : List (DataW H) → Nat
  | [] => 0
  | d :: r => uptoBulk d + uptoBulkAll r
def uptoBulkEntries {H : Type} : List (Lit × DataW H) → Nat
  | [] => 0
  | x :: r => uptoBulkEntry x + uptoBulkEntries r
def uptoBulkEntry {H : Type} : Lit × DataW H → Nat
  | (.string bytes, d) => bytes.length + uptoBulk d + 1
  | (_, d) => uptoBulk d + 1
 end
def uptoSmall : (H : Type) → List (DataW H) → Bool := fun _ ds => decide (uptoBulkAll ds ≤ 1048576)
def OpenSpec.upto (s : _root_.Go.ChangeSpec) : _root_.Go.OpenSpec := { _root_.Go.OpenSpec.ofChange s with cond := some uptoSmall }

/-- 'woodgrainlaw04.ImageFits', WHERE WHAT IT READS IS OF BULK AT MOST 1048576: true; the input reads as it did. -/
def imageFitsUptoRow : OpenClaim := { program := "ytcohalkofahphaadoor", sum := "1d6b9239a658b4b13d8c75ca4b030794ad70a11a00af15d5e590b598ce32173d", func := "woodgrain/woodgrainlaw04.ImageFits", spec := "imageFits", unfollowed := true, recurses := true, named := ["woodgrain/image.mappers"], apart := false, laid := [("woodgrain/image.mappers", laid_woodgrain_image_mappers)], narrowed := true }
def ImageFitsUptoSaid : Prop := imageFitsUptoRow.holds Tryd.pinned (OpenSpec.upto imageFitsSpec)

/-- 'woodgrainlaw05.CartPlays', WHERE WHAT IT READS IS OF BULK AT MOST 1048576: true; the input reads as it did. -/
def cartPlaysUptoRow : OpenClaim := { program := "ytcohalkofahphaadoor", sum := "1d6b9239a658b4b13d8c75ca4b030794ad70a11a00af15d5e590b598ce32173d", func := "woodgrain/woodgrainlaw05.CartPlays", spec := "cartPlays", unfollowed := true, recurses := true, named := ["woodgrain/image.mappers"], apart := false, laid := [("woodgrain/image.mappers", laid_woodgrain_image_mappers)], narrowed := true }
def CartPlaysUptoSaid : Prop := cartPlaysUptoRow.holds Tryd.pinned (OpenSpec.upto cartPlaysSpec)

/-- 'woodgrainlaw05.CartSets', WHERE WHAT IT READS IS OF BULK AT MOST 1048576: true; the input reads as it did. -/
def cartSetsUptoRow : OpenClaim := { program := "ytcohalkofahphaadoor", sum := "1d6b9239a658b4b13d8c75ca4b030794ad70a11a00af15d5e590b598ce32173d", func := "woodgrain/woodgrainlaw05.CartSets", spec := "cartSets", unfollowed := true, recurses := true, named := ["woodgrain/image.mappers"], apart := false, laid := [("woodgrain/image.mappers", laid_woodgrain_image_mappers)], narrowed := true }
def CartSetsUptoSaid : Prop := cartSetsUptoRow.holds Tryd.pinned (OpenSpec.upto cartSetsSpec)

/-- 'woodgrainlaw05.CartServes', WHERE WHAT IT READS IS OF BULK AT MOST 1048576: true; the input reads as it did. -/
def cartServesUptoRow : OpenClaim := { program := "ytcohalkofahphaadoor", sum := "1d6b9239a658b4b13d8c75ca4b030794ad70a11a00af15d5e590b598ce32173d", func := "woodgrain/woodgrainlaw05.CartServes", spec := "cartServes", unfollowed := true, recurses := true, named := ["woodgrain/image.mappers"], apart := false, laid := [("woodgrain/image.mappers", laid_woodgrain_image_mappers)], narrowed := true }
def CartServesUptoSaid : Prop := cartServesUptoRow.holds Tryd.pinned (OpenSpec.upto cartServesSpec)

/-- 'woodgrainlaw05.CartHolds', WHERE WHAT IT READS IS OF BULK AT MOST 1048576: true; the input reads as it did. -/
def cartHoldsUptoRow : OpenClaim := { program := "ytcohalkofahphaadoor", sum := "1d6b9239a658b4b13d8c75ca4b030794ad70a11a00af15d5e590b598ce32173d", func := "woodgrain/woodgrainlaw05.CartHolds", spec := "cartHolds", unfollowed := true, recurses := true, named := ["woodgrain/image.mappers"], apart := false, laid := [("woodgrain/image.mappers", laid_woodgrain_image_mappers)], narrowed := true }
def CartHoldsUptoSaid : Prop := cartHoldsUptoRow.holds Tryd.pinned (OpenSpec.upto cartHoldsSpec)

/-- 'woodgrainlaw05.CartCopies', WHERE WHAT IT READS IS OF BULK AT MOST 1048576: true; the input reads as it did. -/
def cartCopiesUptoRow : OpenClaim := { program := "ytcohalkofahphaadoor", sum := "1d6b9239a658b4b13d8c75ca4b030794ad70a11a00af15d5e590b598ce32173d", func := "woodgrain/woodgrainlaw05.CartCopies", spec := "cartCopies", unfollowed := true, recurses := true, named := ["woodgrain/image.mappers"], apart := false, laid := [("woodgrain/image.mappers", laid_woodgrain_image_mappers)], narrowed := true }
def CartCopiesUptoSaid : Prop := cartCopiesUptoRow.holds Tryd.pinned (OpenSpec.upto cartCopiesSpec)

/-- 'woodgrainlaw05.CartNil', WHERE WHAT IT READS IS OF BULK AT MOST 1048576: true; the input reads as it did. -/
def cartNilUptoRow : OpenClaim := { program := "ytcohalkofahphaadoor", sum := "1d6b9239a658b4b13d8c75ca4b030794ad70a11a00af15d5e590b598ce32173d", func := "woodgrain/woodgrainlaw05.CartNil", spec := "cartNil", unfollowed := true, recurses := true, named := ["woodgrain/image.mappers"], apart := false, laid := [("woodgrain/image.mappers", laid_woodgrain_image_mappers)], narrowed := true }
def CartNilUptoSaid : Prop := cartNilUptoRow.holds Tryd.pinned (OpenSpec.upto cartNilSpec)

end Rows
end Go.Proofs.YtcohalkofahphaaDoor
