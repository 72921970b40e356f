/-
  NARROWER THAN 'FOR EVERY INPUT', by the rows' own cells (each row's printed sentence says how): ImageFits: laid · ImageTags: laid · ImageWhole: laid.
  DERIVED. THE GIVEN ROWS OF THIS SEAT. 3 by the template 'for every input the law returns true; each argument reads behind the call as it read before'; 0 by the template 'total and deterministic' (their statements: YtneapdegjofodaaDoorTotals.lean).
  GIVEN WITH THE SEED: the statements are not yours to turn. If you find one false, say at which input.
  Laid BY PROGRAM, IN A SANDBOX (cutbox-rows.mjs): the forced cells as the released guide's own fill.sh prints them over the translation 596b283de792bbd7… (all of the seat's roots in one cut). By AI agents, Wed Nov 11 2026. No macro, syntax, notation, axiom, sorry.
-/
import Derived.Test.YtneapdegjofodaaDoorChecked
import GoSem.Claim
import GoSem.ClaimJoined
import GoSem.ClaimMapViews
import Derived.JoinedTies
import Derived.KernelRfl
namespace Go.Proofs.YtneapdegjofodaaDoor
/- THE CELL 'sum', in the pinned program and in every row, IS THE sha256 OF THE DUMP (.gsa) THAT YtneapdegjofodaaDoorProg.lean LOADS. Nothing in Lean hashes anything: it is a label: what it is worth is what the hold of that sum in a sandbox is worth. -/
noncomputable def Tryd.pinned : Pinned := { name := "ytneapdegjofodaadoor", sum := "596b283de792bbd705667f67a9d704f70abc5bf860ef3faacc93f6bed2afb30e", checked := Tryd.checked }
namespace Rows
def none {H : Type} : Left H := { results := [], args := [] }

/- WHAT THE LISTED PACKAGE-LEVEL VARIABLES READ AS WHEN THE CALL BEGINS. Each datum BY PROGRAM (the guide's laid-datum.mjs) off the statement by which the dump's own 'gosem.cut.vars' lays the variable. In a bare row this is a premise. The card (YtneapdegjofodaaDoorCards.lean) ties it to the program's text. -/
def laid_woodgrain_image_mappers {H : Type} : DataW H := .agg [.agg [.lit (.string [50, 75]), .lit (.int .i64 2048), .lit (.int .i64 2048), .lit (.int .i64 2048), .lit (.bool false), .agg [.lit (.int .i64 0), .lit (.int .i64 0), .lit (.int .i64 0), .lit (.int .i64 0)]], .agg [.lit (.string [51, 70]), .lit (.int .i64 2048), .lit (.int .i64 524288), .lit (.int .i64 2048), .lit (.bool false), .agg [.lit (.int .i64 0), .lit (.int .i64 (-1)), .lit (.int .i64 0), .lit (.int .i64 0)]], .agg [.lit (.string [52, 75]), .lit (.int .i64 4096), .lit (.int .i64 4096), .lit (.int .i64 4096), .lit (.bool false), .agg [.lit (.int .i64 0), .lit (.int .i64 0), .lit (.int .i64 0), .lit (.int .i64 0)]], .agg [.lit (.string [69, 48]), .lit (.int .i64 8192), .lit (.int .i64 8192), .lit (.int .i64 1024), .lit (.bool false), .agg [.lit (.int .i64 4), .lit (.int .i64 5), .lit (.int .i64 6), .lit (.int .i64 7)]], .agg [.lit (.string [70, 52]), .lit (.int .i64 32768), .lit (.int .i64 32768), .lit (.int .i64 4096), .lit (.bool false), .agg [.lit (.int .i64 (-1)), .lit (.int .i64 0), .lit (.int .i64 0), .lit (.int .i64 0)]], .agg [.lit (.string [70, 52, 83, 67]), .lit (.int .i64 32768), .lit (.int .i64 32768), .lit (.int .i64 4096), .lit (.bool true), .agg [.lit (.int .i64 (-1)), .lit (.int .i64 0), .lit (.int .i64 0), .lit (.int .i64 0)]], .agg [.lit (.string [70, 54]), .lit (.int .i64 16384), .lit (.int .i64 16384), .lit (.int .i64 4096), .lit (.bool false), .agg [.lit (.int .i64 (-1)), .lit (.int .i64 0), .lit (.int .i64 0), .lit (.int .i64 0)]], .agg [.lit (.string [70, 54, 83, 67]), .lit (.int .i64 16384), .lit (.int .i64 16384), .lit (.int .i64 4096), .lit (.bool true), .agg [.lit (.int .i64 (-1)), .lit (.int .i64 0), .lit (.int .i64 0), .lit (.int .i64 0)]], .agg [.lit (.string [70, 56]), .lit (.int .i64 8192), .lit (.int .i64 8192), .lit (.int .i64 4096), .lit (.bool false), .agg [.lit (.int .i64 (-1)), .lit (.int .i64 0), .lit (.int .i64 0), .lit (.int .i64 0)]], .agg [.lit (.string [70, 56, 83, 67]), .lit (.int .i64 8192), .lit (.int .i64 8192), .lit (.int .i64 4096), .lit (.bool true), .agg [.lit (.int .i64 (-1)), .lit (.int .i64 0), .lit (.int .i64 0), .lit (.int .i64 0)]], .agg [.lit (.string [70, 69]), .lit (.int .i64 8192), .lit (.int .i64 8192), .lit (.int .i64 4096), .lit (.bool false), .agg [.lit (.int .i64 0), .lit (.int .i64 0), .lit (.int .i64 0), .lit (.int .i64 0)]]]

/-- 'woodgrainlaw04.ImageFits': WHATEVER THE INPUT: true; the input reads as it did. -/
def imageFitsSpec : ChangeSpec := { name := "imageFits", fn := fun _ => fun
  | [d1, d2] => { results := [.lit (.bool true)], args := [d1, d2] }
  | _ => none }
def imageFitsRow : OpenClaim := { program := "ytneapdegjofodaadoor", sum := "596b283de792bbd705667f67a9d704f70abc5bf860ef3faacc93f6bed2afb30e", func := "woodgrain/woodgrainlaw04.ImageFits", spec := "imageFits", unfollowed := true, recurses := true, named := ["woodgrain/image.mappers"], apart := false, laid := [("woodgrain/image.mappers", laid_woodgrain_image_mappers)] }
def ImageFitsSaid : Prop := imageFitsRow.holds Tryd.pinned (OpenSpec.ofChange imageFitsSpec)

/-- ITS FALSE NEIGHBOUR: 'it returns false'. Refute it at one input. -/
def imageFitsWrong : ChangeSpec := { name := "imageFits", fn := fun _ => fun
  | [d1, d2] => { results := [.lit (.bool false)], args := [d1, d2] }
  | _ => none }
def ImageFitsWrongFalsely : Prop := imageFitsRow.holds Tryd.pinned (OpenSpec.ofChange imageFitsWrong)

/-- 'woodgrainlaw04.ImageTags': WHATEVER THE INPUT: true; the input reads as it did. -/
def imageTagsSpec : ChangeSpec := { name := "imageTags", fn := fun _ => fun
  | [d] => { results := [.lit (.bool true)], args := [d] }
  | _ => none }
def imageTagsRow : OpenClaim := { program := "ytneapdegjofodaadoor", sum := "596b283de792bbd705667f67a9d704f70abc5bf860ef3faacc93f6bed2afb30e", func := "woodgrain/woodgrainlaw04.ImageTags", spec := "imageTags", unfollowed := true, recurses := true, named := ["woodgrain/image.mappers"], apart := false, laid := [("woodgrain/image.mappers", laid_woodgrain_image_mappers)] }
def ImageTagsSaid : Prop := imageTagsRow.holds Tryd.pinned (OpenSpec.ofChange imageTagsSpec)

/-- ITS FALSE NEIGHBOUR: 'it returns false'. Refute it at one input. -/
def imageTagsWrong : ChangeSpec := { name := "imageTags", fn := fun _ => fun
  | [d] => { results := [.lit (.bool false)], args := [d] }
  | _ => none }
def ImageTagsWrongFalsely : Prop := imageTagsRow.holds Tryd.pinned (OpenSpec.ofChange imageTagsWrong)

/-- 'woodgrainlaw04.ImageWhole': WHATEVER THE INPUT: true; the input reads as it did. -/
def imageWholeSpec : ChangeSpec := { name := "imageWhole", fn := fun _ => fun
  | [d1, d2] => { results := [.lit (.bool true)], args := [d1, d2] }
  | _ => none }
def imageWholeRow : OpenClaim := { program := "ytneapdegjofodaadoor", sum := "596b283de792bbd705667f67a9d704f70abc5bf860ef3faacc93f6bed2afb30e", func := "woodgrain/woodgrainlaw04.ImageWhole", spec := "imageWhole", unfollowed := true, recurses := true, named := ["woodgrain/image.mappers"], apart := false, laid := [("woodgrain/image.mappers", laid_woodgrain_image_mappers)] }
def ImageWholeSaid : Prop := imageWholeRow.holds Tryd.pinned (OpenSpec.ofChange imageWholeSpec)

/-- ITS FALSE NEIGHBOUR: 'it returns false'. Refute it at one input. -/
def imageWholeWrong : ChangeSpec := { name := "imageWhole", fn := fun _ => fun
  | [d1, d2] => { results := [.lit (.bool false)], args := [d1, d2] }
  | _ => none }
def ImageWholeWrongFalsely : Prop := imageWholeRow.holds Tryd.pinned (OpenSpec.ofChange imageWholeWrong)

/- THE SECOND FORM. 'bulk': how many values and letters a reading holds, each counted each time it is reached (what is shared counts as often as it is met; a slice's spare places count too). A statement '..UptoSaid' is the law's where the arguments, and the package variables that the reading takes, are together of bulk at most 1048576: NARROWER than '..Said'. Prove '..Said' where nothing that the law and all that it calls make is longer than what came in: it says more and counts as full. Else prove '..UptoSaid'. A law counts once. -/
mutual
def uptoBulk {H : Type} : DataW H → Nat
  | .lit (.string bytes) => bytes.length + 1
  | .lit _ => 1
  | .nil => 1
  | .ptr d => uptoBulk d + 1
  | .slice elems spare => uptoBulkAll elems + uptoBulkAll spare + 1
  | .agg parts => uptoBulkAll parts + 1
  | .iface _ d => uptoBulk d + 1
  | .map entries => uptoBulkEntries entries + 1
  | .held _ => 1
def uptoBulkAll {H : Type} : List (DataW H) → Nat
  | [] => 0
  | d :: r => uptoBulk d + uptoBulkAll r
def uptoBulkEntries {H : Type} : List (Lit × DataW H) → Nat
  | [] => 0
  | x :: r => uptoBulkEntry x + uptoBulkEntries r
def uptoBulkEntry {H : Type} : Lit × DataW H → Nat
  | (.string bytes, d) => bytes.length + uptoBulk d + 1
  | (_, d) => uptoBulk d + 1
 end
def uptoSmall : (H : Type) → List (DataW H) → Bool := fun _ ds => decide (uptoBulkAll ds ≤ 1048576)
def OpenSpec.upto (s : _root_.Go.ChangeSpec) : _root_.Go.OpenSpec := { _root_.Go.OpenSpec.ofChange s with cond := some uptoSmall }

/-- 'woodgrainlaw04.ImageFits', WHERE WHAT IT READS IS OF BULK AT MOST 1048576: true; the input reads as it did. -/
def imageFitsUptoRow : OpenClaim := { program := "ytneapdegjofodaadoor", sum := "596b283de792bbd705667f67a9d704f70abc5bf860ef3faacc93f6bed2afb30e", func := "woodgrain/woodgrainlaw04.ImageFits", spec := "imageFits", unfollowed := true, recurses := true, named := ["woodgrain/image.mappers"], apart := false, laid := [("woodgrain/image.mappers", laid_woodgrain_image_mappers)], narrowed := true }
def ImageFitsUptoSaid : Prop := imageFitsUptoRow.holds Tryd.pinned (OpenSpec.upto imageFitsSpec)

/-- 'woodgrainlaw04.ImageTags', WHERE WHAT IT READS IS OF BULK AT MOST 1048576: true; the input reads as it did. -/
def imageTagsUptoRow : OpenClaim := { program := "ytneapdegjofodaadoor", sum := "596b283de792bbd705667f67a9d704f70abc5bf860ef3faacc93f6bed2afb30e", func := "woodgrain/woodgrainlaw04.ImageTags", spec := "imageTags", unfollowed := true, recurses := true, named := ["woodgrain/image.mappers"], apart := false, laid := [("woodgrain/image.mappers", laid_woodgrain_image_mappers)], narrowed := true }
def ImageTagsUptoSaid : Prop := imageTagsUptoRow.holds Tryd.pinned (OpenSpec.upto imageTagsSpec)

/-- 'woodgrainlaw04.ImageWhole', WHERE WHAT IT READS IS OF BULK AT MOST 1048576: true; the input reads as it did. -/
def imageWholeUptoRow : OpenClaim := { program := "ytneapdegjofodaadoor", sum := "596b283de792bbd705667f67a9d704f70abc5bf860ef3faacc93f6bed2afb30e", func := "woodgrain/woodgrainlaw04.ImageWhole", spec := "imageWhole", unfollowed := true, recurses := true, named := ["woodgrain/image.mappers"], apart := false, laid := [("woodgrain/image.mappers", laid_woodgrain_image_mappers)], narrowed := true }
def ImageWholeUptoSaid : Prop := imageWholeUptoRow.holds Tryd.pinned (OpenSpec.upto imageWholeSpec)

end Rows
end Go.Proofs.YtneapdegjofodaaDoor
