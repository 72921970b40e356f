/-
  NARROWER THAN 'FOR EVERY INPUT', by the rows' own cells (each row's printed sentence says how): RiotPlays: laid · RiotMirrors: laid · RiotCopies: laid · RiotNil: laid.
  DERIVED. THE GIVEN ROWS OF THIS SEAT. 4 by the template 'for every input the law returns true; each argument reads behind the call as it read before'; 0 by the template 'total and deterministic' (their statements: YtgclgegdojnpcaaDoorTotals.lean).
  GIVEN WITH THE SEED: the statements are not yours to turn. If you find one false, say at which input.
  Laid BY PROGRAM, IN A SANDBOX (cutbox-rows.mjs): the forced cells as the released guide's own fill.sh prints them over the translation 82c7e1260dc5790b… (all of the seat's roots in one cut). By AI agents, Wed Nov 11 2026. No macro, syntax, notation, axiom, sorry.
-/
import Derived.Test.YtgclgegdojnpcaaDoorChecked
import GoSem.Claim
import GoSem.ClaimJoined
import GoSem.ClaimMapViews
import Derived.JoinedTies
import Derived.KernelRfl
namespace Go.Proofs.YtgclgegdojnpcaaDoor
/- THE CELL 'sum', in the pinned program and in every row, IS THE sha256 OF THE DUMP (.gsa) THAT YtgclgegdojnpcaaDoorProg.lean LOADS. Nothing in Lean hashes anything: it is a label: what it is worth is what the hold of that sum in a sandbox is worth. -/
noncomputable def Tryd.pinned : Pinned := { name := "ytgclgegdojnpcaadoor", sum := "82c7e1260dc5790b78f9c6fbed3f07b15c9c6197eab66e0a49c80d232c0f6504", checked := Tryd.checked }
namespace Rows
def none {H : Type} : Left H := { results := [], args := [] }

/- WHAT THE LISTED PACKAGE-LEVEL VARIABLES READ AS WHEN THE CALL BEGINS. Each datum BY PROGRAM (the guide's laid-datum.mjs) off the statement by which the dump's own 'gosem.cut.vars' lays the variable. In a bare row this is a premise. The card (YtgclgegdojnpcaaDoorCards.lean) ties it to the program's text. -/
def laid_woodgrain_timer_intervals {H : Type} : DataW H := .agg [.lit (.int .i64 1), .lit (.int .i64 8), .lit (.int .i64 64), .lit (.int .i64 1024)]

/-- 'woodgrainlaw08.RiotPlays': WHATEVER THE INPUT: true; the input reads as it did. -/
def riotPlaysSpec : ChangeSpec := { name := "riotPlays", fn := fun _ => fun
  | [d1, d2] => { results := [.lit (.bool true)], args := [d1, d2] }
  | _ => none }
def riotPlaysRow : OpenClaim := { program := "ytgclgegdojnpcaadoor", sum := "82c7e1260dc5790b78f9c6fbed3f07b15c9c6197eab66e0a49c80d232c0f6504", func := "woodgrain/woodgrainlaw08.RiotPlays", spec := "riotPlays", named := ["woodgrain/timer.intervals"], apart := false, laid := [("woodgrain/timer.intervals", laid_woodgrain_timer_intervals)] }
def RiotPlaysSaid : Prop := riotPlaysRow.holds Tryd.pinned (OpenSpec.ofChange riotPlaysSpec)

/-- ITS FALSE NEIGHBOUR: 'it returns false'. Refute it at one input. -/
def riotPlaysWrong : ChangeSpec := { name := "riotPlays", fn := fun _ => fun
  | [d1, d2] => { results := [.lit (.bool false)], args := [d1, d2] }
  | _ => none }
def RiotPlaysWrongFalsely : Prop := riotPlaysRow.holds Tryd.pinned (OpenSpec.ofChange riotPlaysWrong)

/-- 'woodgrainlaw08.RiotMirrors': WHATEVER THE INPUT: true; the input reads as it did. -/
def riotMirrorsSpec : ChangeSpec := { name := "riotMirrors", fn := fun _ => fun
  | [d1, d2] => { results := [.lit (.bool true)], args := [d1, d2] }
  | _ => none }
def riotMirrorsRow : OpenClaim := { program := "ytgclgegdojnpcaadoor", sum := "82c7e1260dc5790b78f9c6fbed3f07b15c9c6197eab66e0a49c80d232c0f6504", func := "woodgrain/woodgrainlaw08.RiotMirrors", spec := "riotMirrors", named := ["woodgrain/timer.intervals"], apart := false, laid := [("woodgrain/timer.intervals", laid_woodgrain_timer_intervals)] }
def RiotMirrorsSaid : Prop := riotMirrorsRow.holds Tryd.pinned (OpenSpec.ofChange riotMirrorsSpec)

/-- ITS FALSE NEIGHBOUR: 'it returns false'. Refute it at one input. -/
def riotMirrorsWrong : ChangeSpec := { name := "riotMirrors", fn := fun _ => fun
  | [d1, d2] => { results := [.lit (.bool false)], args := [d1, d2] }
  | _ => none }
def RiotMirrorsWrongFalsely : Prop := riotMirrorsRow.holds Tryd.pinned (OpenSpec.ofChange riotMirrorsWrong)

/-- 'woodgrainlaw08.RiotCopies': WHATEVER THE INPUT: true; the input reads as it did. -/
def riotCopiesSpec : ChangeSpec := { name := "riotCopies", fn := fun _ => fun
  | [d1, d2] => { results := [.lit (.bool true)], args := [d1, d2] }
  | _ => none }
def riotCopiesRow : OpenClaim := { program := "ytgclgegdojnpcaadoor", sum := "82c7e1260dc5790b78f9c6fbed3f07b15c9c6197eab66e0a49c80d232c0f6504", func := "woodgrain/woodgrainlaw08.RiotCopies", spec := "riotCopies", unfollowed := true, recurses := true, named := ["woodgrain/timer.intervals"], apart := false, laid := [("woodgrain/timer.intervals", laid_woodgrain_timer_intervals)] }
def RiotCopiesSaid : Prop := riotCopiesRow.holds Tryd.pinned (OpenSpec.ofChange riotCopiesSpec)

/-- ITS FALSE NEIGHBOUR: 'it returns false'. Refute it at one input. -/
def riotCopiesWrong : ChangeSpec := { name := "riotCopies", fn := fun _ => fun
  | [d1, d2] => { results := [.lit (.bool false)], args := [d1, d2] }
  | _ => none }
def RiotCopiesWrongFalsely : Prop := riotCopiesRow.holds Tryd.pinned (OpenSpec.ofChange riotCopiesWrong)

/-- 'woodgrainlaw08.RiotNil': WHATEVER THE INPUT: true; the input reads as it did. -/
def riotNilSpec : ChangeSpec := { name := "riotNil", fn := fun _ => fun
  | [d] => { results := [.lit (.bool true)], args := [d] }
  | _ => none }
def riotNilRow : OpenClaim := { program := "ytgclgegdojnpcaadoor", sum := "82c7e1260dc5790b78f9c6fbed3f07b15c9c6197eab66e0a49c80d232c0f6504", func := "woodgrain/woodgrainlaw08.RiotNil", spec := "riotNil", unfollowed := true, recurses := true, named := ["woodgrain/timer.intervals"], apart := false, laid := [("woodgrain/timer.intervals", laid_woodgrain_timer_intervals)] }
def RiotNilSaid : Prop := riotNilRow.holds Tryd.pinned (OpenSpec.ofChange riotNilSpec)

/-- ITS FALSE NEIGHBOUR: 'it returns false'. Refute it at one input. -/
def riotNilWrong : ChangeSpec := { name := "riotNil", fn := fun _ => fun
  | [d] => { results := [.lit (.bool false)], args := [d] }
  | _ => none }
def RiotNilWrongFalsely : Prop := riotNilRow.holds Tryd.pinned (OpenSpec.ofChange riotNilWrong)

/- THE SECOND FORM. 'bulk': how many values and letters a reading holds, each counted each time it is reached (what is shared counts as often as it is met; a slice's spare places count too). A statement '..UptoSaid' is the law's where the arguments, and the package variables that the reading takes, are together of bulk at most 1048576: NARROWER than '..Said'. Prove '..Said' where nothing that the law and all that it calls make is longer than what came in: it says more and counts as full. Else prove '..UptoSaid'. A law counts once. -/
mutual
def uptoBulk {H : Type} : DataW H → Nat
  | .lit (.string bytes) => bytes.length + 1
  | .lit _ => 1
  | .nil => 1
  | .ptr d => uptoBulk d + 1
  | .slice elems spare => uptoBulkAll elems + uptoBulkAll spare + 1
  | .agg parts => uptoBulkAll parts + 1
  | .iface _ d => uptoBulk d + 1
  | .map entries => uptoBulkEntries entries + 1
  | .held _ => 1
def uptoBulkAll {H : Type} : List (DataW H) → Nat
  | [] => 0
  | d :: r => uptoBulk d + uptoBulkAll r
def uptoBulkEntries {H : Type} : List (Lit × DataW H) → Nat
  | [] => 0
  | x :: r => uptoBulkEntry x + uptoBulkEntries r
def uptoBulkEntry {H : Type} : Lit × DataW H → Nat
  | (.string bytes, d) => bytes.length + uptoBulk d + 1
  | (_, d) => uptoBulk d + 1
 end
def uptoSmall : (H : Type) → List (DataW H) → Bool := fun _ ds => decide (uptoBulkAll ds ≤ 1048576)
def OpenSpec.upto (s : _root_.Go.ChangeSpec) : _root_.Go.OpenSpec := { _root_.Go.OpenSpec.ofChange s with cond := some uptoSmall }

/-- 'woodgrainlaw08.RiotPlays', WHERE WHAT IT READS IS OF BULK AT MOST 1048576: true; the input reads as it did. -/
def riotPlaysUptoRow : OpenClaim := { program := "ytgclgegdojnpcaadoor", sum := "82c7e1260dc5790b78f9c6fbed3f07b15c9c6197eab66e0a49c80d232c0f6504", func := "woodgrain/woodgrainlaw08.RiotPlays", spec := "riotPlays", named := ["woodgrain/timer.intervals"], apart := false, laid := [("woodgrain/timer.intervals", laid_woodgrain_timer_intervals)], narrowed := true }
def RiotPlaysUptoSaid : Prop := riotPlaysUptoRow.holds Tryd.pinned (OpenSpec.upto riotPlaysSpec)

/-- 'woodgrainlaw08.RiotMirrors', WHERE WHAT IT READS IS OF BULK AT MOST 1048576: true; the input reads as it did. -/
def riotMirrorsUptoRow : OpenClaim := { program := "ytgclgegdojnpcaadoor", sum := "82c7e1260dc5790b78f9c6fbed3f07b15c9c6197eab66e0a49c80d232c0f6504", func := "woodgrain/woodgrainlaw08.RiotMirrors", spec := "riotMirrors", named := ["woodgrain/timer.intervals"], apart := false, laid := [("woodgrain/timer.intervals", laid_woodgrain_timer_intervals)], narrowed := true }
def RiotMirrorsUptoSaid : Prop := riotMirrorsUptoRow.holds Tryd.pinned (OpenSpec.upto riotMirrorsSpec)

/-- 'woodgrainlaw08.RiotCopies', WHERE WHAT IT READS IS OF BULK AT MOST 1048576: true; the input reads as it did. -/
def riotCopiesUptoRow : OpenClaim := { program := "ytgclgegdojnpcaadoor", sum := "82c7e1260dc5790b78f9c6fbed3f07b15c9c6197eab66e0a49c80d232c0f6504", func := "woodgrain/woodgrainlaw08.RiotCopies", spec := "riotCopies", unfollowed := true, recurses := true, named := ["woodgrain/timer.intervals"], apart := false, laid := [("woodgrain/timer.intervals", laid_woodgrain_timer_intervals)], narrowed := true }
def RiotCopiesUptoSaid : Prop := riotCopiesUptoRow.holds Tryd.pinned (OpenSpec.upto riotCopiesSpec)

/-- 'woodgrainlaw08.RiotNil', WHERE WHAT IT READS IS OF BULK AT MOST 1048576: true; the input reads as it did. -/
def riotNilUptoRow : OpenClaim := { program := "ytgclgegdojnpcaadoor", sum := "82c7e1260dc5790b78f9c6fbed3f07b15c9c6197eab66e0a49c80d232c0f6504", func := "woodgrain/woodgrainlaw08.RiotNil", spec := "riotNil", unfollowed := true, recurses := true, named := ["woodgrain/timer.intervals"], apart := false, laid := [("woodgrain/timer.intervals", laid_woodgrain_timer_intervals)], narrowed := true }
def RiotNilUptoSaid : Prop := riotNilUptoRow.holds Tryd.pinned (OpenSpec.upto riotNilSpec)

end Rows
end Go.Proofs.YtgclgegdojnpcaaDoor
