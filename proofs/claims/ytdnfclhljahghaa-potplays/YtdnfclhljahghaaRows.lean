/-
  No cell of these rows narrows 'for every input' (looked for: loops, veiled, ifaces, maps, wideKeys, modest, calm, conditions, laid).
  DERIVED. THE GIVEN ROWS OF THIS SEAT. 9 by the template 'for every input the law returns true; each argument reads behind the call as it read before'; 0 by the template 'total and deterministic' (their statements: YtdnfclhljahghaaTotals.lean).
  GIVEN WITH THE SEED: the statements are not yours to turn. If you find one false, say at which input.
  Laid BY PROGRAM, IN A SANDBOX (cutbox-rows.mjs): the forced cells as the released guide's own fill.sh prints them over the translation 289df3dddfc36012… (all of the seat's roots in one cut). By AI agents, Wed Nov 11 2026. No macro, syntax, notation, axiom, sorry.
-/
import Derived.Test.YtdnfclhljahghaaChecked
import GoSem.Claim
import GoSem.ClaimJoined
import GoSem.ClaimMapViews
import Derived.JoinedTies
import Derived.KernelRfl
namespace Go.Proofs.Ytdnfclhljahghaa
/- THE CELL 'sum', in the pinned program and in every row, IS THE sha256 OF THE DUMP (.gsa) THAT YtdnfclhljahghaaProg.lean LOADS. Nothing in Lean hashes anything: it is a label: what it is worth is what the hold of that sum in a sandbox is worth. -/
noncomputable def Try.pinned : Pinned := { name := "ytdnfclhljahghaa", sum := "289df3dddfc36012909f7c3cc936617ca099dbf665f56bc35d63f4a84dbac153", checked := Try.checked }
namespace Rows
def none {H : Type} : Left H := { results := [], args := [] }

/-- 'woodgrainlaw19.TonePlays': WHATEVER THE INPUT: true; the input reads as it did. -/
def tonePlaysSpec : ChangeSpec := { name := "tonePlays", fn := fun _ => fun
  | [d] => { results := [.lit (.bool true)], args := [d] }
  | _ => none }
def tonePlaysRow : OpenClaim := { program := "ytdnfclhljahghaa", sum := "289df3dddfc36012909f7c3cc936617ca099dbf665f56bc35d63f4a84dbac153", func := "woodgrain/woodgrainlaw19.TonePlays", spec := "tonePlays", unfollowed := true, recurses := true, apart := false }
def TonePlaysSaid : Prop := tonePlaysRow.holds Try.pinned (OpenSpec.ofChange tonePlaysSpec)

/-- ITS FALSE NEIGHBOUR: 'it returns false'. Refute it at one input. -/
def tonePlaysWrong : ChangeSpec := { name := "tonePlays", fn := fun _ => fun
  | [d] => { results := [.lit (.bool false)], args := [d] }
  | _ => none }
def TonePlaysWrongFalsely : Prop := tonePlaysRow.holds Try.pinned (OpenSpec.ofChange tonePlaysWrong)

/-- 'woodgrainlaw19.ToneRounds': WHATEVER THE INPUT: true; the input reads as it did. -/
def toneRoundsSpec : ChangeSpec := { name := "toneRounds", fn := fun _ => fun
  | [d1, d2] => { results := [.lit (.bool true)], args := [d1, d2] }
  | _ => none }
def toneRoundsRow : OpenClaim := { program := "ytdnfclhljahghaa", sum := "289df3dddfc36012909f7c3cc936617ca099dbf665f56bc35d63f4a84dbac153", func := "woodgrain/woodgrainlaw19.ToneRounds", spec := "toneRounds", unfollowed := true, recurses := true, apart := false }
def ToneRoundsSaid : Prop := toneRoundsRow.holds Try.pinned (OpenSpec.ofChange toneRoundsSpec)

/-- ITS FALSE NEIGHBOUR: 'it returns false'. Refute it at one input. -/
def toneRoundsWrong : ChangeSpec := { name := "toneRounds", fn := fun _ => fun
  | [d1, d2] => { results := [.lit (.bool false)], args := [d1, d2] }
  | _ => none }
def ToneRoundsWrongFalsely : Prop := toneRoundsRow.holds Try.pinned (OpenSpec.ofChange toneRoundsWrong)

/-- 'woodgrainlaw19.ToneBounds': WHATEVER THE INPUT: true; the input reads as it did. -/
def toneBoundsSpec : ChangeSpec := { name := "toneBounds", fn := fun _ => fun
  | [d] => { results := [.lit (.bool true)], args := [d] }
  | _ => none }
def toneBoundsRow : OpenClaim := { program := "ytdnfclhljahghaa", sum := "289df3dddfc36012909f7c3cc936617ca099dbf665f56bc35d63f4a84dbac153", func := "woodgrain/woodgrainlaw19.ToneBounds", spec := "toneBounds", unfollowed := true, recurses := true, apart := false }
def ToneBoundsSaid : Prop := toneBoundsRow.holds Try.pinned (OpenSpec.ofChange toneBoundsSpec)

/-- ITS FALSE NEIGHBOUR: 'it returns false'. Refute it at one input. -/
def toneBoundsWrong : ChangeSpec := { name := "toneBounds", fn := fun _ => fun
  | [d] => { results := [.lit (.bool false)], args := [d] }
  | _ => none }
def ToneBoundsWrongFalsely : Prop := toneBoundsRow.holds Try.pinned (OpenSpec.ofChange toneBoundsWrong)

/-- 'woodgrainlaw19.ToneCopies': WHATEVER THE INPUT: true; the input reads as it did. -/
def toneCopiesSpec : ChangeSpec := { name := "toneCopies", fn := fun _ => fun
  | [d1, d2] => { results := [.lit (.bool true)], args := [d1, d2] }
  | _ => none }
def toneCopiesRow : OpenClaim := { program := "ytdnfclhljahghaa", sum := "289df3dddfc36012909f7c3cc936617ca099dbf665f56bc35d63f4a84dbac153", func := "woodgrain/woodgrainlaw19.ToneCopies", spec := "toneCopies", unfollowed := true, recurses := true, apart := false }
def ToneCopiesSaid : Prop := toneCopiesRow.holds Try.pinned (OpenSpec.ofChange toneCopiesSpec)

/-- ITS FALSE NEIGHBOUR: 'it returns false'. Refute it at one input. -/
def toneCopiesWrong : ChangeSpec := { name := "toneCopies", fn := fun _ => fun
  | [d1, d2] => { results := [.lit (.bool false)], args := [d1, d2] }
  | _ => none }
def ToneCopiesWrongFalsely : Prop := toneCopiesRow.holds Try.pinned (OpenSpec.ofChange toneCopiesWrong)

/-- 'woodgrainlaw19.ToneNil': WHATEVER THE INPUT: true; the input reads as it did. -/
def toneNilSpec : ChangeSpec := { name := "toneNil", fn := fun _ => fun
  | [d] => { results := [.lit (.bool true)], args := [d] }
  | _ => none }
def toneNilRow : OpenClaim := { program := "ytdnfclhljahghaa", sum := "289df3dddfc36012909f7c3cc936617ca099dbf665f56bc35d63f4a84dbac153", func := "woodgrain/woodgrainlaw19.ToneNil", spec := "toneNil", unfollowed := true, recurses := true, apart := false }
def ToneNilSaid : Prop := toneNilRow.holds Try.pinned (OpenSpec.ofChange toneNilSpec)

/-- ITS FALSE NEIGHBOUR: 'it returns false'. Refute it at one input. -/
def toneNilWrong : ChangeSpec := { name := "toneNil", fn := fun _ => fun
  | [d] => { results := [.lit (.bool false)], args := [d] }
  | _ => none }
def ToneNilWrongFalsely : Prop := toneNilRow.holds Try.pinned (OpenSpec.ofChange toneNilWrong)

/-- 'woodgrainlaw20.PotPlays': WHATEVER THE INPUT: true; the input reads as it did. -/
def potPlaysSpec : ChangeSpec := { name := "potPlays", fn := fun _ => fun
  | [d] => { results := [.lit (.bool true)], args := [d] }
  | _ => none }
def potPlaysRow : OpenClaim := { program := "ytdnfclhljahghaa", sum := "289df3dddfc36012909f7c3cc936617ca099dbf665f56bc35d63f4a84dbac153", func := "woodgrain/woodgrainlaw20.PotPlays", spec := "potPlays", unfollowed := true, recurses := true, apart := false }
def PotPlaysSaid : Prop := potPlaysRow.holds Try.pinned (OpenSpec.ofChange potPlaysSpec)

/-- ITS FALSE NEIGHBOUR: 'it returns false'. Refute it at one input. -/
def potPlaysWrong : ChangeSpec := { name := "potPlays", fn := fun _ => fun
  | [d] => { results := [.lit (.bool false)], args := [d] }
  | _ => none }
def PotPlaysWrongFalsely : Prop := potPlaysRow.holds Try.pinned (OpenSpec.ofChange potPlaysWrong)

/-- 'woodgrainlaw20.PotCharges': WHATEVER THE INPUT: true; the input reads as it did. -/
def potChargesSpec : ChangeSpec := { name := "potCharges", fn := fun _ => fun
  | [d1, d2, d3] => { results := [.lit (.bool true)], args := [d1, d2, d3] }
  | _ => none }
def potChargesRow : OpenClaim := { program := "ytdnfclhljahghaa", sum := "289df3dddfc36012909f7c3cc936617ca099dbf665f56bc35d63f4a84dbac153", func := "woodgrain/woodgrainlaw20.PotCharges", spec := "potCharges", apart := false }
def PotChargesSaid : Prop := potChargesRow.holds Try.pinned (OpenSpec.ofChange potChargesSpec)

/-- ITS FALSE NEIGHBOUR: 'it returns false'. Refute it at one input. -/
def potChargesWrong : ChangeSpec := { name := "potCharges", fn := fun _ => fun
  | [d1, d2, d3] => { results := [.lit (.bool false)], args := [d1, d2, d3] }
  | _ => none }
def PotChargesWrongFalsely : Prop := potChargesRow.holds Try.pinned (OpenSpec.ofChange potChargesWrong)

/-- 'woodgrainlaw20.PotLatches': WHATEVER THE INPUT: true; the input reads as it did. -/
def potLatchesSpec : ChangeSpec := { name := "potLatches", fn := fun _ => fun
  | [d1, d2] => { results := [.lit (.bool true)], args := [d1, d2] }
  | _ => none }
def potLatchesRow : OpenClaim := { program := "ytdnfclhljahghaa", sum := "289df3dddfc36012909f7c3cc936617ca099dbf665f56bc35d63f4a84dbac153", func := "woodgrain/woodgrainlaw20.PotLatches", spec := "potLatches", apart := false }
def PotLatchesSaid : Prop := potLatchesRow.holds Try.pinned (OpenSpec.ofChange potLatchesSpec)

/-- ITS FALSE NEIGHBOUR: 'it returns false'. Refute it at one input. -/
def potLatchesWrong : ChangeSpec := { name := "potLatches", fn := fun _ => fun
  | [d1, d2] => { results := [.lit (.bool false)], args := [d1, d2] }
  | _ => none }
def PotLatchesWrongFalsely : Prop := potLatchesRow.holds Try.pinned (OpenSpec.ofChange potLatchesWrong)

/-- 'woodgrainlaw20.PotNil': WHATEVER THE INPUT: true; the input reads as it did. -/
def potNilSpec : ChangeSpec := { name := "potNil", fn := fun _ => fun
  | [d1, d2] => { results := [.lit (.bool true)], args := [d1, d2] }
  | _ => none }
def potNilRow : OpenClaim := { program := "ytdnfclhljahghaa", sum := "289df3dddfc36012909f7c3cc936617ca099dbf665f56bc35d63f4a84dbac153", func := "woodgrain/woodgrainlaw20.PotNil", spec := "potNil", unfollowed := true, recurses := true, apart := false }
def PotNilSaid : Prop := potNilRow.holds Try.pinned (OpenSpec.ofChange potNilSpec)

/-- ITS FALSE NEIGHBOUR: 'it returns false'. Refute it at one input. -/
def potNilWrong : ChangeSpec := { name := "potNil", fn := fun _ => fun
  | [d1, d2] => { results := [.lit (.bool false)], args := [d1, d2] }
  | _ => none }
def PotNilWrongFalsely : Prop := potNilRow.holds Try.pinned (OpenSpec.ofChange potNilWrong)

/- THE SECOND FORM. 'bulk': how many values and letters a reading holds, each counted each time it is reached (what is shared counts as often as it is met; a slice's spare places count too). A statement '..UptoSaid' is the law's where the arguments, and the package variables that the reading takes, are together of bulk at most 1048576: NARROWER than '..Said'. Prove '..Said' where nothing that the law and all that it calls make is longer than what came in: it says more and counts as full. Else prove '..UptoSaid'. A law counts once. -/
mutual
def uptoBulk {H : Type} : DataW H → Nat
  | .lit (.string bytes) => bytes.length + 1
  | .lit _ => 1
  | .nil => 1
  | .ptr d => uptoBulk d + 1
  | .slice elems spare => uptoBulkAll elems + uptoBulkAll spare + 1
  | .agg parts => uptoBulkAll parts + 1
  | .iface _ d => uptoBulk d + 1
  | .map entries => uptoBulkEntries entries + 1
  | .held _ => 1
def uptoBulkAll {H : Type} : List (DataW H) → Nat
  | [] => 0
  | d :: r => uptoBulk d + uptoBulkAll r
def uptoBulkEntries {H : Type} : List (Lit × DataW H) → Nat
  | [] => 0
  | x :: r => uptoBulkEntry x + uptoBulkEntries r
def uptoBulkEntry {H : Type} : Lit × DataW H → Nat
  | (.string bytes, d) => bytes.length + uptoBulk d + 1
  | (_, d) => uptoBulk d + 1
 end
def uptoSmall : (H : Type) → List (DataW H) → Bool := fun _ ds => decide (uptoBulkAll ds ≤ 1048576)
def OpenSpec.upto (s : _root_.Go.ChangeSpec) : _root_.Go.OpenSpec := { _root_.Go.OpenSpec.ofChange s with cond := some uptoSmall }

/-- 'woodgrainlaw19.TonePlays', WHERE WHAT IT READS IS OF BULK AT MOST 1048576: true; the input reads as it did. -/
def tonePlaysUptoRow : OpenClaim := { program := "ytdnfclhljahghaa", sum := "289df3dddfc36012909f7c3cc936617ca099dbf665f56bc35d63f4a84dbac153", func := "woodgrain/woodgrainlaw19.TonePlays", spec := "tonePlays", unfollowed := true, recurses := true, apart := false, narrowed := true }
def TonePlaysUptoSaid : Prop := tonePlaysUptoRow.holds Try.pinned (OpenSpec.upto tonePlaysSpec)

/-- 'woodgrainlaw19.ToneRounds', WHERE WHAT IT READS IS OF BULK AT MOST 1048576: true; the input reads as it did. -/
def toneRoundsUptoRow : OpenClaim := { program := "ytdnfclhljahghaa", sum := "289df3dddfc36012909f7c3cc936617ca099dbf665f56bc35d63f4a84dbac153", func := "woodgrain/woodgrainlaw19.ToneRounds", spec := "toneRounds", unfollowed := true, recurses := true, apart := false, narrowed := true }
def ToneRoundsUptoSaid : Prop := toneRoundsUptoRow.holds Try.pinned (OpenSpec.upto toneRoundsSpec)

/-- 'woodgrainlaw19.ToneBounds', WHERE WHAT IT READS IS OF BULK AT MOST 1048576: true; the input reads as it did. -/
def toneBoundsUptoRow : OpenClaim := { program := "ytdnfclhljahghaa", sum := "289df3dddfc36012909f7c3cc936617ca099dbf665f56bc35d63f4a84dbac153", func := "woodgrain/woodgrainlaw19.ToneBounds", spec := "toneBounds", unfollowed := true, recurses := true, apart := false, narrowed := true }
def ToneBoundsUptoSaid : Prop := toneBoundsUptoRow.holds Try.pinned (OpenSpec.upto toneBoundsSpec)

/-- 'woodgrainlaw19.ToneCopies', WHERE WHAT IT READS IS OF BULK AT MOST 1048576: true; the input reads as it did. -/
def toneCopiesUptoRow : OpenClaim := { program := "ytdnfclhljahghaa", sum := "289df3dddfc36012909f7c3cc936617ca099dbf665f56bc35d63f4a84dbac153", func := "woodgrain/woodgrainlaw19.ToneCopies", spec := "toneCopies", unfollowed := true, recurses := true, apart := false, narrowed := true }
def ToneCopiesUptoSaid : Prop := toneCopiesUptoRow.holds Try.pinned (OpenSpec.upto toneCopiesSpec)

/-- 'woodgrainlaw19.ToneNil', WHERE WHAT IT READS IS OF BULK AT MOST 1048576: true; the input reads as it did. -/
def toneNilUptoRow : OpenClaim := { program := "ytdnfclhljahghaa", sum := "289df3dddfc36012909f7c3cc936617ca099dbf665f56bc35d63f4a84dbac153", func := "woodgrain/woodgrainlaw19.ToneNil", spec := "toneNil", unfollowed := true, recurses := true, apart := false, narrowed := true }
def ToneNilUptoSaid : Prop := toneNilUptoRow.holds Try.pinned (OpenSpec.upto toneNilSpec)

/-- 'woodgrainlaw20.PotPlays', WHERE WHAT IT READS IS OF BULK AT MOST 1048576: true; the input reads as it did. -/
def potPlaysUptoRow : OpenClaim := { program := "ytdnfclhljahghaa", sum := "289df3dddfc36012909f7c3cc936617ca099dbf665f56bc35d63f4a84dbac153", func := "woodgrain/woodgrainlaw20.PotPlays", spec := "potPlays", unfollowed := true, recurses := true, apart := false, narrowed := true }
def PotPlaysUptoSaid : Prop := potPlaysUptoRow.holds Try.pinned (OpenSpec.upto potPlaysSpec)

/-- 'woodgrainlaw20.PotCharges', WHERE WHAT IT READS IS OF BULK AT MOST 1048576: true; the input reads as it did. -/
def potChargesUptoRow : OpenClaim := { program := "ytdnfclhljahghaa", sum := "289df3dddfc36012909f7c3cc936617ca099dbf665f56bc35d63f4a84dbac153", func := "woodgrain/woodgrainlaw20.PotCharges", spec := "potCharges", apart := false, narrowed := true }
def PotChargesUptoSaid : Prop := potChargesUptoRow.holds Try.pinned (OpenSpec.upto potChargesSpec)

/-- 'woodgrainlaw20.PotLatches', WHERE WHAT IT READS IS OF BULK AT MOST 1048576: true; the input reads as it did. -/
def potLatchesUptoRow : OpenClaim := { program := "ytdnfclhljahghaa", sum := "289df3dddfc36012909f7c3cc936617ca099dbf665f56bc35d63f4a84dbac153", func := "woodgrain/woodgrainlaw20.PotLatches", spec := "potLatches", apart := false, narrowed := true }
def PotLatchesUptoSaid : Prop := potLatchesUptoRow.holds Try.pinned (OpenSpec.upto potLatchesSpec)

/-- 'woodgrainlaw20.PotNil', WHERE WHAT IT READS IS OF BULK AT MOST 1048576: true; the input reads as it did. -/
def potNilUptoRow : OpenClaim := { program := "ytdnfclhljahghaa", sum := "289df3dddfc36012909f7c3cc936617ca099dbf665f56bc35d63f4a84dbac153", func := "woodgrain/woodgrainlaw20.PotNil", spec := "potNil", unfollowed := true, recurses := true, apart := false, narrowed := true }
def PotNilUptoSaid : Prop := potNilUptoRow.holds Try.pinned (OpenSpec.upto potNilSpec)

end Rows
end Go.Proofs.Ytdnfclhljahghaa
