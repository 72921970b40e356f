/- What the laws over plays hold from round to round. -/
import Derived.Test.YtcohalkofahphaaDoorPlay
set_option linter.unusedSimpArgs false
set_option linter.unusedVariables false
namespace Go.Proofs.YtcohalkofahphaaDoor.Ca
open Go.RowKit Img

theorem Turn.cell {b c o : Nat} {w w' : World} (h : Turn b w w') (hc : c < w.heap.size) (hb : c ≠ b) : w'.cell? ⟨c, o, none⟩ = w.cell? ⟨c, o, none⟩ := World.cell?_of_block (w := w) (h.block c hc hb)

/-- What the law holds: the play, the cartridge, the shape, the image, nothing old turned. -/
structure Bn (W : World) (X d S lb lc : Nat) (lo : Option Addr) (L : List Int) (p : Pl) (sh : Array Value) (c : Ct) (w : World) : Prop where
  p : PAt w X p
  c : CAt w d c
  s : w.heap[S]? = some (.cells sh 23 (0, 0))
  l : SeenB w lo lc lb 0 L
  old : Below W.heap.size W w
section
variable {W w w' : World} {X d S lb lc : Nat} {lo : Option Addr} {L : List Int} {p : Pl} {sh : Array Value} {c : Ct}
theorem Bn.below (h : Bn W X d S lb lc lo L p sh c w) (hb : Below w.heap.size w w') : Bn W X d S lb lc lo L p sh c w' :=
  ⟨h.p.below hb h.p.lt, h.c.below hb, (hb.block S (Array.getElem?_eq_some_iff.1 h.s).1).trans h.s, h.l.below hb, h.old.trans (hb.mono h.old.size)⟩
theorem Bn.draws (h : Bn W X d S lb lc lo L p sh c w) (q : Nat) : Bn W X d S lb lc lo L p sh c (w.drewN q) := ⟨h.p, h.c, h.s, h.l.draws q, below_drewN h.old q⟩
theorem Bn.turn {c' : Ct} (h : Bn W X d S lb lc lo L p sh c w) (ht : Turn d w w') (hc : CAt w' d c') (hX : X ≠ d) (hS : S ≠ d) (hl : lb ≠ d) (hW : W.heap.size ≤ d) : Bn W X d S lb lc lo L p sh c' w' :=
  ⟨(ht.block X h.p.lt hX).trans h.p, hc, (ht.block S (Array.getElem?_eq_some_iff.1 h.s).1 hS).trans h.s, h.l.kept (fun hx => ht.block lb (h.l.lt hx) hl), h.old.trans (ht.below hW h.old.size)⟩
end

end Go.Proofs.YtcohalkofahphaaDoor.Ca
