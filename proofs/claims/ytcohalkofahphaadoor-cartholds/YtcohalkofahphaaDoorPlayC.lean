/- New, whatever the image; what the laws with a cartridge alone hold. -/
import Derived.Test.YtcohalkofahphaaDoorPlayB
set_option linter.unusedSimpArgs false
set_option linter.unusedVariables false
namespace Go.Proofs.YtcohalkofahphaaDoor.Ca
open Go.RowKit Img

/-- What New answers: a cartridge at power-on, or none, with an error. -/
def NewP (n0 : Nat) (tag : ByteArray) (L : List Int) (r : Ram) (v : Value) (code : Int) (w : World) : Prop :=
  (∃ m N d, find tag = some m ∧ fits m (L.length : Int) = true ∧ Sound m (L.length : Int) N ∧ v = .pointer (some ⟨d, 0, none⟩) ∧ code = 0 ∧ n0 ≤ d ∧ CAt w d (made tag m N L r.l)) ∨ (v = .pointer none ∧ ¬ code = 0)

theorem New_any (tag : ByteArray) (L : List Int) (r : Ram) (ao : Option Addr) (cap b off : Nat) (w : World) (ht : Tab w) (hS : SeenB w ao cap b off L) :
    Calls Tryd.prog 18 #[.string tag, .slice ao L.length cap, .agg (bytes r.l).toArray] w fun e w' => ∃ v code, e = .returned (.tuple #[v, .int .i64 code]) ∧ NewP w.heap.size tag L r v code w' ∧ Below w.heap.size w w' := by
  rcases fit_cases tag (L.length : Int) with ⟨m, N, hf, hft, hs, he⟩ | ⟨hf, c, hc, he⟩
  · have hL0 : L ≠ [] := fun e => by
      have := fits_pos hft (step_pos hf).1
      rw [e] at this
      simp at this
    exact (New_yes tag m N L r ao cap b off w ht hf hft hs hS hL0).mono fun e w' ⟨d, he, hd, hC, hB⟩ => ⟨_, _, he, .inl ⟨m, N, d, hf, hft, hs, rfl, rfl, hd, hC⟩, hB⟩
  · exact (New_no tag L.length ao cap r.l w ht c (by omega) he).mono fun e w' ⟨he, hB⟩ => ⟨_, _, he, .inr ⟨rfl, by omega⟩, hB⟩

/-- What the law holds: the play, the cartridge, nothing old turned. -/
structure Bm (W : World) (X d : Nat) (p : Pl) (c : Ct) (w : World) : Prop where
  p : PAt w X p
  c : CAt w d c
  old : Below W.heap.size W w
section
variable {W w w' : World} {X d : Nat} {p : Pl} {c : Ct}
theorem Bm.below (h : Bm W X d p c w) (hb : Below w.heap.size w w') : Bm W X d p c w' := ⟨h.p.below hb h.p.lt, h.c.below hb, h.old.trans (hb.mono h.old.size)⟩
theorem Bm.draws (h : Bm W X d p c w) (q : Nat) : Bm W X d p c (w.drewN q) := ⟨h.p, h.c, below_drewN h.old q⟩
theorem Bm.turn {c' : Ct} (h : Bm W X d p c w) (ht : Turn d w w') (hc : CAt w' d c') (hX : X ≠ d) (hW : W.heap.size ≤ d) : Bm W X d p c' w' :=
  ⟨(ht.block X h.p.lt hX).trans h.p, hc, h.old.trans (ht.below hW h.old.size)⟩
theorem Bm.other {e : Nat} (h : Bm W X d p c w) (ht : Turn e w w') (hX : X ≠ e) (hd : d ≠ e) (hW : W.heap.size ≤ e) : Bm W X d p c w' :=
  ⟨(ht.block X h.p.lt hX).trans h.p, h.c.turn ht hd, h.old.trans (ht.below hW h.old.size)⟩
end

end Go.Proofs.YtcohalkofahphaaDoor.Ca
