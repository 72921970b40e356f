/- A motion's step, whole. -/
import Derived.Test.YtkondnlilkpdoaaMot6
set_option linter.unusedVariables false
namespace Go.Proofs.Ytkondnlilkpdoaa.Mo
open Go.RowKit

/-- A motion behind a clock: its count, the clocks gone by, what still moves; what is told to move. -/
def sC (c g : Nat) (k : Int) : Nat := if c = 16 then 16 else if g < 3 then c else if k.tmod 4 ≠ 0 then c else c + 1
def sG (c g : Nat) (k : Int) : Nat := if c = 16 then g else if g < 3 then g + 1 else if k.tmod 4 ≠ 0 then g else if c = 15 then 0 else g
def sV (c g v : Nat) (k : Int) (N : Nat → Nat) : Nat := if c = 16 then v else if g < 3 then v else if k.tmod 4 ≠ 0 then v else if c = 15 then 0 else vm c v N 5
def sT (c g v : Nat) (k : Int) (N : Nat → Nat) (j : Nat) : Bool := if c = 16 then false else if g < 3 then false else if k.tmod 4 ≠ 0 then false else tl c v N j

theorem Step (b c g v n0 n1 n2 n3 n4 : Nat) (N : Nat → Nat) (clock : Int) (w : World) (hN : five n0 n1 n2 n3 n4 = N) (h0 : n0 < 256) (h1 : n1 < 256) (h2 : n2 < 256) (h3 : n3 < 256) (h4 : n4 < 256) (h : MAt w b c g v) : Calls Try.prog 16 #[.pointer (some ⟨b, 0, none⟩), .int .i64 clock, .agg #[.int .u8 (n0 : Int), .int .u8 (n1 : Int), .int .u8 (n2 : Int), .int .u8 (n3 : Int), .int .u8 (n4 : Int)]] w fun e w' => e = .returned (.agg #[.bool (sT c g v clock N 0), .bool (sT c g v clock N 1), .bool (sT c g v clock N 2), .bool (sT c g v clock N 3), .bool (sT c g v clock N 4)]) ∧ MAt w' b (sC c g clock) (sG c g clock) (sV c g v clock N) ∧ Turn b w w' := by
  have hle := h.ok.1
  unfold sT sC sG sV
  by_cases hc : c = 16
  · subst hc
    simp only [if_true]
    exact (Step_idle b g v n0 n1 n2 n3 n4 clock w h).mono fun e w' ⟨he, hB⟩ => ⟨he, h.below hB, Turn.of_below hB⟩
  simp only [if_neg hc]
  have hc' : c < 16 := by omega
  by_cases hg : g < 3
  · simp only [if_pos hg]
    exact Step_wait b c g v n0 n1 n2 n3 n4 N clock w hN hc' hg h0 h1 h2 h3 h4 h
  simp only [if_neg hg]
  by_cases hk : clock.tmod 4 = 0
  · simp only [hk, ne_eq, not_true, if_false]
    by_cases h15 : c = 15
    · simp only [if_pos h15]
      subst h15
      exact Step_last b 15 g v n0 n1 n2 n3 n4 N clock w hN hc' rfl hg hk h0 h1 h2 h3 h4 h
    · simp only [if_neg h15]
      exact Step_more b c g v n0 n1 n2 n3 n4 N clock w hN hc' (by omega) hg hk h0 h1 h2 h3 h4 h
  · simp only [ne_eq, hk, not_false_eq_true, if_true]
    exact Step_not b c g v n0 n1 n2 n3 n4 N clock w hN hc' hg hk h0 h1 h2 h3 h4 h

theorem Turn.same {b : Nat} {w : World} : Turn b w w := Turn.refl b w

end Go.Proofs.Ytkondnlilkpdoaa.Mo
