/- Plain numbers: a port's level, line by line; an edge. -/
import Derived.WalkKit
import Derived.Laws.BitsAllLaws
namespace Go.Proofs.Ytgclgegdojnpcaa.Po

/-- A port: what is driven, what was written, which lines go out. -/
structure Pt where
  i : Nat
  o : Nat
  v : Nat
def Pt.ok (p : Pt) : Prop := p.i ≤ 255 ∧ p.o ≤ 255 ∧ p.v ≤ 255

/-- Its level. -/
def lev (p : Pt) : Nat := (p.o &&& p.v) ||| (p.i &&& (255 - p.v))

theorem lev_lt {p : Pt} (h : p.ok) : lev p < 256 := by
  obtain ⟨h1, h2, h3⟩ := h
  exact Nat.or_lt_two_pow (n := 8) (Nat.and_lt_two_pow _ (show p.v < 2 ^ 8 by omega)) (Nat.and_lt_two_pow _ (show 255 - p.v < 2 ^ 8 by omega))

theorem lev_bit {p : Pt} (h : p.ok) {k : Nat} (hk : k < 8) : (lev p).testBit k = if p.v.testBit k then p.o.testBit k else p.i.testBit k := by
  obtain ⟨h1, h2, h3⟩ := h
  unfold lev
  have e : 255 - p.v = 2 ^ 8 - (p.v + 1) := by omega
  rw [Nat.testBit_or, Nat.testBit_and, Nat.testBit_and, e, Nat.testBit_two_pow_sub_succ (by omega)]
  simp only [hk, decide_true, Bool.true_and]
  cases p.v.testBit k <;> simp

theorem bit_of (n k : Nat) : n.testBit k = decide (n / 2 ^ k % 2 = 1) := by
  rw [Nat.testBit_eq_decide_div_mod_eq]

/-- The level's lower bits, one more. -/
theorem lev_next {p : Pt} (h : p.ok) {k : Nat} (hk : k < 8) : lev p % 2 ^ (k + 1) = lev p % 2 ^ k + (if (if p.v / 2 ^ k % 2 = 1 then p.o else p.i) / 2 ^ k % 2 = 1 then 2 ^ k else 0) := by
  have hb := lev_bit h hk
  rw [bit_of, bit_of, bit_of, bit_of] at hb
  rw [Nat.mod_pow_succ]
  have h2 : lev p / 2 ^ k % 2 = 0 ∨ lev p / 2 ^ k % 2 = 1 := by omega
  by_cases hv : p.v / 2 ^ k % 2 = 1
  · simp only [hv, decide_true, if_true] at hb ⊢
    by_cases ho : p.o / 2 ^ k % 2 = 1
    · simp only [ho, decide_true, decide_eq_true_eq] at hb
      rw [hb, if_pos ho, Nat.mul_one]
    · simp only [ho, decide_false, decide_eq_false_iff_not] at hb
      rw [if_neg ho, show lev p / 2 ^ k % 2 = 0 by omega, Nat.mul_zero]
  · simp only [hv, decide_false, if_false, Bool.false_eq_true] at hb ⊢
    by_cases ho : p.i / 2 ^ k % 2 = 1
    · simp only [ho, decide_true, decide_eq_true_eq] at hb
      rw [hb, if_pos ho, Nat.mul_one]
    · simp only [ho, decide_false, decide_eq_false_iff_not] at hb
      rw [if_neg ho, show lev p / 2 ^ k % 2 = 0 by omega, Nat.mul_zero]

/-- An edge: the last level, is it set to rising, is it caught. -/
structure Eg where
  h : Bool
  r : Bool
  c : Bool
def see (e : Eg) (x : Bool) : Eg := ⟨x, e.r, e.c || ((x != e.h) && (x == e.r))⟩

end Go.Proofs.Ytgclgegdojnpcaa.Po
