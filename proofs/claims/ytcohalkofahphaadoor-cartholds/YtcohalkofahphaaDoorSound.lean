/- What is so of a mapper that has the length. -/
import Derived.Test.YtcohalkofahphaaDoorAwake4
namespace Go.Proofs.YtcohalkofahphaaDoor.Img
open Go.RowKit

/-- What is so of a mapper that has the length. -/
structure Sound (m : Mp) (n : Int) (N : Nat) : Prop where
  win : 4096 / m.size = (N : Int)
  le4 : N ≤ 4
  size : m.size * (N : Int) = 4096
  whole : n / m.size * m.size = n
  b1 : 1 ≤ n / m.size
  b2 : n / m.size ≤ 524288
  rng : ∀ (i : Nat) (x : Int), (firsts m n N)[i]? = some x → 0 ≤ x ∧ x < n / m.size
  len : (firsts m n N).length = N

theorem sound {tag : ByteArray} {m : Mp} {n : Int} (hf : find tag = some m) (h : fits m n = true) : ∃ N, Sound m n N := by
  have hm := List.mem_of_find?_eq_some hf
  unfold fits at h
  simp only [Bool.and_eq_true, decide_eq_true_eq, beq_iff_eq] at h
  obtain ⟨⟨h1, h2⟩, h3⟩ := h
  simp only [mps, List.mem_cons, List.not_mem_nil, or_false] at hm
  have two : ∀ (a b : Int) (i : Nat) (x : Int), [a, b][i]? = some x → x = a ∨ x = b := by
    intro a b i x hx
    have := List.mem_of_getElem? hx
    simpa using this
  have one : ∀ (a : Int) (i : Nat) (x : Int), [a][i]? = some x → x = a := by
    intro a i x hx
    have := List.mem_of_getElem? hx
    simpa using this
  have four : ∀ (a b c d : Int) (i : Nat) (x : Int), [a, b, c, d][i]? = some x → x = a ∨ x = b ∨ x = c ∨ x = d := by
    intro a b c d i x hx
    have := List.mem_of_getElem? hx
    simpa using this
  rcases hm with rfl | rfl | rfl | rfl | rfl | rfl | rfl | rfl | rfl | rfl | rfl
  all_goals simp only at h1 h2 h3
  · refine ⟨2, rfl, by decide, rfl, by simp only; omega, by simp only; omega, by simp only; omega, fun i x hx => ?_, rfl⟩
    have := two _ _ i x hx; simp only [bank] at this; simp only; split at this <;> simp_all <;> omega
  · refine ⟨2, rfl, by decide, rfl, by simp only; omega, by simp only; omega, by simp only; omega, fun i x hx => ?_, rfl⟩
    have := two _ _ i x hx; simp only [bank] at this; simp only; simp_all; omega
  · refine ⟨1, rfl, by decide, rfl, by simp only; omega, by simp only; omega, by simp only; omega, fun i x hx => ?_, rfl⟩
    have := one _ i x hx; simp only [bank] at this; simp only; simp_all; omega
  · refine ⟨4, rfl, by decide, rfl, by simp only; omega, by simp only; omega, by simp only; omega, fun i x hx => ?_, rfl⟩
    have := four _ _ _ _ i x hx; simp only [bank] at this; simp only; simp_all; omega
  all_goals
    refine ⟨1, rfl, by decide, rfl, by simp only; omega, by simp only; omega, by simp only; omega, fun i x hx => ?_, rfl⟩
    have := one _ i x hx; simp only [bank] at this; simp only; simp_all; omega

end Go.Proofs.YtcohalkofahphaaDoor.Img
