/- What the document finds: plain mathematics. -/
import Derived.Test.YtcbfhjgdnffjlaaDoorAwakeX
namespace Go.Proofs.YtcbfhjgdnffjlaaDoor.Co
open Go.RowKit

/-- What the document has found among these codes, the last ones first. -/
def outF (l : List UInt8) (m : Nat) (L : List (Fin 256)) : Int := match L.find? (known l m) with
  | some x => ((x.val : Nat) : Int)
  | none => match L.find? (hit l m) with
    | some x => ((x.val : Nat) : Int)
    | none => -1
theorem outF_le (l : List UInt8) (m : Nat) (L : List (Fin 256)) : -1 ≤ outF l m L ∧ outF l m L ≤ 255 := by
  unfold outF
  split
  · rename_i x _; have := x.isLt; omega
  · split
    · rename_i x _; have := x.isLt; omega
    · omega
/-- Is what was found documented? -/
def outK (l : List UInt8) (m : Nat) (L : List (Fin 256)) : Bool := (L.find? (known l m)).isSome

theorem out_skip {l : List UInt8} {m : Nat} {x : Fin 256} {L : List (Fin 256)} (hx : hit l m x = false) : outF l m (x :: L) = outF l m L := by
  unfold outF
  have hk : known l m x = false := by unfold known; rw [hx]; rfl
  rw [List.find?_cons_of_neg (by simp [hk]), List.find?_cons_of_neg (by simp [hx])]
theorem out_known {l : List UInt8} {m : Nat} {x : Fin 256} {L : List (Fin 256)} (hk : known l m x = true) : outF l m (x :: L) = ((x.val : Nat) : Int) := by
  unfold outF
  rw [List.find?_cons_of_pos (by simp [hk])]
theorem out_keep {l : List UInt8} {m : Nat} {x : Fin 256} {L : List (Fin 256)} (hk : known l m x = false) (ho : outK l m L = true) : outF l m (x :: L) = outF l m L := by
  unfold outK at ho
  obtain ⟨y, hy⟩ := Option.isSome_iff_exists.1 ho
  unfold outF
  rw [List.find?_cons_of_neg (by simp [hk]), hy]
theorem out_take {l : List UInt8} {m : Nat} {x : Fin 256} {L : List (Fin 256)} (hx : hit l m x = true) (hk : known l m x = false) (ho : outK l m L = false) : outF l m (x :: L) = ((x.val : Nat) : Int) := by
  unfold outK at ho
  have hn : L.find? (known l m) = none := by simpa using ho
  unfold outF
  rw [List.find?_cons_of_neg (by simp [hk]), hn, List.find?_cons_of_pos (by simp [hx])]
/-- What was found is a code, and is documented just so. -/
theorem out_is {l : List UInt8} {m : Nat} {L : List (Fin 256)} (h : 0 ≤ outF l m L) : ∃ y : Nat, outF l m L = (y : Int) ∧ y < 256 ∧ knownB y = outK l m L := by
  unfold outF at h ⊢
  unfold outK
  cases h1 : L.find? (known l m) with
  | some y =>
    refine ⟨y.val, rfl, y.isLt, ?_⟩
    have hy := List.find?_some h1
    unfold known at hy
    obtain ⟨a, b⟩ := Bool.and_eq_true_iff.1 hy
    unfold hit at a
    simp only [Bool.and_eq_true, decide_eq_true_eq] at a
    unfold knownB
    rw [a.1, b]
    rfl
  | none =>
    rw [h1] at h
    cases h2 : L.find? (hit l m) with
    | none => rw [h2] at h; exact absurd h (by decide)
    | some y =>
      refine ⟨y.val, rfl, y.isLt, ?_⟩
      have hy := List.find?_some h2
      have hm := List.mem_of_find?_eq_some h2
      have hk : ¬ known l m y = true := List.find?_eq_none.1 h1 y hm
      unfold known at hk
      rw [hy] at hk
      unfold hit at hy
      simp only [Bool.and_eq_true, decide_eq_true_eq] at hy
      unfold knownB
      rw [hy.1]
      simpa using hk
theorem out_none {l : List UInt8} {m : Nat} {L : List (Fin 256)} (h : outF l m L < 0) : outK l m L = false := by
  unfold outF at h
  unfold outK
  cases h1 : L.find? (known l m) with
  | some y => rw [h1] at h; exact absurd h (by simp)
  | none => rfl

theorem codes_drop (k : Nat) (h : k < 256) : codes.drop k = ⟨k, h⟩ :: codes.drop (k + 1) := by
  rw [List.drop_eq_getElem_cons (by rw [codes_length]; exact h)]
  congr 1
  unfold codes
  rw [List.getElem_finRange]
  rfl

/-- The document's answer against the program's. -/
theorem out_find (l : List UInt8) (m : Nat) : (findB l m = decide (0 ≤ outF l m codes)) ∧ (findB l m = true → ((findO l m : Nat) : Int) = outF l m codes) ∧ (findB l m = false → findO l m = 0) := by
  unfold findB findO outF firstB firstO
  cases h1 : codes.find? (known l m) with
  | some y => simp
  | none =>
    cases h2 : codes.find? (hit l m) with
    | some y => simp
    | none => simp

theorem fieldKnown (a b c d : Value) (w : World) : (Instr.field 28 (.agg #[a, b, c, d]) 3).run Tryd.prog w = .ok d w := by kernel_rfl
theorem known_hit {l : List UInt8} {m : Nat} {x : Fin 256} (h : hit l m x = true) : known l m x = knownB x.val := by
  have h' := h
  unfold hit at h'
  simp only [Bool.and_eq_true, decide_eq_true_eq] at h'
  unfold known knownB
  rw [h, h'.1]
  rfl

end Go.Proofs.YtcbfhjgdnffjlaaDoor.Co
