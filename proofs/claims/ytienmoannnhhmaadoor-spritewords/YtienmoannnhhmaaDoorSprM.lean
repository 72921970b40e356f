/- Plain numbers: a line of 256 bits in four words, its ages, and the two that count. -/
import Derived.Test.YtienmoannnhhmaaDoorMath
import Derived.Laws.Bits64b
import Derived.Lib.TrailingZeros
namespace Go.Proofs.YtienmoannnhhmaaDoor.Sp

/-- Word i of a line. -/
def wd (X i : Nat) : Nat := X / 2 ^ (64 * i) % 2 ^ 64
theorem wd_lt (X i : Nat) : wd X i < 18446744073709551616 := Nat.mod_lt _ (by decide)
theorem wd_zero (i : Nat) : wd 0 i = 0 := by unfold wd; simp
theorem wd_bit (X i k : Nat) : (wd X i).testBit k = (decide (k < 64) && X.testBit (64 * i + k)) := by
  unfold wd
  rw [Nat.testBit_mod_two_pow, Nat.testBit_div_two_pow, Nat.add_comm]

/-- The ages below n at which a bit is set. -/
def bt (X n : Nat) : List Nat := (List.range n).filter (fun j => X.testBit j)
theorem bt_zero (X : Nat) : bt X 0 = [] := rfl
theorem bt_succ (X n : Nat) : bt X (n + 1) = bt X n ++ if X.testBit n then [n] else [] := by
  unfold bt
  rw [List.range_succ, List.filter_append]
  congr 1
  cases h : X.testBit n <;> simp [h]
theorem bt_yes {X n : Nat} (h : X.testBit n = true) : bt X (n + 1) = bt X n ++ [n] := by rw [bt_succ, if_pos h]
theorem bt_none {X m : Nat} : ∀ {n : Nat}, m ≤ n → (∀ j, m ≤ j → j < n → X.testBit j = false) → bt X n = bt X m
  | 0, h, _ => by rw [show m = 0 by omega]
  | n + 1, h, hz => by
    by_cases hm : m = n + 1
    · rw [hm]
    · rw [bt_succ, hz n (by omega) (by omega), bt_none (by omega) (fun j a b => hz j a (by omega))]; simp
theorem bt_lt {X n j : Nat} (h : j ∈ bt X n) : j < n := by
  unfold bt at h
  simp at h
  exact h.1
theorem bt_prefix {X : Nat} : ∀ {m n : Nat}, m ≤ n → bt X m <+: bt X n
  | m, 0, h => by rw [show m = 0 by omega]; exact List.prefix_refl _
  | m, n + 1, h => by
    by_cases hm : m = n + 1
    · rw [hm]; exact List.prefix_refl _
    · rw [bt_succ]
      exact (bt_prefix (by omega)).trans (List.prefix_append _ _)
theorem bt_length (X : Nat) : ∀ n, (bt X n).length ≤ n
  | 0 => by simp [bt_zero]
  | n + 1 => by
    rw [bt_succ, List.length_append]
    have := bt_length X n
    split <;> simp <;> omega

/-- The two ages that count. -/
def lt2 : List Nat → Nat × Nat
  | [] => (255, 255)
  | a :: r => if 8 ≤ a then (a, 255) else match r with
    | [] => (a, 255)
    | b :: _ => (a, b)

/-- An age that is one more. -/
def old (n : Nat) : Nat := if 254 ≤ n then 255 else n + 1
theorem old_lt {a : Nat} (h : a < 255) : old a = a + 1 := by unfold old; split <;> omega
theorem old_255 : old 255 = 255 := rfl
/-- The line behind a tick. -/
def stp (X : Nat) (s : Bool) : Nat := (2 * X + s.toNat) % 2 ^ 256
theorem stp_lt (X : Nat) (s : Bool) : stp X s < 2 ^ 256 := Nat.mod_lt _ (by decide)
theorem stp_bit0 (X : Nat) (s : Bool) : (stp X s).testBit 0 = s := by
  unfold stp
  rw [Nat.testBit_mod_two_pow, Nat.testBit_zero]
  cases s <;> simp
theorem stp_bit (X : Nat) (s : Bool) (j : Nat) : (stp X s).testBit (j + 1) = (decide (j + 1 < 256) && X.testBit j) := by
  unfold stp
  rw [Nat.testBit_mod_two_pow, Nat.testBit_succ]
  congr 2
  cases s <;> simp <;> omega
theorem bt_stp (X : Nat) (s : Bool) : ∀ n, n < 256 → bt (stp X s) (n + 1) = (if s then [0] else []) ++ (bt X n).map (· + 1)
  | 0, _ => by
    rw [bt_succ, stp_bit0, bt_zero, bt_zero]
    simp
  | n + 1, h => by
    rw [bt_succ, bt_stp X s n (by omega), stp_bit, bt_succ]
    rw [decide_eq_true h, Bool.true_and, List.map_append, List.append_assoc]
    congr 2
    split <;> simp

/-- The ages behind a tick. -/
def tk (y z : Nat) (s : Bool) : Nat × Nat :=
  if s then (0, old y) else if 8 ≤ old y then (old y, 255) else (old y, old z)

/-- The two ages of a line. -/
def ag (X : Nat) : Nat × Nat := lt2 (bt X 256)

theorem ag_stp (X : Nat) (s : Bool) : ag (stp X s) = tk (ag X).1 (ag X).2 s := by
  unfold ag
  rw [bt_stp X s 255 (by omega), bt_succ X 255]
  have hl : ∀ j ∈ bt X 255, j < 255 := fun j hj => bt_lt hj
  generalize bt X 255 = L at hl ⊢
  generalize ht : (if X.testBit 255 then [255] else []) = t
  have ht' : t = [] ∨ t = [255] := by rw [← ht]; split <;> simp
  clear ht
  match L, hl with
  | [], _ =>
    rcases ht' with rfl | rfl <;> cases s <;> decide
  | [a], hl =>
    have ha := hl a (by simp)
    have e1 : lt2 ([a] ++ t) = (a, 255) := by rcases ht' with rfl | rfl <;> simp [lt2]
    rw [e1]
    cases s
    · simp only [tk, Bool.false_eq_true, if_false, List.map_cons, List.map_nil, List.nil_append, lt2, old_lt ha, old_255]
    · simp [tk, lt2, old_lt ha]
  | a :: b :: r, hl =>
    have ha := hl a (by simp)
    have hb := hl b (by simp)
    cases s
    · simp only [lt2, tk, List.map_cons, List.cons_append, List.nil_append, Bool.false_eq_true, if_false]
      by_cases h1 : 8 ≤ a
      · rw [if_pos h1, if_pos (show 8 ≤ a + 1 by omega)]
        simp only [old_lt ha]
        rw [if_pos (show 8 ≤ a + 1 by omega)]
      · rw [if_neg h1]
        simp only [old_lt ha, old_lt hb]
    · simp only [lt2, tk, List.map_cons, List.cons_append, List.nil_append, if_true]
      by_cases h1 : 8 ≤ a
      · rw [if_pos h1, old_lt ha]; rfl
      · rw [if_neg h1, old_lt ha]; rfl

/-- May these be two ages? -/
def mayB (y z : Nat) : Prop := y ≤ 255 ∧ z ≤ 255 ∧ (y < 8 → y < z) ∧ (8 ≤ y → z = 255)
theorem two_bit (y z j : Nat) : (2 ^ y ||| 2 ^ z).testBit j = (decide (y = j) || decide (z = j)) := by
  rw [Nat.testBit_or, Nat.testBit_two_pow, Nat.testBit_two_pow]
theorem ag_two {y z : Nat} (h : mayB y z) : ag (2 ^ y ||| 2 ^ z) = (y, z) := by
  obtain ⟨h1, h2, h3, h4⟩ := h
  unfold ag
  have hy : bt (2 ^ y ||| 2 ^ z) y = [] ∨ z < y := by
    by_cases hz : z < y
    · exact .inr hz
    · left
      rw [bt_none (m := 0) (by omega) (fun j _ hj => by rw [two_bit]; simp; omega), bt_zero]
  have hzy : ¬ z < y := by
    by_cases h8 : y < 8
    · have := h3 h8; omega
    · have := h4 (by omega); omega
  have hy := hy.resolve_right hzy
  have hy1 : bt (2 ^ y ||| 2 ^ z) (y + 1) = [y] := by rw [bt_yes (by rw [two_bit]; simp), hy]; rfl
  by_cases he : y = z
  · have : y = 255 := by
      by_cases h8 : y < 8
      · have := h3 h8; omega
      · have := h4 (by omega); omega
    subst he
    subst this
    rw [hy1]
    decide
  · have hz : bt (2 ^ y ||| 2 ^ z) (z + 1) = [y, z] := by
      rw [bt_yes (by rw [two_bit]; simp), bt_none (m := y + 1) (by omega) (fun j a b => by rw [two_bit]; simp; omega), hy1]
      rfl
    have h256 : bt (2 ^ y ||| 2 ^ z) 256 = [y, z] := by
      rw [bt_none (m := z + 1) (by omega) (fun j a b => by rw [two_bit]; simp; omega), hz]
    rw [h256]
    by_cases h8 : 8 ≤ y
    · simp [lt2, h8, h4 h8]
    · simp [lt2, h8]
theorem two_lt {y z : Nat} (hy : y ≤ 255) (hz : z ≤ 255) : 2 ^ y ||| 2 ^ z < 2 ^ 256 := Nat.or_lt_two_pow (Nat.pow_lt_pow_right (by decide) (by omega)) (Nat.pow_lt_pow_right (by decide) (by omega))

/-- What ages a line has may be. -/
theorem bt_sorted (X : Nat) : ∀ n, (bt X n).Pairwise (· < ·)
  | 0 => List.Pairwise.nil
  | n + 1 => by
    rw [bt_succ]
    split
    · refine List.pairwise_append.2 ⟨bt_sorted X n, List.pairwise_singleton _ _, fun a ha b hb => ?_⟩
      simp at hb; subst hb; exact bt_lt ha
    · simpa using bt_sorted X n
theorem ag_may (X : Nat) : mayB (ag X).1 (ag X).2 := by
  have hp := bt_sorted X 256
  have hl : ∀ j ∈ bt X 256, j < 256 := fun j hj => bt_lt hj
  unfold ag
  match bt X 256, hp, hl with
  | [], _, _ => exact ⟨by decide, by decide, by decide, by decide⟩
  | [a], _, hl =>
    have ha := hl a (by simp)
    by_cases h8 : 8 ≤ a
    · rw [show lt2 [a] = (a, 255) by simp [lt2]]
      exact ⟨(show a ≤ 255 by omega), Nat.le_refl 255, fun h => (show a < 255 from by have : a < 8 := h; omega), fun _ => rfl⟩
    · rw [show lt2 [a] = (a, 255) by simp [lt2]]
      exact ⟨(show a ≤ 255 by omega), Nat.le_refl 255, fun h => (show a < 255 from by have : a < 8 := h; omega), fun _ => rfl⟩
  | a :: b :: r, hp, hl =>
    have ha := hl a (by simp)
    have hb := hl b (by simp)
    have hab := (List.pairwise_cons.1 hp).1 b (by simp)
    by_cases h8 : 8 ≤ a
    · rw [show lt2 (a :: b :: r) = (a, 255) by simp [lt2, h8]]
      exact ⟨(show a ≤ 255 by omega), Nat.le_refl 255, fun h => absurd h (show ¬ a < 8 by omega), fun _ => rfl⟩
    · rw [show lt2 (a :: b :: r) = (a, b) by simp [lt2, h8]]
      exact ⟨(show a ≤ 255 by omega), (show b ≤ 255 by omega), fun _ => hab, fun h => absurd h h8⟩

/-! ### A word's bits, one by one -/

/-- A word whose lower k bits are struck. -/
def hi (a k : Nat) : Nat := a / 2 ^ k * 2 ^ k
theorem hi_zero (a : Nat) : hi a 0 = a := by simp [hi]
theorem hi_le (a k : Nat) : hi a k ≤ a := Nat.div_mul_le_self _ _
theorem hi_bit (a k j : Nat) : (hi a k).testBit j = (decide (k ≤ j) && a.testBit j) := by
  unfold hi
  rw [Nat.testBit_mul_two_pow, Nat.testBit_div_two_pow]
  by_cases h : k ≤ j
  · simp [h, show j - k + k = j by omega]
  · simp [h]
theorem odd_bit (c m j : Nat) : (2 ^ c * (2 * m + 1)).testBit j = (decide (c ≤ j) && (2 * m + 1).testBit (j - c)) := by
  rw [Nat.mul_comm, Nat.testBit_mul_two_pow]
theorem and_pred (c m : Nat) : (2 ^ c * (2 * m + 1)) &&& (2 ^ c * (2 * m + 1) - 1) = 2 ^ c * (2 * m) := by
  have hp : 0 < 2 ^ c := Nat.two_pow_pos c
  have e : 2 ^ c * (2 * m + 1) - 1 = 2 ^ c * (2 * m) + (2 ^ c - 1) := by rw [Nat.mul_add]; omega
  rw [e]
  apply Nat.eq_of_testBit_eq
  intro j
  rw [Nat.testBit_and, odd_bit, Nat.testBit_two_pow_mul_add _ (by omega), show 2 ^ c * (2 * m) = 2 * m * 2 ^ c from Nat.mul_comm _ _, Nat.testBit_mul_two_pow]
  by_cases h : c ≤ j
  · simp only [h, decide_true, Bool.true_and, show ¬ j < c by omega, if_false]
    cases hj : j - c with
    | zero => simp [Nat.testBit_zero]
    | succ i =>
      rw [Nat.testBit_succ, Nat.testBit_succ]
      rw [show (2 * m + 1) / 2 = m by omega, show (2 * m) / 2 = m by omega, Bool.and_self]
  · simp [h]

/-- The lowest bit of what is left of a word. -/
structure Low (a k c : Nat) : Prop where
  ge : k ≤ c
  lt : c < 64
  set : a.testBit c = true
  none : ∀ j, k ≤ j → j < c → a.testBit j = false
  next : hi a k &&& (hi a k - 1) = hi a (c + 1)
  less : hi a (c + 1) < hi a k

theorem low {a k : Nat} (ha : a < 2 ^ 64) (h0 : hi a k ≠ 0) : Low a k (Lib.ctz 64 (hi a k)) := by
  have hlt : hi a k < 2 ^ 64 := Nat.lt_of_le_of_lt (hi_le a k) ha
  obtain ⟨m, hm, hc⟩ := Lib.ctzFrom_spec 64 (hi a k) (by omega) hlt
  have hz : Lib.ctz 64 (hi a k) = Lib.ctzFrom 64 (hi a k) := by unfold Lib.ctz; rw [if_neg h0]
  rw [hz]
  generalize Lib.ctzFrom 64 (hi a k) = c at hm hc
  have hb : ∀ j, (hi a k).testBit j = (decide (c ≤ j) && (2 * m + 1).testBit (j - c)) := fun j => by rw [hm, odd_bit]
  have h1 : (decide (k ≤ c) && a.testBit c) = true := by rw [← hi_bit, hb]; simp [Nat.testBit_zero]
  simp only [Bool.and_eq_true, decide_eq_true_eq] at h1
  have hn : hi a k &&& (hi a k - 1) = hi a (c + 1) := by
    rw [hm, and_pred]
    apply Nat.eq_of_testBit_eq
    intro j
    rw [hi_bit, show 2 ^ c * (2 * m) = 2 * m * 2 ^ c from Nat.mul_comm _ _, Nat.testBit_mul_two_pow]
    by_cases hj : c + 1 ≤ j
    · have e1 : (hi a k).testBit j = a.testBit j := by rw [hi_bit]; simp; intro; omega
      rw [hb] at e1
      rw [← e1]
      obtain ⟨i, rfl⟩ : ∃ i, j = c + (i + 1) := ⟨j - c - 1, by omega⟩
      rw [show c + (i + 1) - c = i + 1 by omega, Nat.testBit_succ, Nat.testBit_succ, show (2 * m + 1) / 2 = m by omega, show (2 * m) / 2 = m by omega]
      rw [decide_eq_true (show c ≤ c + (i + 1) by omega), decide_eq_true hj, Bool.true_and, Bool.true_and]
      try rfl
    · rw [decide_eq_false hj, Bool.false_and]
      by_cases hcj : j = c
      · subst hcj; simp [Nat.testBit_zero]
      · rw [decide_eq_false (show ¬ c ≤ j by omega), Bool.false_and]
  refine ⟨h1.1, hc, h1.2, fun j hj hjc => ?_, hn, ?_⟩
  · have := hb j
    rw [hi_bit] at this
    simpa [hj, show ¬ c ≤ j by omega] using this
  · rw [← hn, hm, and_pred]
    have hp : 0 < 2 ^ c := Nat.two_pow_pos c
    rw [Nat.mul_add]; omega
theorem hi_none {a k : Nat} (h0 : hi a k = 0) (j : Nat) (hj : k ≤ j) : a.testBit j = false := by
  have := hi_bit a k j
  rw [h0] at this
  simpa [hj] using this.symm

end Go.Proofs.YtienmoannnhhmaaDoor.Sp
