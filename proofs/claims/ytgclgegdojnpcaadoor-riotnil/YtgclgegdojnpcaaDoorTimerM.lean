/- Plain numbers: a timer, cycle by cycle, and in closed form. -/
import Derived.WalkKit
set_option linter.unusedSimpArgs false
namespace Go.Proofs.YtgclgegdojnpcaaDoor.Tm

/-- A timer's state. -/
structure St where
  v : Nat
  p : Nat
  l : Nat
  fast : Bool
  flag : Bool

def St.ok (s : St) : Prop := s.v ≤ 255 ∧ (s.p = 1 ∨ s.p = 8 ∨ s.p = 64 ∨ s.p = 1024) ∧ 1 ≤ s.l ∧ s.l ≤ s.p

/-- Behind a cycle. -/
def tick (s : St) : St :=
  if s.fast = false ∧ 1 < s.l then ⟨s.v, s.p, s.l - 1, s.fast, s.flag⟩
  else if s.fast = false ∧ s.v = 0 then ⟨255, s.p, s.p, true, true⟩
  else ⟨(s.v + 255) % 256, s.p, s.p, s.fast, s.flag⟩

def ticks : Nat → St → St
  | 0, s => s
  | k + 1, s => tick (ticks k s)

theorem tick_ok {s : St} (h : s.ok) : (tick s).ok := by
  obtain ⟨v, p, l, fa, fl⟩ := s
  obtain ⟨h1, h2, h3, h4⟩ := h
  simp only at h1 h2 h3 h4
  unfold tick St.ok
  simp only
  split
  · rename_i h; simp only at h ⊢; exact ⟨h1, h2, by omega, by omega⟩
  · split
    · exact ⟨by simp only; omega, h2, by simp only; omega, Nat.le_refl _⟩
    · exact ⟨by simp only; omega, h2, by simp only; omega, Nat.le_refl _⟩
theorem ticks_ok {s : St} (h : s.ok) : ∀ k, (ticks k s).ok
  | 0 => h
  | k + 1 => tick_ok (ticks_ok h k)

/-- What is read, and the state behind that. -/
def rd (s : St) : St := if s.fast = true then ⟨s.v, s.p, s.p, false, false⟩ else ⟨s.v, s.p, s.l, false, false⟩
theorem rd_ok {s : St} (h : s.ok) : (rd s).ok := by
  obtain ⟨v, p, l, fa, fl⟩ := s
  obtain ⟨h1, h2, h3, h4⟩ := h
  simp only at h1 h2 h3 h4
  unfold rd St.ok
  simp only
  split <;> exact ⟨h1, h2, by simp only; omega, by simp only; omega⟩

/-- The interval of a number. -/
def ivl (n : Int) : Nat := if n % 4 = 0 then 1 else if n % 4 = 1 then 8 else if n % 4 = 2 then 64 else 1024
theorem ivl_four (n : Int) : ivl n = 1 ∨ ivl n = 8 ∨ ivl n = 64 ∨ ivl n = 1024 := by
  unfold ivl; split
  · exact .inl rfl
  · split
    · exact .inr (.inl rfl)
    · split
      · exact .inr (.inr (.inl rfl))
      · exact .inr (.inr (.inr rfl))
/-- Written. -/
def wr (v : Nat) (n : Int) : St := ⟨v, ivl n, 1, false, false⟩
theorem wr_ok {v : Nat} (h : v ≤ 255) (n : Int) : (wr v n).ok := ⟨h, ivl_four n, Nat.le_refl _, by rcases ivl_four n with e | e | e | e <;> (unfold wr; simp only; omega)⟩

theorem ticks_form {v p : Nat} (hv : v ≤ 255) (hp : p = 1 ∨ p = 8 ∨ p = 64 ∨ p = 1024) : ∀ k, ticks (k + 1) ⟨v, p, 1, false, false⟩ = if k < v * p then ⟨v - 1 - k / p, p, p - k % p, false, false⟩ else ⟨255 - (k - v * p) % 256, p, p, true, true⟩
  | 0 => by
    show tick ⟨v, p, 1, false, false⟩ = _
    unfold tick
    simp only
    rw [if_neg (by omega)]
    by_cases h : v = 0
    · subst h; rw [if_pos (by simp), if_neg (by omega)]; simp
    · have : 0 < v * p := Nat.mul_pos (by omega) (by omega)
      rw [if_neg (by simp [h]), if_pos this]
      simp only [St.mk.injEq, and_true, true_and]
      simp
      omega
  | k + 1 => by
    show tick (ticks (k + 1) ⟨v, p, 1, false, false⟩) = _
    rw [ticks_form hv hp k]
    by_cases h : k < v * p
    · rw [if_pos h]
      unfold tick
      simp only [true_and]
      rcases hp with rfl | rfl | rfl | rfl
      all_goals
        split
        · rw [if_pos (by omega)]
          simp only [St.mk.injEq, and_true, true_and]
          omega
        · split
          · rw [if_neg (by omega)]
            simp only [St.mk.injEq, and_true, true_and]
            omega
          · rw [if_pos (by omega)]
            simp only [St.mk.injEq, and_true, true_and]
            omega
    · rw [if_neg h, if_neg (by omega)]
      unfold tick
      simp only [Bool.true_eq_false, false_and, if_false, St.mk.injEq, and_true, true_and]
      generalize v * p = q at *
      omega

end Go.Proofs.YtgclgegdojnpcaaDoor.Tm
