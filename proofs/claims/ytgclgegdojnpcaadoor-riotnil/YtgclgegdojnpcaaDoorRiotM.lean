/- Plain numbers: a riot, its cycle, what is read, what is stored. -/
import Derived.Test.YtgclgegdojnpcaaDoorTimerM
import Derived.Test.YtgclgegdojnpcaaDoorPortM
namespace Go.Proofs.YtgclgegdojnpcaaDoor.Ri
open Po

/-- A riot: RAM, ports, timer, edge. -/
structure Rs where
  ram : List Int
  a : Pt
  b : Pt
  t : Tm.St
  e : Eg
structure Rs.ok (r : Rs) : Prop where
  len : r.ram.length = 128
  byte : ∀ x ∈ r.ram, 0 ≤ x ∧ x ≤ 255
  a : r.a.ok
  b : r.b.ok
  t : r.t.ok

/-- Behind a cycle. -/
def tick (r : Rs) : Rs := ⟨r.ram, r.a, r.b, Tm.tick r.t, see r.e (decide (128 ≤ lev r.a))⟩
theorem tick_ok {r : Rs} (h : r.ok) : (tick r).ok := ⟨h.len, h.byte, h.a, h.b, Tm.tick_ok h.t⟩

/-- What the flags tell. -/
def flags (r : Rs) : Nat := (if r.t.flag then 128 else 0) + (if r.e.c then 64 else 0)

/-- The byte that is read at an address. -/
def rdV (r : Rs) (n : Nat) : Int :=
  if n / 512 % 2 = 0 then (r.ram[n % 128]?).getD 0
  else if n / 4 % 2 = 0 then
    if n % 2 = 1 then ((if n / 2 % 2 = 0 then r.a.v else r.b.v : Nat) : Int) else ((if n / 2 % 2 = 0 then lev r.a else lev r.b : Nat) : Int)
  else if n % 2 = 1 then (flags r : Int) else (r.t.v : Int)
/-- The riot behind that. -/
def rdS (r : Rs) (n : Nat) : Rs :=
  if n / 512 % 2 = 0 then r
  else if n / 4 % 2 = 0 then r
  else if n % 2 = 1 then ⟨r.ram, r.a, r.b, r.t, ⟨r.e.h, r.e.r, false⟩⟩ else ⟨r.ram, r.a, r.b, Tm.rd r.t, r.e⟩
/-- The riot behind a store. -/
def st (r : Rs) (n v : Nat) : Rs :=
  if n / 512 % 2 = 0 then ⟨r.ram.set (n % 128) v, r.a, r.b, r.t, r.e⟩
  else if n / 4 % 2 = 0 then
    if n % 2 = 1 then
      if n / 2 % 2 = 0 then ⟨r.ram, ⟨r.a.i, r.a.o, v⟩, r.b, r.t, r.e⟩ else ⟨r.ram, r.a, ⟨r.b.i, r.b.o, v⟩, r.t, r.e⟩
    else
      if n / 2 % 2 = 0 then ⟨r.ram, ⟨r.a.i, v, r.a.v⟩, r.b, r.t, r.e⟩ else ⟨r.ram, r.a, ⟨r.b.i, v, r.b.v⟩, r.t, r.e⟩
  else if n / 16 % 2 = 1 then ⟨r.ram, r.a, r.b, Tm.wr v (n % 4 : Nat), r.e⟩
  else ⟨r.ram, r.a, r.b, r.t, ⟨r.e.h, decide (n % 2 = 1), r.e.c⟩⟩
/-- Driven. -/
def inn (r : Rs) (x y : Nat) : Rs := ⟨r.ram, ⟨x, r.a.o, r.a.v⟩, ⟨y, r.b.o, r.b.v⟩, r.t, r.e⟩

theorem rdS_ok {r : Rs} (h : r.ok) (n : Nat) : (rdS r n).ok := by
  unfold rdS
  split
  · exact h
  · split
    · exact h
    · split
      · exact ⟨h.len, h.byte, h.a, h.b, h.t⟩
      · exact ⟨h.len, h.byte, h.a, h.b, Tm.rd_ok h.t⟩
theorem st_ok {r : Rs} (h : r.ok) (n : Nat) {v : Nat} (hv : v ≤ 255) : (st r n v).ok := by
  unfold st
  split
  · refine ⟨by simp only [List.length_set]; exact h.len, fun x hx => ?_, h.a, h.b, h.t⟩
    rcases List.mem_or_eq_of_mem_set hx with hx | hx
    · exact h.byte x hx
    · omega
  · split
    · split
      · split
        · exact ⟨h.len, h.byte, ⟨h.a.1, h.a.2.1, hv⟩, h.b, h.t⟩
        · exact ⟨h.len, h.byte, h.a, ⟨h.b.1, h.b.2.1, hv⟩, h.t⟩
      · split
        · exact ⟨h.len, h.byte, ⟨h.a.1, hv, h.a.2.2⟩, h.b, h.t⟩
        · exact ⟨h.len, h.byte, h.a, ⟨h.b.1, hv, h.b.2.2⟩, h.t⟩
    · split
      · exact ⟨h.len, h.byte, h.a, h.b, Tm.wr_ok hv _⟩
      · exact ⟨h.len, h.byte, h.a, h.b, h.t⟩
theorem inn_ok {r : Rs} (h : r.ok) {x y : Nat} (hx : x ≤ 255) (hy : y ≤ 255) : (inn r x y).ok := ⟨h.len, h.byte, ⟨hx, h.a.2.1, h.a.2.2⟩, ⟨hy, h.b.2.1, h.b.2.2⟩, h.t⟩

theorem and_pow (n k : Nat) : n &&& 2 ^ k = (n / 2 ^ k % 2) * 2 ^ k := by
  have h2 : n / 2 ^ k % 2 = 0 ∨ n / 2 ^ k % 2 = 1 := by omega
  apply Nat.eq_of_testBit_eq
  intro i
  rw [Nat.testBit_and, Nat.testBit_two_pow]
  by_cases hi : k = i
  · subst hi
    rw [Nat.testBit_eq_decide_div_mod_eq]
    rcases h2 with e | e
    · rw [e]; simp
    · rw [e, Nat.one_mul, Nat.testBit_two_pow]
      simp
  · rcases h2 with e | e
    · rw [e]; simp [hi]
    · rw [e, Nat.one_mul, Nat.testBit_two_pow]; simp [hi]
theorem and_line (l : Nat) (h : l < 256) : (l &&& 128) = if 128 ≤ l then 128 else 0 := by
  have := and_pow l 7
  rw [show (2 : Nat) ^ 7 = 128 from rfl] at this
  rw [this]
  split <;> omega

end Go.Proofs.YtgclgegdojnpcaaDoor.Ri
