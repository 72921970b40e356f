/- Registers, and what each name does to them: plain mathematics. -/
import Derived.Test.YtelmohajdmcnmaaDoorRef9
namespace Go.Proofs.YtelmohajdmcnmaaDoor.Ex
open Go.RowKit Alu

/-- The registers. -/
structure Rg where
  a : Nat
  x : Nat
  y : Nat
  s : Nat
  p : Nat
  pc : Nat

structure Rg.ok (r : Rg) : Prop where
  a : r.a < 256
  x : r.x < 256
  y : r.y < 256
  s : r.s < 256
  p : r.p < 256
  pc : r.pc < 65536

theorem or_and (n : Nat) : ∀ a m : Nat, a < 2 ^ n → m < 2 ^ n → (a ||| m) + (a &&& m) = a + m := by
  induction n with
  | zero => intro a m ha hm; have : a = 0 := by omega
            have : m = 0 := by omega
            subst_vars; rfl
  | succ n ih =>
    intro a m ha hm
    have h := ih (a / 2) (m / 2) (by omega) (by omega)
    have e1 : (a ||| m) / 2 = a / 2 ||| m / 2 := Nat.or_div_two
    have e2 : (a &&& m) / 2 = a / 2 &&& m / 2 := Nat.and_div_two
    have o1 : (a ||| m) % 2 = 1 ↔ a % 2 = 1 ∨ m % 2 = 1 := Nat.or_mod_two_eq_one
    have o2 : (a &&& m) % 2 = 1 ↔ a % 2 = 1 ∧ m % 2 = 1 := Nat.and_mod_two_eq_one
    rw [← e1, ← e2] at h
    omega
theorem xor_and (n : Nat) : ∀ a m : Nat, a < 2 ^ n → m < 2 ^ n → (a ^^^ m) + 2 * (a &&& m) = a + m := by
  induction n with
  | zero => intro a m ha hm; have : a = 0 := by omega
            have : m = 0 := by omega
            subst_vars; rfl
  | succ n ih =>
    intro a m ha hm
    have h := ih (a / 2) (m / 2) (by omega) (by omega)
    have e1 : (a ^^^ m) / 2 = a / 2 ^^^ m / 2 := Nat.xor_div_two
    have e2 : (a &&& m) / 2 = a / 2 &&& m / 2 := Nat.and_div_two
    have o1 : (a ^^^ m) % 2 = 1 ↔ ¬ ((a % 2 = 1) ↔ (m % 2 = 1)) := Nat.xor_mod_two_eq_one
    have o2 : (a &&& m) % 2 = 1 ↔ a % 2 = 1 ∧ m % 2 = 1 := Nat.and_mod_two_eq_one
    rw [← e1, ← e2] at h
    omega

theorem or8 {a m : Nat} (ha : a < 256) (hm : m < 256) : a ||| m < 256 := Nat.or_lt_two_pow (n := 8) ha hm
theorem xor8 {a m : Nat} (ha : a < 256) (hm : m < 256) : a ^^^ m < 256 := Nat.xor_lt_two_pow (n := 8) ha hm
theorem and8 {a m : Nat} (hm : m < 256) : a &&& m < 256 := Nat.and_lt_two_pow (n := 8) a hm

/-! ### The calls of package alu, over natural numbers -/

def addN (a m p : Nat) : Nat := (addV a m p).toNat
def subN (a m p : Nat) : Nat := (subV a m p).toNat
def leftN (m p : Nat) (t : Bool) : Nat := (leftV m p t).toNat
def rightN (m p : Nat) (t : Bool) : Nat := (rightV m p t).toNat
def oddN (a m p : Nat) : Nat := (oddV a m p).toNat
/-- The flags of a test. -/
def bitN (a m p : Nat) : Nat := W (W (W p 2 (((a &&& m : Nat) : Int) == 0)) 128 (H7 m)) 64 (H6 m)

theorem addV_le (a m p : Nat) : 0 ≤ addV a m p ∧ addV a m p ≤ 255 := by unfold addV; split <;> omega
theorem subV_le (a m p : Nat) : 0 ≤ subV a m p ∧ subV a m p ≤ 255 := by unfold subV; split <;> omega
theorem oddV_le (a m p : Nat) (hm : m < 256) : 0 ≤ oddV a m p ∧ oddV a m p ≤ 255 := by
  have h := Alu.rightV_le ((a &&& m : Nat) : Int) p true (by omega) (by have := and8 (a := a) hm; omega)
  unfold oddV oddW; split
  · omega
  · exact h
theorem addN_eq (a m p : Nat) : addV a m p = ((addN a m p : Nat) : Int) := (Int.toNat_of_nonneg (addV_le a m p).1).symm
theorem subN_eq (a m p : Nat) : subV a m p = ((subN a m p : Nat) : Int) := (Int.toNat_of_nonneg (subV_le a m p).1).symm
theorem leftN_eq (m p : Nat) (t : Bool) : leftV m p t = ((leftN m p t : Nat) : Int) := (Int.toNat_of_nonneg (Alu.leftV_le m p t).1).symm
theorem rightN_eq {m : Nat} (p : Nat) (t : Bool) (hm : m < 256) : rightV m p t = ((rightN m p t : Nat) : Int) := (Int.toNat_of_nonneg (Alu.rightV_le m p t (by omega) (by omega)).1).symm
theorem oddN_eq (a : Nat) {m : Nat} (p : Nat) (hm : m < 256) : oddV a m p = ((oddN a m p : Nat) : Int) := (Int.toNat_of_nonneg (oddV_le a m p hm).1).symm
theorem addN_lt (a m p : Nat) : addN a m p < 256 := by have := addV_le a m p; unfold addN; omega
theorem subN_lt (a m p : Nat) : subN a m p < 256 := by have := subV_le a m p; unfold subN; omega
theorem leftN_lt (m p : Nat) (t : Bool) : leftN m p t < 256 := by have := Alu.leftV_le m p t; unfold leftN; omega
theorem rightN_lt {m : Nat} (p : Nat) (t : Bool) (hm : m < 256) : rightN m p t < 256 := by have := Alu.rightV_le m p t (by omega) (by omega); unfold rightN; omega
theorem oddN_lt (a : Nat) {m : Nat} (p : Nat) (hm : m < 256) : oddN a m p < 256 := by have := oddV_le a m p hm; unfold oddN; omega
theorem bitN_lt (a m : Nat) {p : Nat} (hp : p < 256) : bitN a m p < 256 := W_lt _ _ _ (W_lt _ _ _ (W_lt _ _ _ hp (by decide)) (by decide)) (by decide)
theorem cmpQ_lt (a m : Int) {p : Nat} (hp : p < 256) : cmpQ a m p < 256 := W_lt _ _ _ (mk_lt _ _ hp) (by decide)
theorem leftQ_lt (m : Int) {p : Nat} (t : Bool) (hp : p < 256) : leftQ m p t < 256 := W_lt _ _ _ (mk_lt _ _ hp) (by decide)
theorem rightQ_lt (m : Int) {p : Nat} (t : Bool) (hp : p < 256) : rightQ m p t < 256 := W_lt _ _ _ (mk_lt _ _ hp) (by decide)
theorem oddQ_lt (a m : Nat) {p : Nat} (hp : p < 256) : oddQ a m p < 256 := by
  unfold oddQ; split
  · exact W_lt _ _ _ (oddP_lt _ _ _ hp) (by decide)
  · exact W_lt _ _ _ (W_lt _ _ _ (mk_lt _ _ hp) (by decide)) (by decide)

/-! ### What each name does -/

def rd (n : List UInt8) (r : Rg) (m : Nat) : Rg :=
  if n = [79, 82, 65] then { r with a := r.a ||| m, p := mk r.p ((r.a ||| m : Nat) : Int) }
  else if n = [65, 78, 68] then { r with a := r.a &&& m, p := mk r.p ((r.a &&& m : Nat) : Int) }
  else if n = [69, 79, 82] then { r with a := r.a ^^^ m, p := mk r.p ((r.a ^^^ m : Nat) : Int) }
  else if n = [65, 68, 67] then { r with a := addN r.a m r.p, p := addQ r.a m r.p }
  else if n = [83, 66, 67] then { r with a := subN r.a m r.p, p := binQ r.p r.a (255 - (m : Int)) }
  else if n = [67, 77, 80] then { r with p := cmpQ r.a m r.p }
  else if n = [67, 80, 88] then { r with p := cmpQ r.x m r.p }
  else if n = [67, 80, 89] then { r with p := cmpQ r.y m r.p }
  else if n = [66, 73, 84] then { r with p := bitN r.a m r.p }
  else if n = [76, 68, 88] then { r with x := m, p := mk r.p (m : Int) }
  else if n = [76, 68, 89] then { r with y := m, p := mk r.p (m : Int) }
  else if n = [76, 65, 83] then { r with a := m &&& r.s, x := m &&& r.s, s := m &&& r.s, p := mk r.p ((m &&& r.s : Nat) : Int) }
  else if n = [76, 65, 88] then { r with a := m, x := m, p := mk r.p (m : Int) }
  else if n = [76, 68, 65] then { r with a := m, p := mk r.p (m : Int) }
  else if n = [65, 78, 67] then { r with a := r.a &&& m, p := W (mk r.p ((r.a &&& m : Nat) : Int)) 1 (decide (128 ≤ ((r.a &&& m : Nat) : Int))) }
  else if n = [65, 76, 82] then { r with a := rightN (r.a &&& m) r.p false, p := rightQ ((r.a &&& m : Nat) : Int) r.p false }
  else if n = [65, 82, 82] then { r with a := oddN r.a m r.p, p := oddQ r.a m r.p }
  else if n = [65, 78, 69] then { r with a := (r.a ||| 238) &&& r.x &&& m, p := mk r.p (((r.a ||| 238) &&& r.x &&& m : Nat) : Int) }
  else if n = [76, 88, 65] then { r with a := (r.a ||| 238) &&& m, x := (r.a ||| 238) &&& m, p := mk r.p (((r.a ||| 238) &&& m : Nat) : Int) }
  else if n = [83, 66, 88] then { r with x := ((r.a &&& r.x) + 256 - m) % 256, p := cmpQ ((r.a &&& r.x : Nat) : Int) m r.p }
  else r
def sf (n : List UInt8) (r : Rg) : Rg :=
  if n = [67, 76, 67] then { r with p := W r.p 1 false }
  else if n = [67, 76, 68] then { r with p := W r.p 8 false }
  else if n = [67, 76, 73] then { r with p := W r.p 4 false }
  else if n = [67, 76, 86] then { r with p := W r.p 64 false }
  else if n = [83, 69, 67] then { r with p := W r.p 1 true }
  else if n = [83, 69, 68] then { r with p := W r.p 8 true }
  else if n = [83, 69, 73] then { r with p := W r.p 4 true }
  else if n = [84, 65, 88] then { r with x := r.a, p := mk r.p (r.a : Int) }
  else if n = [84, 65, 89] then { r with y := r.a, p := mk r.p (r.a : Int) }
  else if n = [84, 88, 65] then { r with a := r.x, p := mk r.p (r.x : Int) }
  else if n = [84, 89, 65] then { r with a := r.y, p := mk r.p (r.y : Int) }
  else if n = [84, 83, 88] then { r with x := r.s, p := mk r.p (r.s : Int) }
  else if n = [84, 88, 83] then { r with s := r.x }
  else if n = [73, 78, 88] then { r with x := (r.x + 1) % 256, p := mk r.p (((r.x + 1) % 256 : Nat) : Int) }
  else if n = [73, 78, 89] then { r with y := (r.y + 1) % 256, p := mk r.p (((r.y + 1) % 256 : Nat) : Int) }
  else if n = [68, 69, 88] then { r with x := (r.x + 255) % 256, p := mk r.p (((r.x + 255) % 256 : Nat) : Int) }
  else if n = [68, 69, 89] then { r with y := (r.y + 255) % 256, p := mk r.p (((r.y + 255) % 256 : Nat) : Int) }
  else r
def stV (n : List UInt8) (r : Rg) (h : Nat) : Nat :=
  if n = [83, 84, 65] then r.a
  else if n = [83, 84, 88] then r.x
  else if n = [83, 84, 89] then r.y
  else if n = [83, 65, 88] then r.a &&& r.x
  else if n = [84, 65, 83] then r.a &&& r.x &&& h
  else if n = [83, 72, 65] then r.a &&& r.x &&& h
  else if n = [83, 72, 88] then r.x &&& h
  else if n = [83, 72, 89] then r.y &&& h
  else 0
def stR (n : List UInt8) (r : Rg) : Rg := if n = [84, 65, 83] then { r with s := r.a &&& r.x } else r
/-- The turns that are one thing. -/
def tbV (n : List UInt8) (r : Rg) (m : Nat) : Nat :=
  if n = [65, 83, 76] then leftN m r.p false
  else if n = [82, 79, 76] then leftN m r.p true
  else if n = [76, 83, 82] then rightN m r.p false
  else if n = [82, 79, 82] then rightN m r.p true
  else if n = [73, 78, 67] then (m + 1) % 256
  else if n = [68, 69, 67] then (m + 255) % 256
  else m
def tbR (n : List UInt8) (r : Rg) (m : Nat) : Rg :=
  if n = [65, 83, 76] then { r with p := leftQ m r.p false }
  else if n = [82, 79, 76] then { r with p := leftQ m r.p true }
  else if n = [76, 83, 82] then { r with p := rightQ m r.p false }
  else if n = [82, 79, 82] then { r with p := rightQ m r.p true }
  else if n = [73, 78, 67] then { r with p := mk r.p (((m + 1) % 256 : Nat) : Int) }
  else if n = [68, 69, 67] then { r with p := mk r.p (((m + 255) % 256 : Nat) : Int) }
  else r
def tuV (n : List UInt8) (r : Rg) (m : Nat) : Nat :=
  if n = [83, 76, 79] then tbV [65, 83, 76] r m
  else if n = [82, 76, 65] then tbV [82, 79, 76] r m
  else if n = [83, 82, 69] then tbV [76, 83, 82] r m
  else if n = [82, 82, 65] then tbV [82, 79, 82] r m
  else if n = [68, 67, 80] then tbV [68, 69, 67] r m
  else if n = [73, 83, 67] then tbV [73, 78, 67] r m
  else tbV n r m
def tuR (n : List UInt8) (r : Rg) (m : Nat) : Rg :=
  if n = [83, 76, 79] then rd [79, 82, 65] (tbR [65, 83, 76] r m) (tbV [65, 83, 76] r m)
  else if n = [82, 76, 65] then rd [65, 78, 68] (tbR [82, 79, 76] r m) (tbV [82, 79, 76] r m)
  else if n = [83, 82, 69] then rd [69, 79, 82] (tbR [76, 83, 82] r m) (tbV [76, 83, 82] r m)
  else if n = [82, 82, 65] then rd [65, 68, 67] (tbR [82, 79, 82] r m) (tbV [82, 79, 82] r m)
  else if n = [68, 67, 80] then rd [67, 77, 80] (tbR [68, 69, 67] r m) (tbV [68, 69, 67] r m)
  else if n = [73, 83, 67] then rd [83, 66, 67] (tbR [73, 78, 67] r m) (tbV [73, 78, 67] r m)
  else tbR n r m
def gs (n : List UInt8) (p : Nat) : Bool :=
  if n = [66, 80, 76] then !hasB p 128
  else if n = [66, 77, 73] then hasB p 128
  else if n = [66, 86, 67] then !hasB p 64
  else if n = [66, 86, 83] then hasB p 64
  else if n = [66, 67, 67] then !hasB p 1
  else if n = [66, 67, 83] then hasB p 1
  else if n = [66, 78, 69] then !hasB p 2
  else if n = [66, 69, 81] then hasB p 2
  else false
def un (n : List UInt8) : Bool := n = [83, 72, 65] || n = [83, 72, 88] || n = [83, 72, 89] || n = [84, 65, 83]

end Go.Proofs.YtelmohajdmcnmaaDoor.Ex
