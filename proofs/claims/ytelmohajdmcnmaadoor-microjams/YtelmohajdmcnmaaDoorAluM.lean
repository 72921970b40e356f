/- Flags, digits and bits of a byte, as numbers: plain mathematics. -/
import Derived.Test.YtelmohajdmcnmaaDoorRows
import Derived.WalkKit
import Derived.ProofKit
import Derived.OpenShut
import Derived.Handy
import Derived.Outline
import Derived.WalkLawsBesides
import Derived.Laws.BitsAllLaws
namespace Go.Proofs.YtelmohajdmcnmaaDoor.Alu
open Go.RowKit

/-- p with a flag that is set or not. -/
def W (p : Nat) (f : Int) (b : Bool) : Nat := if b then p ||| f.toNat else p &&& (255 - f.toNat)

theorem W_lt (p : Nat) (f : Int) (b : Bool) (hp : p < 256) (hf : f.toNat < 256) : W p f b < 256 := by
  unfold W
  cases b
  · exact Nat.lt_of_le_of_lt Nat.and_le_left hp
  · exact Nat.or_lt_two_pow (n := 8) hp hf

/-- Bit 7 of a number. -/
def H7 (x : Int) : Bool := decide (x / 128 % 2 = 1)
/-- Have a and m the same bit 7, and t another one? -/
def ov (a m t : Int) : Bool := (H7 a == H7 m) && (H7 t != H7 a)
/-- The document's marks. -/
def mk (p : Nat) (v : Int) : Nat := W (W p 2 (v == 0)) 128 (decide (128 ≤ v))
theorem mk_lt (p : Nat) (v : Int) (hp : p < 256) : mk p v < 256 := W_lt _ _ _ (W_lt _ _ _ hp (by decide)) (by decide)

theorem all256 {P : Nat → Prop} [DecidablePred P] (h : ∀ n, n < 256 → P n) (n : Nat) (hn : n < 256) : P n := h n hn

theorem and8 : ∀ p : Nat, p < 256 → bits .and .u8 (p : Int) 8 = if p / 8 % 2 = 1 then 8 else 0 := by decide +kernel
theorem and1 : ∀ p : Nat, p < 256 → bits .and .u8 (p : Int) 1 = (p : Int) % 2 := by decide +kernel
theorem and128 : ∀ v : Nat, v < 256 → (bits .and .u8 (v : Int) 128 != 0) = decide (128 ≤ (v : Int)) := by decide +kernel
theorem and128H : ∀ v : Nat, v < 256 → (bits .and .u8 (v : Int) 128 != 0) = H7 v := by decide +kernel
theorem and64 : ∀ v : Nat, v < 256 → (bits .and .u8 (v : Int) 64 != 0) = decide ((v : Int) / 64 % 2 = 1) := by decide +kernel
theorem and64' : ∀ v : Nat, v < 256 → (bits .and .u8 (bits .xor .u8 (v : Int) ((v : Int) * 2 % 256)) 64 != 0) = (decide ((v : Int) / 64 % 2 = 1) != decide ((v : Int) / 32 % 2 = 1)) := by decide +kernel
theorem andI1 : ∀ d : Nat, d < 256 → bits .and .i64 (d : Int) 1 = (d : Int) % 2 := by decide +kernel
theorem andI128 : ∀ t : Nat, t < 512 → (bits .and .i64 (t : Int) 128 != 0) = H7 t := by decide +kernel
theorem andI15 : ∀ k : Nat, k < 16 → bits .and .i64 (-(k : Int) - 1 - 6) 15 - 16 = (-(k : Int) - 1 - 6) % 16 - 16 := by decide +kernel
theorem not8 : ∀ m : Nat, m < 256 → bits .xor .u8 255 (m : Int) = 255 - (m : Int) := by decide +kernel

theorem bit7 : ∀ x : Nat, x < 256 → x.testBit 7 = H7 x := by decide +kernel
theorem and128t : ∀ x : Nat, x < 256 → (((x &&& 128 : Nat) : Int) != 0) = x.testBit 7 := by decide +kernel

/-- The sign of an overflow. -/
theorem flip (a m s : Nat) (ha : a < 256) (hm : m < 256) (hs : s < 256) : (bits .and .u8 (bits .and .u8 (bits .xor .u8 (a : Int) (s : Int)) (bits .xor .u8 (m : Int) (s : Int))) 128 != 0) = ov a m s := by
  have h1 : a ^^^ s < 256 := Nat.xor_lt_two_pow (n := 8) ha hs
  have h2 : m ^^^ s < 256 := Nat.xor_lt_two_pow (n := 8) hm hs
  have h3 : (a ^^^ s) &&& (m ^^^ s) < 256 := Nat.and_lt_two_pow (n := 8) _ h2
  rw [u8_xor_nat _ _ ha hs, u8_xor_nat _ _ hm hs, u8_and_nat _ _ h1 h2, show (128 : Int) = ((128 : Nat) : Int) from rfl, u8_and_nat _ _ h3 (by decide), and128t _ h3, Nat.testBit_and, Nat.testBit_xor, Nat.testBit_xor, bit7 _ ha, bit7 _ hm, bit7 _ hs]
  unfold ov
  cases H7 a <;> cases H7 m <;> cases H7 s <;> rfl

/-- Bit 6 of a number. -/
def H6 (x : Int) : Bool := decide (x / 64 % 2 = 1)
def H5 (x : Int) : Bool := decide (x / 32 % 2 = 1)
theorem bit6 : ∀ x : Nat, x < 256 → x.testBit 6 = H6 x := by decide +kernel
theorem and64t : ∀ x : Nat, x < 256 → (((x &&& 64 : Nat) : Int) != 0) = x.testBit 6 := by decide +kernel
theorem apart6 (t v : Nat) (ht : t < 256) (hv : v < 256) : (bits .and .u8 (bits .xor .u8 (t : Int) (v : Int)) 64 != 0) = (H6 t != H6 v) := by
  have h1 : t ^^^ v < 256 := Nat.xor_lt_two_pow (n := 8) ht hv
  rw [u8_xor_nat _ _ ht hv, show (64 : Int) = ((64 : Nat) : Int) from rfl, u8_and_nat _ _ h1 (by decide), and64t _ h1, Nat.testBit_xor, bit6 _ ht, bit6 _ hv]
theorem or1 : ∀ v : Nat, v < 256 → bits .or .u8 ((v : Int) * 2 % 256) 1 = (v : Int) * 2 % 256 + 1 := by decide +kernel
theorem or128 : ∀ v : Nat, v < 256 → bits .or .u8 ((v : Int) / 2) 128 = (v : Int) / 2 + 128 := by decide +kernel

end Go.Proofs.YtelmohajdmcnmaaDoor.Alu
