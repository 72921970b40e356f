/- The calls of package alu over natural numbers. -/
import Derived.Test.YtelmohajdmcnmaaDoorEx1
namespace Go.Proofs.YtelmohajdmcnmaaDoor.Ex
open Go.RowKit Alu

theorem AddN (a m p : Nat) (w : World) (ha : a < 256) (hm : m < 256) (hp : p < 256) : Calls Tryd.prog 74 #[.int .u8 (a : Int), .int .u8 (m : Int), .int .u8 (p : Int)] w fun e w' => e = .returned (.tuple #[.int .u8 ((addN a m p : Nat) : Int), .int .u8 ((addQ a m p : Nat) : Int)]) ∧ Below w.heap.size w w' := by
  have h := Alu.Add (a : Int) (m : Int) p w (by omega) (by omega) (by omega) (by omega) hp
  rw [addN_eq] at h; exact h
theorem SubN (a m p : Nat) (w : World) (ha : a < 256) (hm : m < 256) (hp : p < 256) : Calls Tryd.prog 75 #[.int .u8 (a : Int), .int .u8 (m : Int), .int .u8 (p : Int)] w fun e w' => e = .returned (.tuple #[.int .u8 ((subN a m p : Nat) : Int), .int .u8 ((binQ p a (255 - (m : Int)) : Nat) : Int)]) ∧ Below w.heap.size w w' := by
  have h := Alu.Sub (a : Int) (m : Int) p w (by omega) (by omega) (by omega) (by omega) hp
  rw [subN_eq] at h; exact h
theorem LeftN (m p : Nat) (t : Bool) (w : World) (hm : m < 256) (hp : p < 256) : Calls Tryd.prog 79 #[.int .u8 (m : Int), .int .u8 (p : Int), .bool t] w fun e w' => e = .returned (.tuple #[.int .u8 ((leftN m p t : Nat) : Int), .int .u8 ((leftQ m p t : Nat) : Int)]) ∧ w' = w := by
  have h := Alu.Left (m : Int) p t w (by omega) (by omega) hp
  rw [leftN_eq] at h; exact h
theorem RightN (m p : Nat) (t : Bool) (w : World) (hm : m < 256) (hp : p < 256) : Calls Tryd.prog 80 #[.int .u8 (m : Int), .int .u8 (p : Int), .bool t] w fun e w' => e = .returned (.tuple #[.int .u8 ((rightN m p t : Nat) : Int), .int .u8 ((rightQ m p t : Nat) : Int)]) ∧ w' = w := by
  have h := Alu.Right (m : Int) p t w (by omega) (by omega) hp
  rw [rightN_eq p t hm] at h; exact h
theorem OddN (a m p : Nat) (w : World) (ha : a < 256) (hm : m < 256) (hp : p < 256) : Calls Tryd.prog 99 #[.int .u8 (a : Int), .int .u8 (m : Int), .int .u8 (p : Int)] w fun e w' => e = .returned (.tuple #[.int .u8 ((oddN a m p : Nat) : Int), .int .u8 ((oddQ a m p : Nat) : Int)]) ∧ Below w.heap.size w w' := by
  have h := Alu.Odd a m p w ha hm hp
  rw [oddN_eq a p hm] at h; exact h
theorem CmpN (a m p : Nat) (w : World) (hp : p < 256) : Calls Tryd.prog 76 #[.int .u8 (a : Int), .int .u8 (m : Int), .int .u8 (p : Int)] w fun e w' => e = .returned (.int .u8 ((cmpQ a m p : Nat) : Int)) ∧ w' = w := Alu.Compare _ _ _ _ hp
theorem BitN (a m p : Nat) (w : World) (ha : a < 256) (hm : m < 256) (hp : p < 256) : Calls Tryd.prog 77 #[.int .u8 (a : Int), .int .u8 (m : Int), .int .u8 (p : Int)] w fun e w' => e = .returned (.int .u8 ((bitN a m p : Nat) : Int)) ∧ w' = w := Alu.Bit _ _ _ _ ha hm hp

theorem Turn.undraw {b : Nat} {w w' : World} {n : Nat} (h : Turn b (w.drewN n) w') : Turn b w w' := ⟨h.os, h.tape, h.output, h.size, h.block⟩

end Go.Proofs.YtelmohajdmcnmaaDoor.Ex
