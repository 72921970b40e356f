/- What the processor tells; a new one. -/
import Derived.Test.YtelmohajdmcnmaaDoorMi4
import Derived.Deep.MidRow
namespace Go.Proofs.YtelmohajdmcnmaaDoor.Mi
open Go.RowKit Alu Ex
set_option linter.unusedVariables false

theorem and13 (n : Nat) (h : n < 65536) : bits .and .u16 (n : Int) 8191 = ((n % 8192 : Nat) : Int) := by
  rw [show (8191 : Int) = ((8191 : Nat) : Int) from rfl, u16_and_nat _ _ h (by decide)]
  congr 1
  exact Nat.and_two_pow_sub_one_eq_mod n 13
/-- What is asked, as a value. -/
def Cp.pins (c : Cp) : Array Go.Value := #[.int .u16 ((c.ad % 8192 : Nat) : Int), .bool c.wr, .int .u8 (c.da : Int)]

set_option maxHeartbeats 1000000 in
theorem Pins (b : Nat) (c : Cp) (w : World) (h : Row w b c.cells) (ha : c.ad < 65536) : Calls Tryd.prog 18 #[.pointer (some ⟨b, 0, none⟩)] w fun e w' => e = .returned (.agg c.pins) ∧ Below w.heap.size w w' := by
  have HX : Hid (∀ X : Obj, Row (w.alloc X) b c.cells) := fun X => h.alloc c.pos X
  have c7 : ∀ X : Obj, (w.alloc X).cell? ⟨b, 7, none⟩ = _ := fun X => (HX.out X).at_ 7 _ rfl
  have c8 : ∀ X : Obj, (w.alloc X).cell? ⟨b, 8, none⟩ = _ := fun X => (HX.out X).at_ 8 _ rfl
  have c9 : ∀ X : Obj, (w.alloc X).cell? ⟨b, 9, none⟩ = _ := fun X => (HX.out X).at_ 9 _ rfl
  have HA : Hid (bits .and .u16 (c.ad : Int) 8191 = ((c.ad % 8192 : Nat) : Int)) := and13 _ ha
  clear h
  go_enter Tryd.func18, Tryd.ntmps18
  go_wp2
  rw [HA.out]
  go_returns
  exact ⟨rfl, ((Below.refl _ w).alloc (Nat.le_refl _) _).alloc (by simp) _⟩

set_option maxHeartbeats 1000000 in
theorem Regs (b : Nat) (c : Cp) (w : World) (h : Row w b c.cells) : Calls Tryd.prog 19 #[.pointer (some ⟨b, 0, none⟩)] w fun e w' => e = .returned (.agg (rG c.r)) ∧ Below w.heap.size w w' := by
  have HX : Hid (∀ X : Obj, Row (w.alloc X) b c.cells) := fun X => h.alloc c.pos X
  have c0 : ∀ X : Obj, (w.alloc X).cell? ⟨b, 0, none⟩ = _ := fun X => (HX.out X).at_ 0 _ rfl
  have c1 : ∀ X : Obj, (w.alloc X).cell? ⟨b, 1, none⟩ = _ := fun X => (HX.out X).at_ 1 _ rfl
  have c2 : ∀ X : Obj, (w.alloc X).cell? ⟨b, 2, none⟩ = _ := fun X => (HX.out X).at_ 2 _ rfl
  have c3 : ∀ X : Obj, (w.alloc X).cell? ⟨b, 3, none⟩ = _ := fun X => (HX.out X).at_ 3 _ rfl
  have c4 : ∀ X : Obj, (w.alloc X).cell? ⟨b, 4, none⟩ = _ := fun X => (HX.out X).at_ 4 _ rfl
  have c5 : ∀ X : Obj, (w.alloc X).cell? ⟨b, 5, none⟩ = _ := fun X => (HX.out X).at_ 5 _ rfl
  clear h
  go_enter Tryd.func19, Tryd.ntmps19
  go_wp2
  go_returns
  exact ⟨rfl, (Below.refl _ w).alloc (Nat.le_refl _) _⟩

set_option maxHeartbeats 1000000 in
theorem Fresh (b : Nat) (c : Cp) (w : World) (h : Row w b c.cells) : Calls Tryd.prog 13 #[.pointer (some ⟨b, 0, none⟩)] w fun e w' => e = .returned (.bool (c.st == 7)) ∧ w' = w := by
  have c6 := h.at_ 6 _ rfl
  clear h
  have HE : Hid ((c.st == 7) = ((c.st : Int) == 7)) := by show _ = _; cases hq : (c.st == 7) <;> simp at hq ⊢ <;> omega
  go_enter Tryd.func13, Tryd.ntmps13
  go_wp2
  go_returns
  exact ⟨ret_bool HE.out.symm, rfl⟩

set_option maxHeartbeats 1000000 in
theorem Jammed (b : Nat) (c : Cp) (w : World) (h : Row w b c.cells) : Calls Tryd.prog 23 #[.pointer (some ⟨b, 0, none⟩)] w fun e w' => e = .returned (.bool (c.st == 12)) ∧ w' = w := by
  have c6 := h.at_ 6 _ rfl
  clear h
  have HE : Hid ((c.st == 12) = ((c.st : Int) == 12)) := by show _ = _; cases hq : (c.st == 12) <;> simp at hq ⊢ <;> omega
  go_enter Tryd.func23, Tryd.ntmps23
  go_wp2
  go_returns
  exact ⟨ret_bool HE.out.symm, rfl⟩

set_option maxHeartbeats 1000000 in
theorem CodeM (b : Nat) (c : Cp) (w : World) (h : Row w b c.cells) : Calls Tryd.prog 15 #[.pointer (some ⟨b, 0, none⟩)] w fun e w' => e = .returned (.int .u8 (c.op : Int)) ∧ w' = w := by
  have c10 := h.at_ 10 _ rfl
  clear h
  go_enter Tryd.func15, Tryd.ntmps15
  go_wp2
  go_returns
  exact ⟨rfl, rfl⟩

/-! ### A processor that is not there -/
set_option maxHeartbeats 1000000 in
theorem nilClock (v : Int) (w : World) : Calls Tryd.prog 21 #[.pointer none, .int .u8 v] w fun e w' => e = .returned (.tuple #[]) ∧ w' = w := by
  go_enter Tryd.func21, Tryd.ntmps21
  go_wp2
  go_returns
  exact ⟨rfl, rfl⟩
set_option maxHeartbeats 1000000 in
theorem nilPins (w : World) : Calls Tryd.prog 18 #[.pointer none] w fun e w' => e = .returned (.agg #[.int .u16 0, .bool false, .int .u8 0]) ∧ Below w.heap.size w w' := by
  go_enter Tryd.func18, Tryd.ntmps18
  go_wp2
  go_returns
  exact ⟨rfl, (Below.refl _ w).alloc (Nat.le_refl _) _⟩
set_option maxHeartbeats 1000000 in
theorem nilRegs (w : World) : Calls Tryd.prog 19 #[.pointer none] w fun e w' => e = .returned (.agg #[.int .u8 0, .int .u8 0, .int .u8 0, .int .u8 0, .int .u8 0, .int .u16 0]) ∧ Below w.heap.size w w' := by
  go_enter Tryd.func19, Tryd.ntmps19
  go_wp2
  go_returns
  exact ⟨rfl, (Below.refl _ w).alloc (Nat.le_refl _) _⟩
set_option maxHeartbeats 1000000 in
theorem nilFresh (w : World) : Calls Tryd.prog 13 #[.pointer none] w fun e w' => e = .returned (.bool false) ∧ w' = w := by
  go_enter Tryd.func13, Tryd.ntmps13
  go_wp2
  go_returns
  exact ⟨rfl, rfl⟩
set_option maxHeartbeats 1000000 in
theorem nilJammed (w : World) : Calls Tryd.prog 23 #[.pointer none] w fun e w' => e = .returned (.bool false) ∧ w' = w := by
  go_enter Tryd.func23, Tryd.ntmps23
  go_wp2
  go_returns
  exact ⟨rfl, rfl⟩
set_option maxHeartbeats 1000000 in
theorem nilCode (w : World) : Calls Tryd.prog 15 #[.pointer none] w fun e w' => e = .returned (.int .u8 0) ∧ w' = w := by
  go_enter Tryd.func15, Tryd.ntmps15
  go_wp2
  go_returns
  exact ⟨rfl, rfl⟩
set_option maxHeartbeats 1000000 in
theorem nilCopy (w : World) : Calls Tryd.prog 24 #[.pointer none] w fun e w' => e = .returned (.pointer none) ∧ w' = w := by
  go_enter Tryd.func24, Tryd.ntmps24
  go_wp2
  go_returns
  exact ⟨rfl, rfl⟩

end Go.Proofs.YtelmohajdmcnmaaDoor.Mi
