/- 'awake' of layer 11's laws. -/
import Derived.Test.YtenaegclnomklaaEx8
import Derived.Test.YtenaegclnomklaaEx9
namespace Go.Proofs.Ytenaegclnomklaa.Ex
open Go.RowKit Alu

theorem ex_read (w : World) : Calls Try.prog 7 #[.string ⟨#[76, 68, 65]⟩, .agg #[.int .u8 5, .int .u8 0, .int .u8 0, .int .u8 0, .int .u8 0, .int .u16 0], .int .u8 0] w fun e w' => e = .returned (.agg #[.int .u8 0, .int .u8 0, .int .u8 0, .int .u8 0, .int .u8 2, .int .u16 0]) ∧ Below w.heap.size w w' := by
  have h := Read ⟨#[76, 68, 65]⟩ 0 ⟨5, 0, 0, 0, 0, 0⟩ (by decide) w ⟨by decide, by decide, by decide, by decide, by decide, by decide⟩
  rw [ByteArray.toList_eq] at h
  exact h
theorem ex_store (w : World) : Calls Try.prog 18 #[.string ⟨#[83, 72, 88]⟩, .agg #[.int .u8 0, .int .u8 15, .int .u8 0, .int .u8 0, .int .u8 0, .int .u16 0], .int .u8 18] w fun e w' => e = .returned (.tuple #[.int .u8 3, .agg #[.int .u8 0, .int .u8 15, .int .u8 0, .int .u8 0, .int .u8 0, .int .u16 0]]) ∧ Below w.heap.size w w' := by
  have h := Store ⟨#[83, 72, 88]⟩ 18 ⟨0, 15, 0, 0, 0, 0⟩ (by decide) w ⟨by decide, by decide, by decide, by decide, by decide, by decide⟩
  rw [ByteArray.toList_eq] at h
  exact h
theorem ex_turn (w : World) : Calls Try.prog 20 #[.string ⟨#[68, 67, 80]⟩, .agg #[.int .u8 5, .int .u8 0, .int .u8 0, .int .u8 0, .int .u8 0, .int .u16 0], .int .u8 6] w fun e w' => e = .returned (.tuple #[.int .u8 5, .agg #[.int .u8 5, .int .u8 0, .int .u8 0, .int .u8 0, .int .u8 3, .int .u16 0]]) ∧ Below w.heap.size w w' := by
  have h := TurnX ⟨#[68, 67, 80]⟩ 6 ⟨5, 0, 0, 0, 0, 0⟩ (by decide) w ⟨by decide, by decide, by decide, by decide, by decide, by decide⟩
  rw [ByteArray.toList_eq] at h
  exact h
theorem ex_goes (w : World) : Calls Try.prog 14 #[.string ⟨#[66, 78, 69]⟩, .int .u8 0] w fun e w' => e = .returned (.bool true) ∧ w' = w := by
  have h := Goes ⟨#[66, 78, 69]⟩ 0 w (by decide)
  rw [ByteArray.toList_eq] at h
  exact h

set_option maxRecDepth 100000 in
set_option maxHeartbeats 1000000 in
theorem awake11 (w : World) : Calls Try.prog 11 #[] w fun e w' => e = .returned (.bool true) ∧ Below w.heap.size w w' := by
  go_enter Try.func11, Try.ntmps11
  go_wp2_with (first
    | (go_at_call 7; refine (ex_read _).mono ?_; rintro e w1 ⟨rfl, hB1⟩)
    | (go_at_call 18; refine (ex_store _).mono ?_; rintro e w2 ⟨rfl, hB2⟩)
    | (go_at_call 20; refine (ex_turn _).mono ?_; rintro e w3 ⟨rfl, hB3⟩; have R1 : RAt w3 w1.heap.size 0 ⟨0, 0, 0, 0, 2, 0⟩ := (((RAt.new w1 ⟨0, 0, 0, 0, 2, 0⟩ 24).below hB2).alloc _).below hB3; have g0 : ∀ X, (w3.alloc X).cell? ⟨w1.heap.size, 0, none⟩ = some (.int .u8 0) := fun X => (R1.alloc X).c0; have g4 : ∀ X, (w3.alloc X).cell? ⟨w1.heap.size, 4, none⟩ = some (.int .u8 2) := fun X => (R1.alloc X).c4; clear R1)
    | (go_at_call 14; refine (ex_goes _).mono ?_; rintro e w' ⟨rfl, rfl⟩))
  go_ret
  have s1 := hB1.size
  have s2 := hB2.size
  have s3 := hB3.size
  simp at s2 s3
  exact ⟨rfl, ((((hB1.alloc (by omega) _).trans (hB2.mono (by simp; omega))).alloc (by omega) _).trans (hB3.mono (by simp; omega))).alloc (by omega) _⟩

end Go.Proofs.Ytenaegclnomklaa.Ex
