/- ExecPairs, walked: whatever comes in, true comes out. -/
import Derived.Test.YtkddpbidkeiboaaAwakeE
import Derived.Deep.QuietTactic
import Derived.BigQuiet
namespace Go.Proofs.Ytkddpbidkeiboaa.execPairs
open Go.RowKit Alu Ex
set_option linter.unusedVariables false

/-- The pairs, where they lie. -/
structure Pr (w : World) (g : Nat) : Prop where
  c0 : w.cell? ⟨g, 0, none⟩ = some (.string ⟨#[66, 80, 76]⟩)
  c1 : w.cell? ⟨g, 1, none⟩ = some (.string ⟨#[66, 77, 73]⟩)
  c2 : w.cell? ⟨g, 2, none⟩ = some (.string ⟨#[66, 86, 67]⟩)
  c3 : w.cell? ⟨g, 3, none⟩ = some (.string ⟨#[66, 86, 83]⟩)
  c4 : w.cell? ⟨g, 4, none⟩ = some (.string ⟨#[66, 67, 67]⟩)
  c5 : w.cell? ⟨g, 5, none⟩ = some (.string ⟨#[66, 67, 83]⟩)
  c6 : w.cell? ⟨g, 6, none⟩ = some (.string ⟨#[66, 78, 69]⟩)
  c7 : w.cell? ⟨g, 7, none⟩ = some (.string ⟨#[66, 69, 81]⟩)
theorem Pr.draws {w : World} {g : Nat} (h : Pr w g) (q : Nat) : Pr (w.drewN q) g := ⟨h.c0, h.c1, h.c2, h.c3, h.c4, h.c5, h.c6, h.c7⟩

set_option maxRecDepth 100000 in
set_option maxHeartbeats 4000000 in
theorem walk (a0 : Int) (w0 : (Lit.int .u8 a0).wf = true) (W : World) :
    Calls Try.prog 7 #[.int .u8 a0] W fun e w' => e = .returned (.bool true) ∧ Below W.heap.size W w' := by
  obtain ⟨x0, x1⟩ := bounds_u8 w0
  obtain ⟨p, rfl⟩ := Int.eq_ofNat_of_zero_le x0
  clear w0
  have hp : p < 256 := by omega
  have hne : ∀ b : Bool, ((!b) == b) = false := fun b => by cases b <;> rfl
  obtain ⟨f1, hf1⟩ : ∃ b, hasB p 128 = b := ⟨_, rfl⟩
  have GBPL : Hid (∀ w : World, Calls Try.prog 16 #[.string ⟨#[66, 80, 76]⟩, .int .u8 (p : Int)] w fun e w' => e = .returned (.bool (!f1)) ∧ w' = w) := fun w => by
    have h := Goes ⟨#[66, 80, 76]⟩ p w hp
    rw [ByteArray.toList_eq] at h
    rw [← hf1]; exact h
  have GBMI : Hid (∀ w : World, Calls Try.prog 16 #[.string ⟨#[66, 77, 73]⟩, .int .u8 (p : Int)] w fun e w' => e = .returned (.bool f1) ∧ w' = w) := fun w => by
    have h := Goes ⟨#[66, 77, 73]⟩ p w hp
    rw [ByteArray.toList_eq] at h
    rw [← hf1]; exact h
  clear hf1
  obtain ⟨f2, hf2⟩ : ∃ b, hasB p 64 = b := ⟨_, rfl⟩
  have GBVC : Hid (∀ w : World, Calls Try.prog 16 #[.string ⟨#[66, 86, 67]⟩, .int .u8 (p : Int)] w fun e w' => e = .returned (.bool (!f2)) ∧ w' = w) := fun w => by
    have h := Goes ⟨#[66, 86, 67]⟩ p w hp
    rw [ByteArray.toList_eq] at h
    rw [← hf2]; exact h
  have GBVS : Hid (∀ w : World, Calls Try.prog 16 #[.string ⟨#[66, 86, 83]⟩, .int .u8 (p : Int)] w fun e w' => e = .returned (.bool f2) ∧ w' = w) := fun w => by
    have h := Goes ⟨#[66, 86, 83]⟩ p w hp
    rw [ByteArray.toList_eq] at h
    rw [← hf2]; exact h
  clear hf2
  obtain ⟨f3, hf3⟩ : ∃ b, hasB p 1 = b := ⟨_, rfl⟩
  have GBCC : Hid (∀ w : World, Calls Try.prog 16 #[.string ⟨#[66, 67, 67]⟩, .int .u8 (p : Int)] w fun e w' => e = .returned (.bool (!f3)) ∧ w' = w) := fun w => by
    have h := Goes ⟨#[66, 67, 67]⟩ p w hp
    rw [ByteArray.toList_eq] at h
    rw [← hf3]; exact h
  have GBCS : Hid (∀ w : World, Calls Try.prog 16 #[.string ⟨#[66, 67, 83]⟩, .int .u8 (p : Int)] w fun e w' => e = .returned (.bool f3) ∧ w' = w) := fun w => by
    have h := Goes ⟨#[66, 67, 83]⟩ p w hp
    rw [ByteArray.toList_eq] at h
    rw [← hf3]; exact h
  clear hf3
  obtain ⟨f4, hf4⟩ : ∃ b, hasB p 2 = b := ⟨_, rfl⟩
  have GBNE : Hid (∀ w : World, Calls Try.prog 16 #[.string ⟨#[66, 78, 69]⟩, .int .u8 (p : Int)] w fun e w' => e = .returned (.bool (!f4)) ∧ w' = w) := fun w => by
    have h := Goes ⟨#[66, 78, 69]⟩ p w hp
    rw [ByteArray.toList_eq] at h
    rw [← hf4]; exact h
  have GBEQ : Hid (∀ w : World, Calls Try.prog 16 #[.string ⟨#[66, 69, 81]⟩, .int .u8 (p : Int)] w fun e w' => e = .returned (.bool f4) ∧ w' = w) := fun w => by
    have h := Goes ⟨#[66, 69, 81]⟩ p w hp
    rw [ByteArray.toList_eq] at h
    rw [← hf4]; exact h
  clear hf4
  go_enter Try.func7, Try.ntmps7
  go_wp2_with (fail)
  have hh := heap_alloc_new W (.cells #[.string ⟨#[66, 80, 76]⟩, .string ⟨#[66, 77, 73]⟩, .string ⟨#[66, 86, 67]⟩, .string ⟨#[66, 86, 83]⟩, .string ⟨#[66, 67, 67]⟩, .string ⟨#[66, 67, 83]⟩, .string ⟨#[66, 78, 69]⟩, .string ⟨#[66, 69, 81]⟩] 44)
  have HB : Hid (Below W.heap.size W (W.alloc (.cells #[.string ⟨#[66, 80, 76]⟩, .string ⟨#[66, 77, 73]⟩, .string ⟨#[66, 86, 67]⟩, .string ⟨#[66, 86, 83]⟩, .string ⟨#[66, 67, 67]⟩, .string ⟨#[66, 67, 83]⟩, .string ⟨#[66, 78, 69]⟩, .string ⟨#[66, 69, 81]⟩] 44))) := (Below.refl _ W).alloc (Nat.le_refl _) _
  have HS : Hid (W.heap.size ≤ (W.alloc (.cells #[.string ⟨#[66, 80, 76]⟩, .string ⟨#[66, 77, 73]⟩, .string ⟨#[66, 86, 67]⟩, .string ⟨#[66, 86, 83]⟩, .string ⟨#[66, 67, 67]⟩, .string ⟨#[66, 67, 83]⟩, .string ⟨#[66, 78, 69]⟩, .string ⟨#[66, 69, 81]⟩] 44)).heap.size) := by show _ ≤ _; simp
  generalize hw : W.alloc (.cells #[.string ⟨#[66, 80, 76]⟩, .string ⟨#[66, 77, 73]⟩, .string ⟨#[66, 86, 67]⟩, .string ⟨#[66, 86, 83]⟩, .string ⟨#[66, 67, 67]⟩, .string ⟨#[66, 67, 83]⟩, .string ⟨#[66, 78, 69]⟩, .string ⟨#[66, 69, 81]⟩] 44) = w1 at HB HS ⊢
  have c0 : w1.cell? ⟨W.heap.size, 0, none⟩ = some (.string ⟨#[66, 80, 76]⟩) := by rw [← hw]; exact cell_of_row _ _ _ _ _ _ hh
  have c1 : w1.cell? ⟨W.heap.size, 1, none⟩ = some (.string ⟨#[66, 77, 73]⟩) := by rw [← hw]; exact cell_of_row _ _ _ _ _ _ hh
  have c2 : w1.cell? ⟨W.heap.size, 2, none⟩ = some (.string ⟨#[66, 86, 67]⟩) := by rw [← hw]; exact cell_of_row _ _ _ _ _ _ hh
  have c3 : w1.cell? ⟨W.heap.size, 3, none⟩ = some (.string ⟨#[66, 86, 83]⟩) := by rw [← hw]; exact cell_of_row _ _ _ _ _ _ hh
  have c4 : w1.cell? ⟨W.heap.size, 4, none⟩ = some (.string ⟨#[66, 67, 67]⟩) := by rw [← hw]; exact cell_of_row _ _ _ _ _ _ hh
  have c5 : w1.cell? ⟨W.heap.size, 5, none⟩ = some (.string ⟨#[66, 67, 83]⟩) := by rw [← hw]; exact cell_of_row _ _ _ _ _ _ hh
  have c6 : w1.cell? ⟨W.heap.size, 6, none⟩ = some (.string ⟨#[66, 78, 69]⟩) := by rw [← hw]; exact cell_of_row _ _ _ _ _ _ hh
  have c7 : w1.cell? ⟨W.heap.size, 7, none⟩ = some (.string ⟨#[66, 69, 81]⟩) := by rw [← hw]; exact cell_of_row _ _ _ _ _ _ hh
  clear hh hw
  have HP : Hid (Pr w1 W.heap.size) := ⟨c0, c1, c2, c3, c4, c5, c6, c7⟩
  generalize hgg : W.heap.size = g at *
  have HG : Hid (W.heap.size = g) := hgg
  clear hgg
  refine wp_loop_rounds 5 ?_
  rw [rounds_succ]
  go_wp2_with (fail)
  go_quiet (first
    | (go_at_call_of 16 (Value.string ⟨#[66, 80, 76]⟩); exact Calls.quiet_of_same (GBPL.out _))
    | (go_at_call_of 16 (Value.string ⟨#[66, 77, 73]⟩); exact Calls.quiet_of_same (GBMI.out _)))
  generalize hw2 : World.drewN _ _ = w2
  have HP2 : Hid (Pr w2 g) := by rw [← hw2]; exact HP.out.draws _
  have HB2 : Hid (Below g W w2) := by rw [← hw2]; exact below_drewN HB.out _
  have HS2 : Hid (g ≤ w2.heap.size) := by rw [← hw2]; exact HS.out
  clear hw2 c0 c1 c2 c3 c4 c5 c6 c7
  obtain ⟨c0, c1, c2, c3, c4, c5, c6, c7⟩ := HP2.out
  go_wp2_with (fail)
  rw [rounds_succ]
  go_wp2_with (fail)
  go_quiet (first
    | (go_at_call_of 16 (Value.string ⟨#[66, 86, 67]⟩); exact Calls.quiet_of_same (GBVC.out _))
    | (go_at_call_of 16 (Value.string ⟨#[66, 86, 83]⟩); exact Calls.quiet_of_same (GBVS.out _)))
  generalize hw2 : World.drewN _ _ = w3
  have HP3 : Hid (Pr w3 g) := by rw [← hw2]; exact HP2.out.draws _
  have HB3 : Hid (Below g W w3) := by rw [← hw2]; exact below_drewN HB2.out _
  have HS3 : Hid (g ≤ w3.heap.size) := by rw [← hw2]; exact HS2.out
  clear hw2 c0 c1 c2 c3 c4 c5 c6 c7
  obtain ⟨c0, c1, c2, c3, c4, c5, c6, c7⟩ := HP3.out
  go_wp2_with (fail)
  rw [rounds_succ]
  go_wp2_with (fail)
  go_quiet (first
    | (go_at_call_of 16 (Value.string ⟨#[66, 67, 67]⟩); exact Calls.quiet_of_same (GBCC.out _))
    | (go_at_call_of 16 (Value.string ⟨#[66, 67, 83]⟩); exact Calls.quiet_of_same (GBCS.out _)))
  generalize hw2 : World.drewN _ _ = w4
  have HP4 : Hid (Pr w4 g) := by rw [← hw2]; exact HP3.out.draws _
  have HB4 : Hid (Below g W w4) := by rw [← hw2]; exact below_drewN HB3.out _
  have HS4 : Hid (g ≤ w4.heap.size) := by rw [← hw2]; exact HS3.out
  clear hw2 c0 c1 c2 c3 c4 c5 c6 c7
  obtain ⟨c0, c1, c2, c3, c4, c5, c6, c7⟩ := HP4.out
  go_wp2_with (fail)
  rw [rounds_succ]
  go_wp2_with (fail)
  go_quiet (first
    | (go_at_call_of 16 (Value.string ⟨#[66, 78, 69]⟩); exact Calls.quiet_of_same (GBNE.out _))
    | (go_at_call_of 16 (Value.string ⟨#[66, 69, 81]⟩); exact Calls.quiet_of_same (GBEQ.out _)))
  generalize hw2 : World.drewN _ _ = w5
  have HP5 : Hid (Pr w5 g) := by rw [← hw2]; exact HP4.out.draws _
  have HB5 : Hid (Below g W w5) := by rw [← hw2]; exact below_drewN HB4.out _
  have HS5 : Hid (g ≤ w5.heap.size) := by rw [← hw2]; exact HS4.out
  clear hw2 c0 c1 c2 c3 c4 c5 c6 c7
  obtain ⟨c0, c1, c2, c3, c4, c5, c6, c7⟩ := HP5.out
  go_wp2_with (fail)
  rw [rounds_succ]
  go_wp2_with (go_at_call 13; refine (awake11 _).mono ?_; rintro e w5 ⟨rfl, hB5⟩)
  go_returns
  exact ⟨rfl, by rw [HG.out]; exact HB5.out.trans (hB5.mono HS5.out)⟩

end Go.Proofs.Ytkddpbidkeiboaa.execPairs
