/- The calls of package exec. -/
import Derived.Test.YtelmohajdmcnmaaDoorEx7
import Derived.Test.YtelmohajdmcnmaaDoorEx4
import Derived.Test.YtelmohajdmcnmaaDoorEx5
namespace Go.Proofs.YtelmohajdmcnmaaDoor.Ex
open Go.RowKit Alu
set_option linter.unusedVariables false

/-- The registers as a value. -/
def rV (r : Rg) : Array Value := #[.int .u8 (r.a : Int), .int .u8 (r.x : Int), .int .u8 (r.y : Int), .int .u8 (r.s : Int), .int .u8 (r.p : Int), .int .u16 (r.pc : Int)]
theorem RAt.new (w : World) (r : Rg) (t : TypeId) : RAt (w.alloc (.cells #[.int .u8 (r.a : Int), .int .u8 (r.x : Int), .int .u8 (r.y : Int), .int .u8 (r.s : Int), .int .u8 (r.p : Int), .int .u16 (r.pc : Int)] t)) w.heap.size 0 r := by
  have hh := heap_alloc_new w (.cells #[.int .u8 (r.a : Int), .int .u8 (r.x : Int), .int .u8 (r.y : Int), .int .u8 (r.s : Int), .int .u8 (r.p : Int), .int .u16 (r.pc : Int)] t)
  exact ⟨cell_of_row _ _ _ _ _ _ hh, cell_of_row _ _ _ _ _ _ hh, cell_of_row _ _ _ _ _ _ hh, cell_of_row _ _ _ _ _ _ hh, cell_of_row _ _ _ _ _ _ hh, cell_of_row _ _ _ _ _ _ hh, fun _ => frozen_of_row _ _ _ _ _ hh⟩
theorem below_set {n b o : Nat} {w w' : World} {v : Value} (h : Below n w w') (hb : n ≤ b) : Below n w (w'.setCell ⟨b, o, none⟩ v) :=
  ⟨h.os, h.tape, h.output, by have := h.size; simp [World.setCell]; omega, fun k hk => (Below.heap_setCell _ _ _ _ (show k ≠ b by omega)).trans (h.block k hk)⟩
theorem below3 (w : World) (X1 X2 X3 : Obj) : Below w.heap.size w (((w.alloc X1).alloc X2).alloc X3) :=
  (((Below.refl _ w).alloc (Nat.le_refl _) _).alloc (by simp) _).alloc (by simp; omega) _
theorem Turn.new_below {w w' : World} {X1 X2 X3 : Obj} (h : Turn (w.heap.size + 1 + 1) (((w.alloc X1).alloc X2).alloc X3) w') : Below w.heap.size w w' :=
  ⟨h.os, h.tape, h.output, Nat.le_trans (by simp; omega) h.size, fun k hk => (h.block k (by simp; omega) (by omega)).trans ((below3 w X1 X2 X3).block k hk)⟩

set_option maxRecDepth 100000 in
set_option maxHeartbeats 1000000 in
theorem Read (s : ByteArray) (m : Nat) (r : Rg) (hm : m < 256) (w : World) (hr : r.ok) : Calls Tryd.prog 27 #[.string s, .agg (rV r), .int .u8 (m : Int)] w fun e w' => e = .returned (.agg (rV (rd s.toList r m))) ∧ Below w.heap.size w w' := by
  have HN : Hid (∀ X1 X2 t, RAt (((w.alloc X1).alloc X2).alloc (.cells #[.int .u8 (r.a : Int), .int .u8 (r.x : Int), .int .u8 (r.y : Int), .int .u8 (r.s : Int), .int .u8 (r.p : Int), .int .u16 (r.pc : Int)] t)) (w.heap.size + 1 + 1) 0 r) := fun X1 X2 t => by
    have h := RAt.new ((w.alloc X1).alloc X2) r t
    rw [show ((w.alloc X1).alloc X2).heap.size = w.heap.size + 1 + 1 by simp] at h
    exact h
  have HZ : Hid (∀ X1 t X3, RAt (((w.alloc X1).alloc (.cells #[.int .u8 0, .int .u8 0, .int .u8 0, .int .u8 0, .int .u8 0, .int .u16 0] t)).alloc X3) (w.heap.size + 1) 0 ⟨0, 0, 0, 0, 0, 0⟩) := fun X1 t X3 => by
    have h := RAt.new (w.alloc X1) ⟨0, 0, 0, 0, 0, 0⟩ t
    rw [show (w.alloc X1).heap.size = w.heap.size + 1 by simp] at h
    exact h.alloc X3
  unfold rV
  go_enter Tryd.func27, Tryd.ntmps27
  repeat (first | (go_at_call 45; refine (read (w.heap.size + 1 + 1) m s r _ (HN.out _ _ _) hr hm).mono ?_; rintro e w1 ⟨rfl, hR, hT⟩; obtain ⟨g0, g1, g2, g3, g4, g5, gf⟩ := id hR; simp only [Nat.zero_add] at g0 g1 g2 g3 g4 g5; have Z := RAt.turn (HZ.out _ _ _) hT (by omega); have z0 : w1.cell? ⟨w.heap.size + 1, 0, none⟩ = some (.int .u8 0) := Z.c0; have z1 : w1.cell? ⟨w.heap.size + 1, 1, none⟩ = some (.int .u8 0) := Z.c1; have z2 : w1.cell? ⟨w.heap.size + 1, 2, none⟩ = some (.int .u8 0) := Z.c2; have z3 : w1.cell? ⟨w.heap.size + 1, 3, none⟩ = some (.int .u8 0) := Z.c3; have z4 : w1.cell? ⟨w.heap.size + 1, 4, none⟩ = some (.int .u8 0) := Z.c4; have z5 : w1.cell? ⟨w.heap.size + 1, 5, none⟩ = some (.int .u16 0) := Z.c5; have zf := Z.fz; have HZ1 : Hid (RAt w1 (w.heap.size + 1) 0 ⟨0, 0, 0, 0, 0, 0⟩) := Z; clear Z; dsimp only) | with_reducible refine then_exit ?_ | with_reducible refine inB_ne rfl ?_ | with_reducible refine inB_eq ?_ | with_reducible refine then_normal ?_ | with_reducible refine inB_normal ?_ | with_reducible refine then_ret ?_ | with_reducible refine inB_ret ?_ | go_step)
  generalize hw2 : World.setCell _ _ _ = w2
  have F : RAt w2 (w.heap.size + 1) 0 (rd s.toList r m) := by rw [← hw2]; exact RAt.put5 (RAt.put4 (RAt.put3 (RAt.put2 (RAt.put1 (RAt.put0 HZ1.out _) _) _) _) _) _
  have hB : Below w.heap.size w w2 := by rw [← hw2]; exact below_set (below_set (below_set (below_set (below_set (below_set hT.new_below (by omega)) (by omega)) (by omega)) (by omega)) (by omega)) (by omega)
  clear hw2
  obtain ⟨f0, f1, f2, f3, f4, f5, ff⟩ := F
  simp only [Nat.zero_add] at f1 f2 f3 f4 f5
  exact bodyPost_ret (v := .agg (rV (rd s.toList r m))) (by simp [results, Tryd.results27, go_sem, f0, f1, f2, f3, f4, f5, rV]) rfl ⟨rfl, hB⟩

set_option maxRecDepth 100000 in
set_option maxHeartbeats 1000000 in
theorem Self (s : ByteArray) (r : Rg) (w : World) (hr : r.ok) : Calls Tryd.prog 83 #[.string s, .agg (rV r)] w fun e w' => e = .returned (.agg (rV (sf s.toList r))) ∧ Below w.heap.size w w' := by
  have HN : Hid (∀ X1 X2 t, RAt (((w.alloc X1).alloc X2).alloc (.cells #[.int .u8 (r.a : Int), .int .u8 (r.x : Int), .int .u8 (r.y : Int), .int .u8 (r.s : Int), .int .u8 (r.p : Int), .int .u16 (r.pc : Int)] t)) (w.heap.size + 1 + 1) 0 r) := fun X1 X2 t => by
    have h := RAt.new ((w.alloc X1).alloc X2) r t
    rw [show ((w.alloc X1).alloc X2).heap.size = w.heap.size + 1 + 1 by simp] at h
    exact h
  have HZ : Hid (∀ X1 t X3, RAt (((w.alloc X1).alloc (.cells #[.int .u8 0, .int .u8 0, .int .u8 0, .int .u8 0, .int .u8 0, .int .u16 0] t)).alloc X3) (w.heap.size + 1) 0 ⟨0, 0, 0, 0, 0, 0⟩) := fun X1 t X3 => by
    have h := RAt.new (w.alloc X1) ⟨0, 0, 0, 0, 0, 0⟩ t
    rw [show (w.alloc X1).heap.size = w.heap.size + 1 by simp] at h
    exact h.alloc X3
  unfold rV
  go_enter Tryd.func83, Tryd.ntmps83
  repeat (first | (go_at_call 100; refine (self (w.heap.size + 1 + 1) s r _ (HN.out _ _ _) hr).mono ?_; rintro e w1 ⟨rfl, hR, hT⟩; obtain ⟨g0, g1, g2, g3, g4, g5, gf⟩ := id hR; simp only [Nat.zero_add] at g0 g1 g2 g3 g4 g5; have Z := RAt.turn (HZ.out _ _ _) hT (by omega); have z0 : w1.cell? ⟨w.heap.size + 1, 0, none⟩ = some (.int .u8 0) := Z.c0; have z1 : w1.cell? ⟨w.heap.size + 1, 1, none⟩ = some (.int .u8 0) := Z.c1; have z2 : w1.cell? ⟨w.heap.size + 1, 2, none⟩ = some (.int .u8 0) := Z.c2; have z3 : w1.cell? ⟨w.heap.size + 1, 3, none⟩ = some (.int .u8 0) := Z.c3; have z4 : w1.cell? ⟨w.heap.size + 1, 4, none⟩ = some (.int .u8 0) := Z.c4; have z5 : w1.cell? ⟨w.heap.size + 1, 5, none⟩ = some (.int .u16 0) := Z.c5; have zf := Z.fz; have HZ1 : Hid (RAt w1 (w.heap.size + 1) 0 ⟨0, 0, 0, 0, 0, 0⟩) := Z; clear Z; dsimp only) | with_reducible refine then_exit ?_ | with_reducible refine inB_ne rfl ?_ | with_reducible refine inB_eq ?_ | with_reducible refine then_normal ?_ | with_reducible refine inB_normal ?_ | with_reducible refine then_ret ?_ | with_reducible refine inB_ret ?_ | go_step)
  generalize hw2 : World.setCell _ _ _ = w2
  have F : RAt w2 (w.heap.size + 1) 0 (sf s.toList r) := by rw [← hw2]; exact RAt.put5 (RAt.put4 (RAt.put3 (RAt.put2 (RAt.put1 (RAt.put0 HZ1.out _) _) _) _) _) _
  have hB : Below w.heap.size w w2 := by rw [← hw2]; exact below_set (below_set (below_set (below_set (below_set (below_set hT.new_below (by omega)) (by omega)) (by omega)) (by omega)) (by omega)) (by omega)
  clear hw2
  obtain ⟨f0, f1, f2, f3, f4, f5, ff⟩ := F
  simp only [Nat.zero_add] at f1 f2 f3 f4 f5
  exact bodyPost_ret (v := .agg (rV (sf s.toList r))) (by simp [results, Tryd.results83, go_sem, f0, f1, f2, f3, f4, f5, rV]) rfl ⟨rfl, hB⟩

set_option maxRecDepth 100000 in
set_option maxHeartbeats 1000000 in
theorem TurnX (s : ByteArray) (m : Nat) (r : Rg) (hm : m < 256) (w : World) (hr : r.ok) : Calls Tryd.prog 30 #[.string s, .agg (rV r), .int .u8 (m : Int)] w fun e w' => e = .returned (.tuple #[.int .u8 ((tuV s.toList r m : Nat) : Int), .agg (rV (tuR s.toList r m))]) ∧ Below w.heap.size w w' := by
  have HN : Hid (∀ X1 X2 t, RAt (((w.alloc X1).alloc X2).alloc (.cells #[.int .u8 (r.a : Int), .int .u8 (r.x : Int), .int .u8 (r.y : Int), .int .u8 (r.s : Int), .int .u8 (r.p : Int), .int .u16 (r.pc : Int)] t)) (w.heap.size + 1 + 1) 0 r) := fun X1 X2 t => by
    have h := RAt.new ((w.alloc X1).alloc X2) r t
    rw [show ((w.alloc X1).alloc X2).heap.size = w.heap.size + 1 + 1 by simp] at h
    exact h
  have HZ : Hid (∀ X1 t X3, RAt (((w.alloc X1).alloc (.cells #[.int .u8 0, .int .u8 0, .int .u8 0, .int .u8 0, .int .u8 0, .int .u16 0] t)).alloc X3) (w.heap.size + 1) 0 ⟨0, 0, 0, 0, 0, 0⟩) := fun X1 t X3 => by
    have h := RAt.new (w.alloc X1) ⟨0, 0, 0, 0, 0, 0⟩ t
    rw [show (w.alloc X1).heap.size = w.heap.size + 1 by simp] at h
    exact h.alloc X3
  unfold rV
  go_enter Tryd.func30, Tryd.ntmps30
  repeat (first | (go_at_call 47; refine (turn (w.heap.size + 1 + 1) m s r _ (HN.out _ _ _) hr hm).mono ?_; rintro e w1 ⟨rfl, hR, hT⟩; obtain ⟨g0, g1, g2, g3, g4, g5, gf⟩ := id hR; simp only [Nat.zero_add] at g0 g1 g2 g3 g4 g5; have Z := RAt.turn (HZ.out _ _ _) hT (by omega); have z0 : w1.cell? ⟨w.heap.size + 1, 0, none⟩ = some (.int .u8 0) := Z.c0; have z1 : w1.cell? ⟨w.heap.size + 1, 1, none⟩ = some (.int .u8 0) := Z.c1; have z2 : w1.cell? ⟨w.heap.size + 1, 2, none⟩ = some (.int .u8 0) := Z.c2; have z3 : w1.cell? ⟨w.heap.size + 1, 3, none⟩ = some (.int .u8 0) := Z.c3; have z4 : w1.cell? ⟨w.heap.size + 1, 4, none⟩ = some (.int .u8 0) := Z.c4; have z5 : w1.cell? ⟨w.heap.size + 1, 5, none⟩ = some (.int .u16 0) := Z.c5; have zf := Z.fz; have HZ1 : Hid (RAt w1 (w.heap.size + 1) 0 ⟨0, 0, 0, 0, 0, 0⟩) := Z; clear Z; dsimp only) | with_reducible refine then_exit ?_ | with_reducible refine inB_ne rfl ?_ | with_reducible refine inB_eq ?_ | with_reducible refine then_normal ?_ | with_reducible refine inB_normal ?_ | with_reducible refine then_ret ?_ | with_reducible refine inB_ret ?_ | go_step)
  go_region
  all_goals repeat (first | with_reducible refine then_exit ?_ | with_reducible refine inB_ne rfl ?_ | with_reducible refine inB_eq ?_ | with_reducible refine then_normal ?_ | with_reducible refine inB_normal ?_ | with_reducible refine then_ret ?_ | with_reducible refine inB_ret ?_ | go_step)
  all_goals
    generalize hw2 : World.drew _ = w2
    have F : RAt w2 (w.heap.size + 1) 0 (tuR s.toList r m) := by rw [← hw2]; exact (RAt.put5 (RAt.put4 (RAt.put3 (RAt.put2 (RAt.put1 (RAt.put0 HZ1.out _) _) _) _) _) _).draws 1
    have hB : Below w.heap.size w w2 := by rw [← hw2]; refine below_drewN (n := 1) ?_; exact below_set (below_set (below_set (below_set (below_set (below_set hT.new_below (by omega)) (by omega)) (by omega)) (by omega)) (by omega)) (by omega)
    clear hw2
    obtain ⟨f0, f1, f2, f3, f4, f5, ff⟩ := F
    simp only [Nat.zero_add] at f1 f2 f3 f4 f5
    exact bodyPost_ret (v := .tuple #[.int .u8 ((tuV s.toList r m : Nat) : Int), .agg (rV (tuR s.toList r m))]) (by simp [results, Tryd.results30, go_sem, f0, f1, f2, f3, f4, f5, rV]) rfl ⟨rfl, hB⟩

set_option maxRecDepth 100000 in
set_option maxHeartbeats 1000000 in
theorem Store (s : ByteArray) (m : Nat) (r : Rg) (hm : m < 256) (w : World) (hr : r.ok) : Calls Tryd.prog 29 #[.string s, .agg (rV r), .int .u8 (m : Int)] w fun e w' => e = .returned (.tuple #[.int .u8 ((stV s.toList r ((m + 1) % 256) : Nat) : Int), .agg (rV (stR s.toList r))]) ∧ Below w.heap.size w w' := by
  have HN : Hid (∀ X1 X2 t, RAt (((w.alloc X1).alloc X2).alloc (.cells #[.int .u8 (r.a : Int), .int .u8 (r.x : Int), .int .u8 (r.y : Int), .int .u8 (r.s : Int), .int .u8 (r.p : Int), .int .u16 (r.pc : Int)] t)) (w.heap.size + 1 + 1) 0 r) := fun X1 X2 t => by
    have h := RAt.new ((w.alloc X1).alloc X2) r t
    rw [show ((w.alloc X1).alloc X2).heap.size = w.heap.size + 1 + 1 by simp] at h
    exact h
  have HZ : Hid (∀ X1 t X3, RAt (((w.alloc X1).alloc (.cells #[.int .u8 0, .int .u8 0, .int .u8 0, .int .u8 0, .int .u8 0, .int .u16 0] t)).alloc X3) (w.heap.size + 1) 0 ⟨0, 0, 0, 0, 0, 0⟩) := fun X1 t X3 => by
    have h := RAt.new (w.alloc X1) ⟨0, 0, 0, 0, 0, 0⟩ t
    rw [show (w.alloc X1).heap.size = w.heap.size + 1 by simp] at h
    exact h.alloc X3
  have HO : Hid (IntKind.u8.wrap ((m : Int) + 1) = (((m + 1) % 256 : Nat) : Int)) := by show _ = _; rw [IntKind.wrap_u8]; omega
  have HO2 : Hid (((m : Int) + 1) % 256 = (((m + 1) % 256 : Nat) : Int)) := by show _ = _; omega
  unfold rV
  go_enter Tryd.func29, Tryd.ntmps29
  repeat (first | (go_at_call 46; (first | rw [HO.out] | rw [HO2.out]); refine (store (w.heap.size + 1 + 1) ((m + 1) % 256) s r _ (HN.out _ _ _) hr (by omega)).mono ?_; rintro e w1 ⟨rfl, hR, hT⟩; obtain ⟨g0, g1, g2, g3, g4, g5, gf⟩ := id hR; simp only [Nat.zero_add] at g0 g1 g2 g3 g4 g5; have Z := RAt.turn (HZ.out _ _ _) hT (by omega); have z0 : w1.cell? ⟨w.heap.size + 1, 0, none⟩ = some (.int .u8 0) := Z.c0; have z1 : w1.cell? ⟨w.heap.size + 1, 1, none⟩ = some (.int .u8 0) := Z.c1; have z2 : w1.cell? ⟨w.heap.size + 1, 2, none⟩ = some (.int .u8 0) := Z.c2; have z3 : w1.cell? ⟨w.heap.size + 1, 3, none⟩ = some (.int .u8 0) := Z.c3; have z4 : w1.cell? ⟨w.heap.size + 1, 4, none⟩ = some (.int .u8 0) := Z.c4; have z5 : w1.cell? ⟨w.heap.size + 1, 5, none⟩ = some (.int .u16 0) := Z.c5; have zf := Z.fz; have HZ1 : Hid (RAt w1 (w.heap.size + 1) 0 ⟨0, 0, 0, 0, 0, 0⟩) := Z; clear Z; dsimp only) | with_reducible refine then_exit ?_ | with_reducible refine inB_ne rfl ?_ | with_reducible refine inB_eq ?_ | with_reducible refine then_normal ?_ | with_reducible refine inB_normal ?_ | with_reducible refine then_ret ?_ | with_reducible refine inB_ret ?_ | go_step)
  go_region
  all_goals repeat (first | with_reducible refine then_exit ?_ | with_reducible refine inB_ne rfl ?_ | with_reducible refine inB_eq ?_ | with_reducible refine then_normal ?_ | with_reducible refine inB_normal ?_ | with_reducible refine then_ret ?_ | with_reducible refine inB_ret ?_ | go_step)
  all_goals
    generalize hw2 : World.drew _ = w2
    have F : RAt w2 (w.heap.size + 1) 0 (stR s.toList r) := by rw [← hw2]; exact (RAt.put5 (RAt.put4 (RAt.put3 (RAt.put2 (RAt.put1 (RAt.put0 HZ1.out _) _) _) _) _) _).draws 1
    have hB : Below w.heap.size w w2 := by rw [← hw2]; refine below_drewN (n := 1) ?_; exact below_set (below_set (below_set (below_set (below_set (below_set hT.new_below (by omega)) (by omega)) (by omega)) (by omega)) (by omega)) (by omega)
    clear hw2
    obtain ⟨f0, f1, f2, f3, f4, f5, ff⟩ := F
    simp only [Nat.zero_add] at f1 f2 f3 f4 f5
    exact bodyPost_ret (v := .tuple #[.int .u8 ((stV s.toList r ((m + 1) % 256) : Nat) : Int), .agg (rV (stR s.toList r))]) (by simp [results, Tryd.results29, go_sem, f0, f1, f2, f3, f4, f5, rV]) rfl ⟨rfl, hB⟩

end Go.Proofs.YtelmohajdmcnmaaDoor.Ex
