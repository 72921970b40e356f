/- RiotNil, walked: whatever comes in, true comes out. -/
import Derived.Test.YtgclgegdojnpcaaDoorBox
import Derived.Test.YtgclgegdojnpcaaDoorArrEq
namespace Go.Proofs.YtgclgegdojnpcaaDoor.riotNil
open Go.RowKit Po Ri

set_option maxHeartbeats 400000 in
theorem Tick_nil (w : World) : Calls Tryd.prog 18 #[.pointer none] w fun e w' => e = .returned (.tuple #[]) ∧ w' = w := by
  go_enter Tryd.func18, Tryd.ntmps18
  go_wp2
  go_returns
  exact ⟨rfl, rfl⟩

set_option maxHeartbeats 400000 in
theorem In_nil (a b : Int) (w : World) : Calls Tryd.prog 19 #[.pointer none, .int .u8 a, .int .u8 b] w fun e w' => e = .returned (.tuple #[]) ∧ w' = w := by
  go_enter Tryd.func19, Tryd.ntmps19
  go_wp2
  go_returns
  exact ⟨rfl, rfl⟩

set_option maxHeartbeats 400000 in
theorem Store_nil (a b : Int) (w : World) : Calls Tryd.prog 20 #[.pointer none, .int .u16 a, .int .u8 b] w fun e w' => e = .returned (.tuple #[]) ∧ w' = w := by
  go_enter Tryd.func20, Tryd.ntmps20
  go_wp2
  go_returns
  exact ⟨rfl, rfl⟩

set_option maxHeartbeats 400000 in
theorem Read_nil (a : Int) (w : World) : Calls Tryd.prog 21 #[.pointer none, .int .u16 a] w fun e w' => e = .returned (.int .u8 0) ∧ w' = w := by
  go_enter Tryd.func21, Tryd.ntmps21
  go_wp2
  go_returns
  exact ⟨rfl, rfl⟩

set_option maxHeartbeats 400000 in
theorem Timer_nil (w : World) : Calls Tryd.prog 14 #[.pointer none] w fun e w' => e = .returned (.int .u8 0) ∧ w' = w := by
  go_enter Tryd.func14, Tryd.ntmps14
  go_wp2
  go_returns
  exact ⟨rfl, rfl⟩

set_option maxHeartbeats 400000 in
theorem Words_nil (w : World) : Calls Tryd.prog 12 #[.pointer none] w fun e w' => e = .returned (.slice none 0 0) ∧ w' = w := by
  go_enter Tryd.func12, Tryd.ntmps12
  go_wp2
  go_returns
  exact ⟨rfl, rfl⟩

set_option maxHeartbeats 400000 in
theorem Set_nil (ao : Option Addr) (n cap : Nat) (w : World) : Calls Tryd.prog 22 #[.pointer none, .slice ao n cap] w fun e w' => e = .returned (.int .i64 1) ∧ w' = w := by
  go_enter Tryd.func22, Tryd.ntmps22
  go_wp2
  go_returns
  exact ⟨rfl, rfl⟩

set_option maxHeartbeats 400000 in
theorem Copy_nil (w : World) : Calls Tryd.prog 17 #[.pointer none] w fun e w' => e = .returned (.pointer none) ∧ w' = w := by
  go_enter Tryd.func17, Tryd.ntmps17
  go_wp2
  go_returns
  exact ⟨rfl, rfl⟩

theorem infoInt : ∃ i, Tryd.prog.info? 3 = some i ∧ i.zero = some (.int .i64 0) ∧ i.size = 1 ∧ i.bytes = 8 := by
  have h : (Tryd.prog.info? 3).map (fun i => (i.zero, i.size, i.bytes)) = some (some (.int .i64 0), 1, 8) := by kernel_rfl
  obtain ⟨i, h1, h2⟩ := Option.map_eq_some_iff.1 h
  simp only [Prod.mk.injEq] at h2
  exact ⟨i, h1, h2.1, h2.2.1, h2.2.2⟩
theorem make142 (w : World) : (Instr.makeSlice 41 (.int .i64 142) (.int .i64 142)).run Tryd.prog w = .ok (.slice (some ⟨w.heap.size, 0, none⟩) 142 142) (w.alloc (.cells (madeCells (Value.int .i64 0).cells 142) 3)) := by
  obtain ⟨i, h1, h2, h3, h4⟩ := infoInt
  have := run_make (P := Tryd.prog) w 41 3 i _ Tryd.underlying41 h1 h2 .i64 .i64 142 142 (by decide) (by decide) (by rw [h4]; decide) (by decide)
  rw [h3] at this
  exact this
theorem ram_self (l : List Int) (hl : l.length = 128) (w : World) : (Op.equalIn 10000 22 (.agg (Ri.bytes l).toArray) (.agg (Ri.bytes l).toArray)).run Tryd.prog w = .ok true w :=
  equal_self (P := Tryd.prog) (t := 22) (e := 5) Tryd.underlying22 (by kernel_rfl) (by kernel_rfl) Tryd.underlying5 _ (fun j hj => ⟨.u8, l[j]'(by omega), by simp [Ri.bytes, hl, hj]⟩) w

set_option maxRecDepth 100000 in
set_option maxHeartbeats 1000000 in
theorem walk (a0 a1 a2 a3 a4 : Int) (W : World) (ht : Tm.Tab W) :
    Calls Tryd.prog 6 #[.agg #[.int .i64 a0, .int .u16 a1, .int .u16 a2, .int .u8 a3, .int .u8 a4]] W fun e w' => e = .returned (.bool true) ∧ Below W.heap.size W w' := by
  have HT : Hid (Tm.Tab W) := ht
  have heq := ram_self zer rfl
  have hz := zero128
  have hmk := make142
  clear ht
  go_enter Tryd.func6, Tryd.ntmps6
  go_wp2_with (go_at_call 18; fail)
  generalize hw1 : W.alloc _ = w1
  have HB1 : Hid (Below W.heap.size W w1) := (by rw [← hw1]; exact (Below.refl _ _).alloc (Nat.le_refl _) _ : Below W.heap.size W w1)
  have hS : w1.heap[W.heap.size]? = some (.cells #[.int .i64 a0, .int .u16 a1, .int .u16 a2, .int .u8 a3, .int .u8 a4] 38 (0, 0)) := by rw [← hw1]; exact heap_alloc_new _ _
  have x2 := cell_of_row _ _ 2 _ _ _ hS
  have x3 := cell_of_row _ _ 3 _ _ _ hS
  have x4 := cell_of_row _ _ 4 _ _ _ hS
  simp at x2 x3 x4
  clear hw1 hS
  refine (Tick_nil _).mono ?_
  rintro e w2 ⟨rfl, hw2⟩
  rw [hw2]
  clear hw2 w2
  go_wp2_with (first
    | (go_at_call 19; refine (In_nil _ _ _).mono ?_; rintro e w2 ⟨rfl, hw2⟩; rw [hw2]; clear hw2 w2)
    | (go_at_call 20; refine (Store_nil _ _ _).mono ?_; rintro e w2 ⟨rfl, hw2⟩; rw [hw2]; clear hw2 w2)
    | (go_at_call 21; refine (Read_nil _ _).mono ?_; rintro e w2 ⟨rfl, hw2⟩; rw [hw2]; clear hw2 w2)
    | (go_at_call 10; fail))
  refine (Ri.Ram_nil _).mono ?_
  rintro e w3 ⟨rfl, hB3⟩
  have HB3 : Hid (Below W.heap.size W w3) := HB1.out.trans (hB3.mono HB1.out.size)
  clear hB3 HB1 x2 x3 x4
  go_wp2_with (first
    | (go_at_call 14; refine (Timer_nil _).mono ?_; rintro e w2 ⟨rfl, hw2⟩; rw [hw2]; clear hw2 w2)
    | (go_at_call 12; refine (Words_nil _).mono ?_; rintro e w2 ⟨rfl, hw2⟩; rw [hw2]; clear hw2 w2)
    | (go_at_call 22; fail))
  refine (Set_nil _ _ _ _).mono ?_
  rintro e w4 ⟨rfl, hw4⟩
  have HB4 : Hid (Below W.heap.size W w4) := (by rw [hw4]; exact HB3.out.trans ((Below.refl _ _).alloc HB3.out.size _) : Below W.heap.size W w4)
  clear hw4 HB3
  go_wp2_with (first
    | (go_at_call 17; refine (Copy_nil _).mono ?_; rintro e w2 ⟨rfl, hw2⟩; rw [hw2]; clear hw2 w2)
    | (go_at_call 15; refine (awake8 _ (HT.out.below HB4.out HT.out.lt)).mono ?_; rintro e w5 ⟨rfl, hB5⟩))
  go_returns
  exact ⟨rfl, HB4.out.trans (hB5.mono HB4.out.size)⟩

end Go.Proofs.YtgclgegdojnpcaaDoor.riotNil
