/- MotionNil, walked: whatever comes in, true comes out. -/
import Derived.Test.YtkondnlilkpdoaaAwakeM
import Derived.Test.YtkondnlilkpdoaaArrEq
import Derived.Test.YtkondnlilkpdoaaFrame
set_option linter.unusedVariables false
namespace Go.Proofs.Ytkondnlilkpdoaa.Mo
open Go.RowKit

theorem words_self (x y z : Int) (w : World) : (Op.equalIn 10000 30 (.agg #[.int .i64 x, .int .i64 y, .int .i64 z]) (.agg #[.int .i64 x, .int .i64 y, .int .i64 z])).run Try.prog w = .ok true w :=
  equal_self (P := Try.prog) (t := 30) (e := 3) Try.underlying30 (by kernel_rfl) (by kernel_rfl) Try.underlying3 _ (fun j hj => by
    match j, hj with
    | 0, _ => exact ⟨_, _, rfl⟩
    | 1, _ => exact ⟨_, _, rfl⟩
    | 2, _ => exact ⟨_, _, rfl⟩) w

theorem eqItemsB {P : Program} (d : Nat) {e : TypeId} (he : P.plainKey e = true) (hu : P.underlying e = some .bool) (xs : Array Value) (c : Nat) (w : World) : ∀ is : List Nat, (∀ j ∈ is, ∃ a, xs[j * c]? = some (.bool a)) → (Op.eqItems (d + 1) e c xs xs is).run P w = .ok true w
  | [], _ => by simp [Op.eqItems]
  | i :: is, h => by
    obtain ⟨a, hx⟩ := h i (by simp)
    have r := eqItemsB d he hu xs c w is (fun j hj => h j (by simp [hj]))
    simp only [Op.eqItems, Sem.run_bind, run_part_plain w he hx, run_equalIn_bool w d e a a hu, Result.andThen_ok]
    simpa using r
theorem bools_self (t0 t1 t2 t3 t4 : Bool) (w : World) : (Op.equalIn 10000 25 (.agg #[.bool t0, .bool t1, .bool t2, .bool t3, .bool t4]) (.agg #[.bool t0, .bool t1, .bool t2, .bool t3, .bool t4])).run Try.prog w = .ok true w := by
  obtain ⟨i, hi⟩ := info_of_underlying (P := Try.prog) Try.underlying4
  rw [run_equalIn_array w 9999 _ _ Try.underlying25 hi, show Try.prog.cellsOf 4 = 1 by kernel_rfl]
  exact eqItemsB 9998 (by kernel_rfl) Try.underlying4 _ 1 w _ (fun j hj => by
    rw [Nat.mul_one]
    have := List.mem_range.1 hj
    rcases (show j = 0 ∨ j = 1 ∨ j = 2 ∨ j = 3 ∨ j = 4 by omega) with rfl | rfl | rfl | rfl | rfl <;> exact ⟨_, rfl⟩)

set_option maxRecDepth 100000 in
set_option maxHeartbeats 400000 in
theorem Step_nil (n0 n1 n2 n3 n4 : Nat) (clock : Int) (w : World) : Calls Try.prog 16 #[.pointer none, .int .i64 clock, .agg #[.int .u8 (n0 : Int), .int .u8 (n1 : Int), .int .u8 (n2 : Int), .int .u8 (n3 : Int), .int .u8 (n4 : Int)]] w fun e w' => e = .returned (.agg #[.bool false, .bool false, .bool false, .bool false, .bool false]) ∧ Below w.heap.size w w' := by
  go_enter Try.func16, Try.ntmps16
  go_wp2_with (go_at_call 20; refine (Busy_nil _).mono ?_; rintro e w1 ⟨rfl, rfl⟩)
  go_returns
  exact ⟨rfl, by go_grown⟩

end Go.Proofs.Ytkondnlilkpdoaa.Mo
namespace Go.Proofs.Ytkondnlilkpdoaa.motionNil
open Go.RowKit Mo

set_option maxRecDepth 100000 in
set_option maxHeartbeats 2000000 in
theorem walk (a0 : Int) (w0 : (Lit.int .i64 a0).wf = true) (W : World) :
    Calls Try.prog 8 #[.int .i64 a0] W fun e w' => e = .returned (.bool true) ∧ Below W.heap.size W w' := by
  have h3 := words_self
  have h5 := bools_self
  go_enter Try.func8, Try.ntmps8
  go_wp2_with (first
    | (go_at_call 11; refine (Strobe_nil _).mono ?_; rintro e w1 ⟨rfl, rfl⟩)
    | (go_at_call 16; refine (Step_nil 0 0 0 0 0 a0 _).mono ?_; rintro e w2 ⟨rfl, hB2⟩)
    | (go_at_call 20; refine (Busy_nil _).mono ?_; rintro e w3 ⟨rfl, rfl⟩)
    | (go_at_call 18; refine (Words_nil _).mono ?_; rintro e w4 ⟨rfl, hB4⟩)
    | (go_at_call 13; refine (Set_nil 0 0 0 _).mono ?_; rintro e w5 ⟨rfl, hB5⟩)
    | (go_at_call 24; refine (Copy_nil _).mono ?_; rintro e w6 ⟨rfl, rfl⟩)
    | (go_at_call 21; refine (awake17 _).mono ?_; rintro e w7 ⟨rfl, hB7⟩))
  go_returns
  exact ⟨rfl, b_keep (b_keep (b_keep hB2 hB4) hB5) hB7⟩

end Go.Proofs.Ytkondnlilkpdoaa.motionNil
