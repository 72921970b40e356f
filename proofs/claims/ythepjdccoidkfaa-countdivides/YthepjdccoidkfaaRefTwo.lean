/- What the document's own answers of the second layer come to. -/
import Derived.Test.YthepjdccoidkfaaRefOne
namespace Go.Proofs.Ythepjdccoidkfaa.Ref2
open Go.RowKit

set_option maxRecDepth 100000 in
set_option maxHeartbeats 1000000 in
theorem Round (i n : Nat) (w : World) (h1 : 1 ≤ n) (h2 : i ≤ 100000) (h3 : n ≤ 100000) : Calls Try.prog 39 #[.int .i64 (i : Int), .int .i64 (n : Int)] w fun e w' =>
    e = .returned (.tuple #[.int .i64 (rndN i n : Int), .bool (rndB i n)]) ∧ ∃ q, w' = w.drewN q := by
  have hn : ¬ (n : Int) = 0 := by omega
  have hn' : ¬ n = 0 := by omega
  have e1 : IntKind.i64.wrap ((i : Int) + 1) = (i : Int) + 1 := IntWalk.i64_in _ (by omega)
  have e2 : ((i : Int) + 1).tmod (n : Int) = (rndN i n : Int) := by
    rw [Int.tmod_eq_emod_of_nonneg (by omega)]; unfold rndN; rw [Int.natCast_emod]; rfl
  have HB : Hid (((rndN i n : Int) == 0) = rndB i n) := by
    show _ = decide (rndN i n = 0)
    rw [Bool.eq_iff_iff, beq_iff_eq, decide_eq_true_iff]; omega
  go_enter Try.func39, Try.ntmps39
  go_wp2
  go_quiet (fail)
  go_wp2
  go_ret2
  trace_state
  exact ⟨by rw [← HB.out]; rfl, _, rfl⟩

set_option maxRecDepth 100000 in
set_option maxHeartbeats 1000000 in
theorem Phase (i n : Nat) (w : World) (h3 : n ≤ 100000) : Calls Try.prog 40 #[.int .i64 (i : Int), .int .i64 (n : Int)] w fun e w' => e = .returned (.int .i64 (phase i n)) ∧ w' = w := by
  by_cases hi : i = 0
  · have HP : Hid (phase i n = 1) := if_pos hi
    have hb : ((i : Int) == 0) = true := beq_iff_eq.2 (by omega)
    clear hi
    go_enter Try.func40, Try.ntmps40
    go_wp2
    go_ret
    exact ⟨ret_int HP.out.symm, rfl⟩
  · have hb : ((i : Int) == 0) = false := beq_eq_false_iff_ne.2 (by omega)
    by_cases hh : i = n / 2
    · have HP : Hid (phase i n = 2) := by show (if i = 0 then 1 else if i = n / 2 then 2 else 0) = (2 : Int); rw [if_neg hi, if_pos hh]
      have hc : ((i : Int) == (n : Int) / 2) = true := beq_iff_eq.2 (by omega)
      clear hi hh
      go_enter Try.func40, Try.ntmps40
      go_wp2
      go_ret
      exact ⟨ret_int HP.out.symm, rfl⟩
    · have HP : Hid (phase i n = 0) := by show (if i = 0 then 1 else if i = n / 2 then 2 else 0) = (0 : Int); rw [if_neg hi, if_neg hh]
      have hc : ((i : Int) == (n : Int) / 2) = false := beq_eq_false_iff_ne.2 (by omega)
      clear hi hh
      go_enter Try.func40, Try.ntmps40
      go_wp2
      go_ret
      exact ⟨ret_int HP.out.symm, rfl⟩

end Go.Proofs.Ythepjdccoidkfaa.Ref2
