/- How many cycles a code takes, by the document. -/
import Derived.Test.YtcbfhjgdnffjlaaDoorRefC7
namespace Go.Proofs.YtcbfhjgdnffjlaaDoor.Co
open Go.RowKit

theorem atR (m : Nat) (h : m ≤ 10) : (#[.int .i64 2, .int .i64 2, .int .i64 2, .int .i64 3, .int .i64 4, .int .i64 4, .int .i64 4, .int .i64 4, .int .i64 4, .int .i64 6, .int .i64 5, .int .i64 2, .int .i64 0] : Array Value)[m]? = some (.int .i64 (readV.getD m 0)) := by
  rcases (show m = 0 ∨ m = 1 ∨ m = 2 ∨ m = 3 ∨ m = 4 ∨ m = 5 ∨ m = 6 ∨ m = 7 ∨ m = 8 ∨ m = 9 ∨ m = 10 by omega) with rfl | rfl | rfl | rfl | rfl | rfl | rfl | rfl | rfl | rfl | rfl
  all_goals rfl
theorem atS (m : Nat) (h : m ≤ 10) : (#[.int .i64 0, .int .i64 0, .int .i64 0, .int .i64 3, .int .i64 4, .int .i64 4, .int .i64 4, .int .i64 5, .int .i64 5, .int .i64 6, .int .i64 6, .int .i64 0, .int .i64 0] : Array Value)[m]? = some (.int .i64 (storeV.getD m 0)) := by
  rcases (show m = 0 ∨ m = 1 ∨ m = 2 ∨ m = 3 ∨ m = 4 ∨ m = 5 ∨ m = 6 ∨ m = 7 ∨ m = 8 ∨ m = 9 ∨ m = 10 by omega) with rfl | rfl | rfl | rfl | rfl | rfl | rfl | rfl | rfl | rfl | rfl
  all_goals rfl
theorem atT (m : Nat) (h : m ≤ 10) (h0 : m ≠ 0) (h2 : m ≠ 2) : (#[.int .i64 0, .int .i64 2, .int .i64 0, .int .i64 5, .int .i64 6, .int .i64 6, .int .i64 6, .int .i64 7, .int .i64 7, .int .i64 8, .int .i64 8, .int .i64 0, .int .i64 0] : Array Value)[m]? = some (.int .i64 (turnV.getD m 0)) := by
  rcases (show m = 1 ∨ m = 3 ∨ m = 4 ∨ m = 5 ∨ m = 6 ∨ m = 7 ∨ m = 8 ∨ m = 9 ∨ m = 10 by omega) with rfl | rfl | rfl | rfl | rfl | rfl | rfl | rfl | rfl
  all_goals rfl

theorem sizeInt (w : World) : (sizeOf 3).run Tryd.prog w = .ok 1 w := by
  have h : (Tryd.prog.info? 3).map (·.size) = some 1 := by kernel_rfl
  obtain ⟨i, h1, h2⟩ := Option.map_eq_some_iff.1 h
  rw [run_sizeOf w h1, show Tryd.prog.cellsOf 3 = 1 by kernel_rfl]
theorem aggInt (w : World) : (isAgg 3).run Tryd.prog w = .ok false w := run_isAgg_plain Tryd.underlying3 rfl w
/-- The cycles of the other kinds. -/
def otherV (k : Int) : Int := if k = 4 then 2 else if k = 5 then 3 else if k = 6 then 4 else if k = 7 then 3 else if k = 8 ∨ k = 9 ∨ k = 10 then 6 else if k = 11 then 7 else 0
theorem other_cyc (k : Int) (m : Nat) (h4 : 4 ≤ k) (h12 : k ≤ 12) (h7 : k ≠ 7) : otherV k = cycF k m := by
  rcases (show k = 4 ∨ k = 5 ∨ k = 6 ∨ k = 8 ∨ k = 9 ∨ k = 10 ∨ k = 11 ∨ k = 12 by omega) with rfl | rfl | rfl | rfl | rfl | rfl | rfl | rfl
  all_goals rfl
theorem atK (w : World) (k : Int) (h0 : 0 ≤ k) (h1 : k ≤ 12) : (Instr.index 51 (.agg #[.int .i64 0, .int .i64 0, .int .i64 0, .int .i64 0, .int .i64 2, .int .i64 3, .int .i64 4, .int .i64 3, .int .i64 6, .int .i64 6, .int .i64 6, .int .i64 7, .int .i64 0]) (.int .i64 k)).run Tryd.prog w = .ok (.int .i64 (otherV k)) w := by
  rcases (show k = 0 ∨ k = 1 ∨ k = 2 ∨ k = 3 ∨ k = 4 ∨ k = 5 ∨ k = 6 ∨ k = 7 ∨ k = 8 ∨ k = 9 ∨ k = 10 ∨ k = 11 ∨ k = 12 by omega) with rfl | rfl | rfl | rfl | rfl | rfl | rfl | rfl | rfl | rfl | rfl | rfl | rfl
  · exact run_index_array w 51 3 13 _ .i64 0 _ Tryd.underlying51 sizeInt aggInt (by decide) rfl
  · exact run_index_array w 51 3 13 _ .i64 1 _ Tryd.underlying51 sizeInt aggInt (by decide) rfl
  · exact run_index_array w 51 3 13 _ .i64 2 _ Tryd.underlying51 sizeInt aggInt (by decide) rfl
  · exact run_index_array w 51 3 13 _ .i64 3 _ Tryd.underlying51 sizeInt aggInt (by decide) rfl
  · exact run_index_array w 51 3 13 _ .i64 4 _ Tryd.underlying51 sizeInt aggInt (by decide) rfl
  · exact run_index_array w 51 3 13 _ .i64 5 _ Tryd.underlying51 sizeInt aggInt (by decide) rfl
  · exact run_index_array w 51 3 13 _ .i64 6 _ Tryd.underlying51 sizeInt aggInt (by decide) rfl
  · exact run_index_array w 51 3 13 _ .i64 7 _ Tryd.underlying51 sizeInt aggInt (by decide) rfl
  · exact run_index_array w 51 3 13 _ .i64 8 _ Tryd.underlying51 sizeInt aggInt (by decide) rfl
  · exact run_index_array w 51 3 13 _ .i64 9 _ Tryd.underlying51 sizeInt aggInt (by decide) rfl
  · exact run_index_array w 51 3 13 _ .i64 10 _ Tryd.underlying51 sizeInt aggInt (by decide) rfl
  · exact run_index_array w 51 3 13 _ .i64 11 _ Tryd.underlying51 sizeInt aggInt (by decide) rfl
  · exact run_index_array w 51 3 13 _ .i64 12 _ Tryd.underlying51 sizeInt aggInt (by decide) rfl

set_option maxRecDepth 100000 in
set_option maxHeartbeats 40000000 in
theorem RCycles (op : Nat) (j : Int) (w : World) (h : op < 256) (hj : j = (op : Int)) : Calls Tryd.prog 12 #[.int .i64 j] w fun e w' => e = .returned (.int .i64 (cycF (kindN op) (modeN op))) ∧ Below w.heap.size w w' := by
  have HO : Hid (∀ w, Calls Tryd.prog 8 #[.int .i64 j] w fun e w' => e = .returned (.agg #[.string (nameB op), .int .i64 (modeN op : Int), .int .i64 (kindN op), .bool (knownB op)]) ∧ Below w.heap.size w w') := fun w => ROfS op j w h hj
  have hl := modeN_le op
  have HS := sound op h
  have HC := sounds op h
  unfold soundB at HS
  unfold soundC at HC
  have HJ : ((nameB op).toList == [74, 77, 80]) = decide (bl (nameB op) = [74, 77, 80]) := by rw [bl_eq, Bool.eq_iff_iff]; simp
  clear hj
  generalize modeN op = m at HO hl HS HC
  generalize kindN op = k at HO HS HC
  generalize nameB op = n at HO HC HJ
  generalize knownB op = kn at HO
  simp only [Bool.and_eq_true, Bool.or_eq_true, decide_eq_true_eq, beq_iff_eq] at HS HC
  obtain ⟨⟨hk0, hk1⟩, hkm⟩ := HS
  obtain ⟨hc1, hc2⟩ := HC
  rw [hc2] at HJ
  clear hc2
  by_cases h4 : 4 ≤ k
  · have hI := fun w => atK w k (by omega) hk1
    have h1 : ¬ k ≤ 1 := by omega
    have h2 : (k == 2) = false := by simp; omega
    have h3 : (k == 3) = false := by simp; omega
    by_cases h7 : k = 7
    · subst h7
      have hJ : (n.toList == [74, 77, 80]) = true := HJ
      clear HJ
      by_cases hm : m = 12
      · subst hm
        go_enter Tryd.func12, Tryd.ntmps12
        go_wp2_with (go_at_call 8; refine (HO.out _).mono ?_; rintro e w2 ⟨rfl, hB2⟩)
        go_ret
        exact ⟨rfl, below4' hB2 _ _ _ _⟩
      · have hm2 : ((m : Int) == 12) = false := by simp; omega
        have HM : Hid (¬ m = 12) := hm
        clear hm
        go_enter Tryd.func12, Tryd.ntmps12
        go_wp2_with (go_at_call 8; refine (HO.out _).mono ?_; rintro e w2 ⟨rfl, hB2⟩)
        go_ret
        exact ⟨ret_int (by simp [cycF, HM.out, otherV]), below4' hB2 _ _ _ _⟩
    · have hJ : (n.toList == [74, 77, 80]) = false := by rw [HJ]; exact decide_eq_false h7
      have HX : Hid (otherV k = cycF k m) := other_cyc k m h4 hk1 h7
      clear HJ
      go_enter Tryd.func12, Tryd.ntmps12
      go_wp2_with (go_at_call 8; refine (HO.out _).mono ?_; rintro e w2 ⟨rfl, hB2⟩)
      go_ret
      exact ⟨ret_int HX.out, below4' hB2 _ _ _ _⟩
  · have hJ : (n.toList == [74, 77, 80]) = false := by rw [HJ]; exact decide_eq_false (by omega)
    clear HJ
    have hm10 : m ≤ 10 := by omega
    rcases (show k = 0 ∨ k = 1 ∨ k = 2 ∨ k = 3 by omega) with rfl | rfl | rfl | rfl
    · have hA := atR m hm10
      go_enter Tryd.func12, Tryd.ntmps12
      go_wp2_with (go_at_call 8; refine (HO.out _).mono ?_; rintro e w2 ⟨rfl, hB2⟩)
      go_ret
      exact ⟨ret_int (by simp [cycF]), below4' hB2 _ _ _ _⟩
    · have hA := atR m hm10
      go_enter Tryd.func12, Tryd.ntmps12
      go_wp2_with (go_at_call 8; refine (HO.out _).mono ?_; rintro e w2 ⟨rfl, hB2⟩)
      go_ret
      exact ⟨ret_int (by simp [cycF]), below4' hB2 _ _ _ _⟩
    · have hA := atS m hm10
      go_enter Tryd.func12, Tryd.ntmps12
      go_wp2_with (go_at_call 8; refine (HO.out _).mono ?_; rintro e w2 ⟨rfl, hB2⟩)
      go_ret
      exact ⟨ret_int (by simp [cycF]), below4' hB2 _ _ _ _⟩
    · have hA := atT m hm10 (by omega) (by omega)
      go_enter Tryd.func12, Tryd.ntmps12
      go_wp2_with (go_at_call 8; refine (HO.out _).mono ?_; rintro e w2 ⟨rfl, hB2⟩)
      go_ret
      exact ⟨ret_int (by simp [cycF]), below4' hB2 _ _ _ _⟩

end Go.Proofs.YtcbfhjgdnffjlaaDoor.Co
