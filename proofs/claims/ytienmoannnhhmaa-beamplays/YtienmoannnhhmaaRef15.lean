/- The document's own answers of layer 15. -/
import Derived.Test.YtienmoannnhhmaaBeam2
import Derived.Handy
set_option linter.unusedVariables false
namespace Go.Proofs.Ytienmoannnhhmaa.Bm
open Go.RowKit Count

/-- Late behind Begin. -/
def bl (t : Nat) (l : Bool) : Bool := if t = 0 then false else l

set_option maxRecDepth 100000 in
set_option maxHeartbeats 1000000 in
theorem RBegin_yes (l : Bool) (w : World) : Calls Try.prog 16 #[.agg #[.int .i64 0, .bool l]] w fun e w' => e = .returned (.tuple #[.agg #[.int .i64 0, .bool false], .bool true]) ∧ Below w.heap.size w w' := by
  go_enter Try.func16, Try.ntmps16
  go_wp2
  go_returns
  exact ⟨rfl, by go_grown⟩

set_option maxRecDepth 100000 in
set_option maxHeartbeats 1000000 in
theorem RBegin_no (t : Nat) (l : Bool) (w : World) (ht : t ≠ 0) : Calls Try.prog 16 #[.agg #[.int .i64 (t : Int), .bool l]] w fun e w' => e = .returned (.tuple #[.agg #[.int .i64 (t : Int), .bool l], .bool false]) ∧ Below w.heap.size w w' := by
  have hz : ((t : Int) == 0) = false := beq_eq_false_iff_ne.2 (by omega)
  go_enter Try.func16, Try.ntmps16
  go_wp2
  go_returns
  exact ⟨rfl, by go_grown⟩

set_option maxRecDepth 100000 in
set_option maxHeartbeats 1000000 in
theorem RDark (t : Nat) (l : Bool) (w : World) : Calls Try.prog 17 #[.agg #[.int .i64 (t : Int), .bool l]] w fun e w' => e = .returned (.bool (dark t l)) ∧ Below w.heap.size w w' := by
  by_cases h : t < 68
  · have h' : (t : Int) < 68 := by omega
    have hd : Hid (dark t l = true) := by show _ = _; unfold dark; simp [h]
    clear h
    go_enter Try.func17, Try.ntmps17
    go_wp2
    go_returns
    exact ⟨ret_bool hd.out.symm, by go_grown⟩
  · have h' : ¬ (t : Int) < 68 := by omega
    cases l
    · have hd : Hid (dark t false = false) := by show _ = _; unfold dark; simp [h]
      clear h
      go_enter Try.func17, Try.ntmps17
      go_wp2
      go_returns
      exact ⟨ret_bool hd.out.symm, by go_grown⟩
    · have hd : Hid (dark t true = decide ((t : Int) < 76)) := by show _ = _; unfold dark; simp [h]; omega
      clear h
      go_enter Try.func17, Try.ntmps17
      go_wp2
      go_returns
      exact ⟨ret_bool hd.out.symm, by go_grown⟩

set_option maxRecDepth 100000 in
set_option maxHeartbeats 1000000 in
theorem RPulse (t : Nat) (l : Bool) (w : World) : Calls Try.prog 18 #[.agg #[.int .i64 (t : Int), .bool l]] w fun e w' => e = .returned (.bool (pulse t)) ∧ Below w.heap.size w w' := by
  by_cases h : 20 ≤ t
  · have h' : (20 : Int) ≤ (t : Int) := by omega
    have hd : Hid (pulse t = decide ((t : Int) ≤ 35)) := by show _ = _; unfold pulse; simp [h]; omega
    clear h
    go_enter Try.func18, Try.ntmps18
    go_wp2
    go_returns
    exact ⟨ret_bool hd.out.symm, by go_grown⟩
  · have h' : ¬ (20 : Int) ≤ (t : Int) := by omega
    have hd : Hid (pulse t = false) := by show _ = _; unfold pulse; simp [h]
    clear h
    go_enter Try.func18, Try.ntmps18
    go_wp2
    go_returns
    exact ⟨ret_bool hd.out.symm, by go_grown⟩

set_option maxRecDepth 100000 in
set_option maxHeartbeats 1000000 in
theorem RNext (t : Nat) (l : Bool) (w : World) (ht : t < 228) : Calls Try.prog 19 #[.agg #[.int .i64 (t : Int), .bool l]] w fun e w' => e = .returned (.agg #[.int .i64 (nx t : Int), .bool l]) ∧ Below w.heap.size w w' := by
  have e1 : ((t : Int) + 1) % 228 = (nx t : Int) := by unfold nx; omega
  go_enter Try.func19, Try.ntmps19
  go_wp2
  go_returns
  refine ⟨?_, by go_grown⟩
  first | rfl | (rw [e1]) | (simp [e1])

set_option maxRecDepth 100000 in
set_option maxHeartbeats 1000000 in
theorem RWords (t : Nat) (l : Bool) (w : World) : Calls Try.prog 21 #[.agg #[.int .i64 (t : Int), .bool l]] w fun e w' => e = .returned (.agg #[.int .i64 (t : Int), .int .i64 (if l then 1 else 0)]) ∧ Below w.heap.size w w' := by
  cases l
  all_goals
    go_enter Try.func21, Try.ntmps21
    go_wp2
    go_returns
    exact ⟨rfl, by go_grown⟩

/-- May these be a beam's words? -/
def right (x y : Int) : Bool := decide (0 ≤ x ∧ x < 228 ∧ (y = 0 ∨ y = 1))

set_option maxRecDepth 100000 in
set_option maxHeartbeats 1000000 in
theorem RRight (x y : Int) (w : World) : Calls Try.prog 20 #[.agg #[.int .i64 x, .int .i64 y]] w fun e w' => e = .returned (.bool (right x y)) ∧ Below w.heap.size w w' := by
  by_cases h1 : 0 ≤ x
  · by_cases h2 : x < 228
    · by_cases h3 : y = 0
      · have hd : Hid (right x y = true) := by show _ = _; unfold right; simp [h1, h2, h3]
        have h3' : (y == 0) = true := beq_iff_eq.2 h3
        clear h3
        go_enter Try.func20, Try.ntmps20
        go_wp2
        go_returns
        exact ⟨ret_bool hd.out.symm, by go_grown⟩
      · have hd : Hid (right x y = (y == 1)) := by show _ = _; unfold right; rw [Bool.eq_iff_iff]; simp [h1, h2, h3]
        have h3' : (y == 0) = false := beq_eq_false_iff_ne.2 h3
        clear h3
        go_enter Try.func20, Try.ntmps20
        go_wp2
        go_returns
        exact ⟨ret_bool hd.out.symm, by go_grown⟩
    · have hd : Hid (right x y = false) := by show _ = _; unfold right; simp [h2]
      go_enter Try.func20, Try.ntmps20
      go_wp2
      go_returns
      exact ⟨ret_bool hd.out.symm, by go_grown⟩
  · have hd : Hid (right x y = false) := by show _ = _; unfold right; simp [h1]
    go_enter Try.func20, Try.ntmps20
    go_wp2
    go_returns
    exact ⟨ret_bool hd.out.symm, by go_grown⟩

end Go.Proofs.Ytienmoannnhhmaa.Bm
