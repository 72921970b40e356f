/- The document's own answers of layer 18: Seen. -/
import Derived.Test.YtkondnlilkpdoaaDoorRFl3
set_option linter.unusedVariables false
namespace Go.Proofs.YtkondnlilkpdoaaDoor.Fi
open Go.RowKit

set_option maxRecDepth 100000 in
set_option maxHeartbeats 1000000 in
theorem rs0 (d0 d1 d2 d3 d5 s : Bool) (c : Nat) (x : Int) (w : World) (hc : c ≤ 65535) (hf : bs c 2 = true) (hs : bs c 1 = s) : Calls Tryd.prog 14 #[.agg #[.bool d0, .bool d1, .bool d2, .bool d3, .bool true, .bool d5], .int .i64 (c : Int), .int .i64 x] w fun e w' => e = .returned (.int .i64 2) ∧ Below w.heap.size w w' := by
  have HC : Hid (c ≤ 65535) := hc
  have HF : Hid (bs c 2 = true ∧ bs c 1 = s) := ⟨hf, hs⟩
  clear hc hf hs
  go_enter Tryd.func14, Tryd.ntmps14
  go_wp2_with (go_at_call 26; fail)
  refine (HasB c 2 4 _ rfl (by decide) HC.out).mono ?_
  rintro e w2 ⟨rfl, rfl⟩
  rw [HF.out.1]
  go_wp2_with (go_at_call 26; refine (HasB c 1 2 _ rfl (by decide) HC.out).mono ?_; rintro e w3 ⟨rfl, rfl⟩; rw [HF.out.2])
  go_returns
  exact ⟨rfl, by go_grown⟩

set_option maxRecDepth 100000 in
set_option maxHeartbeats 1000000 in
theorem rs1 (d0 d1 d2 d3 s : Bool) (c : Nat) (x : Int) (w : World) (hc : c ≤ 65535) (hf : bs c 2 = true) (hs : bs c 1 = s) : Calls Tryd.prog 14 #[.agg #[.bool d0, .bool d1, .bool d2, .bool d3, .bool false, .bool true], .int .i64 (c : Int), .int .i64 x] w fun e w' => e = .returned (.int .i64 2) ∧ Below w.heap.size w w' := by
  have HC : Hid (c ≤ 65535) := hc
  have HF : Hid (bs c 2 = true ∧ bs c 1 = s) := ⟨hf, hs⟩
  clear hc hf hs
  go_enter Tryd.func14, Tryd.ntmps14
  go_wp2_with (go_at_call 26; fail)
  refine (HasB c 2 4 _ rfl (by decide) HC.out).mono ?_
  rintro e w2 ⟨rfl, rfl⟩
  rw [HF.out.1]
  go_wp2_with (go_at_call 26; refine (HasB c 1 2 _ rfl (by decide) HC.out).mono ?_; rintro e w3 ⟨rfl, rfl⟩; rw [HF.out.2])
  go_returns
  exact ⟨rfl, by go_grown⟩

set_option maxRecDepth 100000 in
set_option maxHeartbeats 1000000 in
theorem rs2 (d1 d2 d3 s : Bool) (c : Nat) (x : Int) (w : World) (hc : c ≤ 65535) (hf : bs c 2 = true) (hs : bs c 1 = s) : Calls Tryd.prog 14 #[.agg #[.bool true, .bool d1, .bool d2, .bool d3, .bool false, .bool false], .int .i64 (c : Int), .int .i64 x] w fun e w' => e = .returned (.int .i64 0) ∧ Below w.heap.size w w' := by
  have HC : Hid (c ≤ 65535) := hc
  have HF : Hid (bs c 2 = true ∧ bs c 1 = s) := ⟨hf, hs⟩
  clear hc hf hs
  go_enter Tryd.func14, Tryd.ntmps14
  go_wp2_with (go_at_call 26; fail)
  refine (HasB c 2 4 _ rfl (by decide) HC.out).mono ?_
  rintro e w2 ⟨rfl, rfl⟩
  rw [HF.out.1]
  go_wp2_with (go_at_call 26; refine (HasB c 1 2 _ rfl (by decide) HC.out).mono ?_; rintro e w3 ⟨rfl, rfl⟩; rw [HF.out.2])
  go_returns
  exact ⟨rfl, by go_grown⟩

set_option maxRecDepth 100000 in
set_option maxHeartbeats 1000000 in
theorem rs3 (d1 d3 s : Bool) (c : Nat) (x : Int) (w : World) (hc : c ≤ 65535) (hf : bs c 2 = true) (hs : bs c 1 = s) : Calls Tryd.prog 14 #[.agg #[.bool false, .bool d1, .bool true, .bool d3, .bool false, .bool false], .int .i64 (c : Int), .int .i64 x] w fun e w' => e = .returned (.int .i64 0) ∧ Below w.heap.size w w' := by
  have HC : Hid (c ≤ 65535) := hc
  have HF : Hid (bs c 2 = true ∧ bs c 1 = s) := ⟨hf, hs⟩
  clear hc hf hs
  go_enter Tryd.func14, Tryd.ntmps14
  go_wp2_with (go_at_call 26; fail)
  refine (HasB c 2 4 _ rfl (by decide) HC.out).mono ?_
  rintro e w2 ⟨rfl, rfl⟩
  rw [HF.out.1]
  go_wp2_with (go_at_call 26; refine (HasB c 1 2 _ rfl (by decide) HC.out).mono ?_; rintro e w3 ⟨rfl, rfl⟩; rw [HF.out.2])
  go_returns
  exact ⟨rfl, by go_grown⟩

set_option maxRecDepth 100000 in
set_option maxHeartbeats 1000000 in
theorem rs4 (d3 s : Bool) (c : Nat) (x : Int) (w : World) (hc : c ≤ 65535) (hf : bs c 2 = true) (hs : bs c 1 = s) : Calls Tryd.prog 14 #[.agg #[.bool false, .bool true, .bool false, .bool d3, .bool false, .bool false], .int .i64 (c : Int), .int .i64 x] w fun e w' => e = .returned (.int .i64 1) ∧ Below w.heap.size w w' := by
  have HC : Hid (c ≤ 65535) := hc
  have HF : Hid (bs c 2 = true ∧ bs c 1 = s) := ⟨hf, hs⟩
  clear hc hf hs
  go_enter Tryd.func14, Tryd.ntmps14
  go_wp2_with (go_at_call 26; fail)
  refine (HasB c 2 4 _ rfl (by decide) HC.out).mono ?_
  rintro e w2 ⟨rfl, rfl⟩
  rw [HF.out.1]
  go_wp2_with (go_at_call 26; refine (HasB c 1 2 _ rfl (by decide) HC.out).mono ?_; rintro e w3 ⟨rfl, rfl⟩; rw [HF.out.2])
  go_returns
  exact ⟨rfl, by go_grown⟩

set_option maxRecDepth 100000 in
set_option maxHeartbeats 1000000 in
theorem rs5 (s : Bool) (c : Nat) (x : Int) (w : World) (hc : c ≤ 65535) (hf : bs c 2 = true) (hs : bs c 1 = s) : Calls Tryd.prog 14 #[.agg #[.bool false, .bool false, .bool false, .bool true, .bool false, .bool false], .int .i64 (c : Int), .int .i64 x] w fun e w' => e = .returned (.int .i64 1) ∧ Below w.heap.size w w' := by
  have HC : Hid (c ≤ 65535) := hc
  have HF : Hid (bs c 2 = true ∧ bs c 1 = s) := ⟨hf, hs⟩
  clear hc hf hs
  go_enter Tryd.func14, Tryd.ntmps14
  go_wp2_with (go_at_call 26; fail)
  refine (HasB c 2 4 _ rfl (by decide) HC.out).mono ?_
  rintro e w2 ⟨rfl, rfl⟩
  rw [HF.out.1]
  go_wp2_with (go_at_call 26; refine (HasB c 1 2 _ rfl (by decide) HC.out).mono ?_; rintro e w3 ⟨rfl, rfl⟩; rw [HF.out.2])
  go_returns
  exact ⟨rfl, by go_grown⟩

set_option maxRecDepth 100000 in
set_option maxHeartbeats 1000000 in
theorem rs6 (s : Bool) (c : Nat) (x : Int) (w : World) (hc : c ≤ 65535) (hf : bs c 2 = true) (hs : bs c 1 = s) : Calls Tryd.prog 14 #[.agg #[.bool false, .bool false, .bool false, .bool false, .bool false, .bool false], .int .i64 (c : Int), .int .i64 x] w fun e w' => e = .returned (.int .i64 3) ∧ Below w.heap.size w w' := by
  have HC : Hid (c ≤ 65535) := hc
  have HF : Hid (bs c 2 = true ∧ bs c 1 = s) := ⟨hf, hs⟩
  clear hc hf hs
  go_enter Tryd.func14, Tryd.ntmps14
  go_wp2_with (go_at_call 26; fail)
  refine (HasB c 2 4 _ rfl (by decide) HC.out).mono ?_
  rintro e w2 ⟨rfl, rfl⟩
  rw [HF.out.1]
  go_wp2_with (go_at_call 26; refine (HasB c 1 2 _ rfl (by decide) HC.out).mono ?_; rintro e w3 ⟨rfl, rfl⟩; rw [HF.out.2])
  go_returns
  exact ⟨rfl, by go_grown⟩

set_option maxRecDepth 100000 in
set_option maxHeartbeats 1000000 in
theorem rs7 (d1 d2 d3 d4 d5 s : Bool) (c : Nat) (x : Int) (w : World) (hc : c ≤ 65535) (hf : bs c 2 = false) (hs : bs c 1 = s) : Calls Tryd.prog 14 #[.agg #[.bool true, .bool d1, .bool d2, .bool d3, .bool d4, .bool d5], .int .i64 (c : Int), .int .i64 x] w fun e w' => e = .returned (.int .i64 0) ∧ Below w.heap.size w w' := by
  have HC : Hid (c ≤ 65535) := hc
  have HF : Hid (bs c 2 = false ∧ bs c 1 = s) := ⟨hf, hs⟩
  clear hc hf hs
  go_enter Tryd.func14, Tryd.ntmps14
  go_wp2_with (go_at_call 26; fail)
  refine (HasB c 2 4 _ rfl (by decide) HC.out).mono ?_
  rintro e w2 ⟨rfl, rfl⟩
  rw [HF.out.1]
  go_wp2_with (go_at_call 26; refine (HasB c 1 2 _ rfl (by decide) HC.out).mono ?_; rintro e w3 ⟨rfl, rfl⟩; rw [HF.out.2])
  go_returns
  exact ⟨rfl, by go_grown⟩

set_option maxRecDepth 100000 in
set_option maxHeartbeats 1000000 in
theorem rs8 (d1 d3 d4 d5 s : Bool) (c : Nat) (x : Int) (w : World) (hc : c ≤ 65535) (hf : bs c 2 = false) (hs : bs c 1 = s) : Calls Tryd.prog 14 #[.agg #[.bool false, .bool d1, .bool true, .bool d3, .bool d4, .bool d5], .int .i64 (c : Int), .int .i64 x] w fun e w' => e = .returned (.int .i64 0) ∧ Below w.heap.size w w' := by
  have HC : Hid (c ≤ 65535) := hc
  have HF : Hid (bs c 2 = false ∧ bs c 1 = s) := ⟨hf, hs⟩
  clear hc hf hs
  go_enter Tryd.func14, Tryd.ntmps14
  go_wp2_with (go_at_call 26; fail)
  refine (HasB c 2 4 _ rfl (by decide) HC.out).mono ?_
  rintro e w2 ⟨rfl, rfl⟩
  rw [HF.out.1]
  go_wp2_with (go_at_call 26; refine (HasB c 1 2 _ rfl (by decide) HC.out).mono ?_; rintro e w3 ⟨rfl, rfl⟩; rw [HF.out.2])
  go_returns
  exact ⟨rfl, by go_grown⟩

set_option maxRecDepth 100000 in
set_option maxHeartbeats 1000000 in
theorem rs9 (d3 d4 d5 s : Bool) (c : Nat) (x : Int) (w : World) (hc : c ≤ 65535) (hf : bs c 2 = false) (hs : bs c 1 = s) : Calls Tryd.prog 14 #[.agg #[.bool false, .bool true, .bool false, .bool d3, .bool d4, .bool d5], .int .i64 (c : Int), .int .i64 x] w fun e w' => e = .returned (.int .i64 1) ∧ Below w.heap.size w w' := by
  have HC : Hid (c ≤ 65535) := hc
  have HF : Hid (bs c 2 = false ∧ bs c 1 = s) := ⟨hf, hs⟩
  clear hc hf hs
  go_enter Tryd.func14, Tryd.ntmps14
  go_wp2_with (go_at_call 26; fail)
  refine (HasB c 2 4 _ rfl (by decide) HC.out).mono ?_
  rintro e w2 ⟨rfl, rfl⟩
  rw [HF.out.1]
  go_wp2_with (go_at_call 26; refine (HasB c 1 2 _ rfl (by decide) HC.out).mono ?_; rintro e w3 ⟨rfl, rfl⟩; rw [HF.out.2])
  go_returns
  exact ⟨rfl, by go_grown⟩

set_option maxRecDepth 100000 in
set_option maxHeartbeats 1000000 in
theorem rs10 (d4 d5 s : Bool) (c : Nat) (x : Int) (w : World) (hc : c ≤ 65535) (hf : bs c 2 = false) (hs : bs c 1 = s) : Calls Tryd.prog 14 #[.agg #[.bool false, .bool false, .bool false, .bool true, .bool d4, .bool d5], .int .i64 (c : Int), .int .i64 x] w fun e w' => e = .returned (.int .i64 1) ∧ Below w.heap.size w w' := by
  have HC : Hid (c ≤ 65535) := hc
  have HF : Hid (bs c 2 = false ∧ bs c 1 = s) := ⟨hf, hs⟩
  clear hc hf hs
  go_enter Tryd.func14, Tryd.ntmps14
  go_wp2_with (go_at_call 26; fail)
  refine (HasB c 2 4 _ rfl (by decide) HC.out).mono ?_
  rintro e w2 ⟨rfl, rfl⟩
  rw [HF.out.1]
  go_wp2_with (go_at_call 26; refine (HasB c 1 2 _ rfl (by decide) HC.out).mono ?_; rintro e w3 ⟨rfl, rfl⟩; rw [HF.out.2])
  go_returns
  exact ⟨rfl, by go_grown⟩

set_option maxRecDepth 100000 in
set_option maxHeartbeats 1000000 in
theorem rs11 (d5 s : Bool) (c : Nat) (x : Int) (w : World) (hc : c ≤ 65535) (hf : bs c 2 = false) (hs : bs c 1 = s) : Calls Tryd.prog 14 #[.agg #[.bool false, .bool false, .bool false, .bool false, .bool true, .bool d5], .int .i64 (c : Int), .int .i64 x] w fun e w' => e = .returned (.int .i64 2) ∧ Below w.heap.size w w' := by
  have HC : Hid (c ≤ 65535) := hc
  have HF : Hid (bs c 2 = false ∧ bs c 1 = s) := ⟨hf, hs⟩
  clear hc hf hs
  go_enter Tryd.func14, Tryd.ntmps14
  go_wp2_with (go_at_call 26; fail)
  refine (HasB c 2 4 _ rfl (by decide) HC.out).mono ?_
  rintro e w2 ⟨rfl, rfl⟩
  rw [HF.out.1]
  go_wp2_with (go_at_call 26; refine (HasB c 1 2 _ rfl (by decide) HC.out).mono ?_; rintro e w3 ⟨rfl, rfl⟩; rw [HF.out.2])
  go_returns
  exact ⟨rfl, by go_grown⟩

set_option maxRecDepth 100000 in
set_option maxHeartbeats 1000000 in
theorem rs12 (s : Bool) (c : Nat) (x : Int) (w : World) (hc : c ≤ 65535) (hf : bs c 2 = false) (hs : bs c 1 = s) : Calls Tryd.prog 14 #[.agg #[.bool false, .bool false, .bool false, .bool false, .bool false, .bool false], .int .i64 (c : Int), .int .i64 x] w fun e w' => e = .returned (.int .i64 3) ∧ Below w.heap.size w w' := by
  have HC : Hid (c ≤ 65535) := hc
  have HF : Hid (bs c 2 = false ∧ bs c 1 = s) := ⟨hf, hs⟩
  clear hc hf hs
  go_enter Tryd.func14, Tryd.ntmps14
  go_wp2_with (go_at_call 26; fail)
  refine (HasB c 2 4 _ rfl (by decide) HC.out).mono ?_
  rintro e w2 ⟨rfl, rfl⟩
  rw [HF.out.1]
  go_wp2_with (go_at_call 26; refine (HasB c 1 2 _ rfl (by decide) HC.out).mono ?_; rintro e w3 ⟨rfl, rfl⟩; rw [HF.out.2])
  go_returns
  exact ⟨rfl, by go_grown⟩

set_option maxRecDepth 100000 in
set_option maxHeartbeats 1000000 in
theorem rs13  (c : Nat) (x : Int) (w : World) (hc : c ≤ 65535) (hf : bs c 2 = false) (hs : bs c 1 = false) : Calls Tryd.prog 14 #[.agg #[.bool false, .bool false, .bool false, .bool false, .bool false, .bool true], .int .i64 (c : Int), .int .i64 x] w fun e w' => e = .returned (.int .i64 2) ∧ Below w.heap.size w w' := by
  have HC : Hid (c ≤ 65535) := hc
  have HF : Hid (bs c 2 = false ∧ bs c 1 = false) := ⟨hf, hs⟩
  clear hc hf hs
  go_enter Tryd.func14, Tryd.ntmps14
  go_wp2_with (go_at_call 26; fail)
  refine (HasB c 2 4 _ rfl (by decide) HC.out).mono ?_
  rintro e w2 ⟨rfl, rfl⟩
  rw [HF.out.1]
  go_wp2_with (go_at_call 26; refine (HasB c 1 2 _ rfl (by decide) HC.out).mono ?_; rintro e w3 ⟨rfl, rfl⟩; rw [HF.out.2])
  go_returns
  exact ⟨rfl, by go_grown⟩

set_option maxRecDepth 100000 in
set_option maxHeartbeats 1000000 in
theorem rs14  (c : Nat) (x : Int) (w : World) (hc : c ≤ 65535) (hf : bs c 2 = false) (hs : bs c 1 = true) (hx : x < 80) : Calls Tryd.prog 14 #[.agg #[.bool false, .bool false, .bool false, .bool false, .bool false, .bool true], .int .i64 (c : Int), .int .i64 x] w fun e w' => e = .returned (.int .i64 0) ∧ Below w.heap.size w w' := by
  have HC : Hid (c ≤ 65535) := hc
  have HF : Hid (bs c 2 = false ∧ bs c 1 = true) := ⟨hf, hs⟩
  clear hc hf hs
  go_enter Tryd.func14, Tryd.ntmps14
  go_wp2_with (go_at_call 26; fail)
  refine (HasB c 2 4 _ rfl (by decide) HC.out).mono ?_
  rintro e w2 ⟨rfl, rfl⟩
  rw [HF.out.1]
  go_wp2_with (go_at_call 26; refine (HasB c 1 2 _ rfl (by decide) HC.out).mono ?_; rintro e w3 ⟨rfl, rfl⟩; rw [HF.out.2])
  go_returns
  exact ⟨rfl, by go_grown⟩

set_option maxRecDepth 100000 in
set_option maxHeartbeats 1000000 in
theorem rs15  (c : Nat) (x : Int) (w : World) (hc : c ≤ 65535) (hf : bs c 2 = false) (hs : bs c 1 = true) (hx : ¬ x < 80) : Calls Tryd.prog 14 #[.agg #[.bool false, .bool false, .bool false, .bool false, .bool false, .bool true], .int .i64 (c : Int), .int .i64 x] w fun e w' => e = .returned (.int .i64 1) ∧ Below w.heap.size w w' := by
  have HC : Hid (c ≤ 65535) := hc
  have HF : Hid (bs c 2 = false ∧ bs c 1 = true) := ⟨hf, hs⟩
  clear hc hf hs
  go_enter Tryd.func14, Tryd.ntmps14
  go_wp2_with (go_at_call 26; fail)
  refine (HasB c 2 4 _ rfl (by decide) HC.out).mono ?_
  rintro e w2 ⟨rfl, rfl⟩
  rw [HF.out.1]
  go_wp2_with (go_at_call 26; refine (HasB c 1 2 _ rfl (by decide) HC.out).mono ?_; rintro e w3 ⟨rfl, rfl⟩; rw [HF.out.2])
  go_returns
  exact ⟨rfl, by go_grown⟩

theorem RSeen (d0 d1 d2 d3 d4 d5 : Bool) (c : Nat) (x : Int) (l f s : Bool) (w : World) (hc : c < 256) (hl : decide (x < 80) = l) (hf : decide (c / 4 % 2 = 1) = f) (hs : decide (c / 2 % 2 = 1) = s) : Calls Tryd.prog 14 #[.agg #[.bool d0, .bool d1, .bool d2, .bool d3, .bool d4, .bool d5], .int .i64 (c : Int), .int .i64 x] w fun e w' => e = .returned (.int .i64 (seenI f s d0 d1 d2 d3 d4 d5 l)) ∧ Below w.heap.size w w' := by
  have hc' : c ≤ 65535 := by omega
  have hf' : bs c 2 = f := hf
  have hs' : bs c 1 = s := hs
  cases f
  · skip
    cases d0
    · skip
      cases d2
      · skip
        cases d1
        · skip
          cases d3
          · skip
            cases d4
            · skip
              cases d5
              · skip
                have hv : seenI false s false false false false false false l = 3 := by clear hl hf hs hf' hs'; revert s l; decide
                rw [hv]
                exact rs12 s c x w hc' hf' hs'
              · skip
                cases s
                · skip
                  have hv : seenI false false false false false false false true l = 2 := by clear hl hf hs hf' hs'; revert  l; decide
                  rw [hv]
                  exact rs13  c x w hc' hf' hs'
                · skip
                  cases l
                  · exact rs15  c x w hc' hf' hs' (by simpa using hl)
                  · exact rs14  c x w hc' hf' hs' (by simpa using hl)
            · skip
              have hv : seenI false s false false false false true d5 l = 2 := by clear hl hf hs hf' hs'; revert d5 s l; decide
              rw [hv]
              exact rs11 d5 s c x w hc' hf' hs'
          · skip
            have hv : seenI false s false false false true d4 d5 l = 1 := by clear hl hf hs hf' hs'; revert d4 d5 s l; decide
            rw [hv]
            exact rs10 d4 d5 s c x w hc' hf' hs'
        · skip
          have hv : seenI false s false true false d3 d4 d5 l = 1 := by clear hl hf hs hf' hs'; revert d3 d4 d5 s l; decide
          rw [hv]
          exact rs9 d3 d4 d5 s c x w hc' hf' hs'
      · skip
        have hv : seenI false s false d1 true d3 d4 d5 l = 0 := by clear hl hf hs hf' hs'; revert d1 d3 d4 d5 s l; decide
        rw [hv]
        exact rs8 d1 d3 d4 d5 s c x w hc' hf' hs'
    · skip
      have hv : seenI false s true d1 d2 d3 d4 d5 l = 0 := by clear hl hf hs hf' hs'; revert d1 d2 d3 d4 d5 s l; decide
      rw [hv]
      exact rs7 d1 d2 d3 d4 d5 s c x w hc' hf' hs'
  · skip
    cases d4
    · skip
      cases d5
      · skip
        cases d0
        · skip
          cases d2
          · skip
            cases d1
            · skip
              cases d3
              · skip
                have hv : seenI true s false false false false false false l = 3 := by clear hl hf hs hf' hs'; revert s l; decide
                rw [hv]
                exact rs6 s c x w hc' hf' hs'
              · skip
                have hv : seenI true s false false false true false false l = 1 := by clear hl hf hs hf' hs'; revert s l; decide
                rw [hv]
                exact rs5 s c x w hc' hf' hs'
            · skip
              have hv : seenI true s false true false d3 false false l = 1 := by clear hl hf hs hf' hs'; revert d3 s l; decide
              rw [hv]
              exact rs4 d3 s c x w hc' hf' hs'
          · skip
            have hv : seenI true s false d1 true d3 false false l = 0 := by clear hl hf hs hf' hs'; revert d1 d3 s l; decide
            rw [hv]
            exact rs3 d1 d3 s c x w hc' hf' hs'
        · skip
          have hv : seenI true s true d1 d2 d3 false false l = 0 := by clear hl hf hs hf' hs'; revert d1 d2 d3 s l; decide
          rw [hv]
          exact rs2 d1 d2 d3 s c x w hc' hf' hs'
      · skip
        have hv : seenI true s d0 d1 d2 d3 false true l = 2 := by clear hl hf hs hf' hs'; revert d0 d1 d2 d3 s l; decide
        rw [hv]
        exact rs1 d0 d1 d2 d3 s c x w hc' hf' hs'
    · skip
      have hv : seenI true s d0 d1 d2 d3 true d5 l = 2 := by clear hl hf hs hf' hs'; revert d0 d1 d2 d3 d5 s l; decide
      rw [hv]
      exact rs0 d0 d1 d2 d3 d5 s c x w hc' hf' hs'

end Go.Proofs.YtkondnlilkpdoaaDoor.Fi
