/- What needs no byte, whatever the name. -/
import Derived.Test.YtelmohajdmcnmaaDoorEx4A
import Derived.Test.YtelmohajdmcnmaaDoorEx4B
import Derived.Test.YtelmohajdmcnmaaDoorEx4C
namespace Go.Proofs.YtelmohajdmcnmaaDoor.Ex
open Go.RowKit Alu
set_option linter.unusedVariables false

theorem sf_none (s : ByteArray) (r : Rg) (q0 : (s.toList == [67, 76, 67]) = false) (q1 : (s.toList == [67, 76, 68]) = false) (q2 : (s.toList == [67, 76, 73]) = false) (q3 : (s.toList == [67, 76, 86]) = false) (q4 : (s.toList == [83, 69, 67]) = false) (q5 : (s.toList == [83, 69, 68]) = false) (q6 : (s.toList == [83, 69, 73]) = false) (q7 : (s.toList == [84, 65, 88]) = false) (q8 : (s.toList == [84, 65, 89]) = false) (q9 : (s.toList == [84, 88, 65]) = false) (q10 : (s.toList == [84, 89, 65]) = false) (q11 : (s.toList == [84, 83, 88]) = false) (q12 : (s.toList == [84, 88, 83]) = false) (q13 : (s.toList == [73, 78, 88]) = false) (q14 : (s.toList == [73, 78, 89]) = false) (q15 : (s.toList == [68, 69, 88]) = false) (q16 : (s.toList == [68, 69, 89]) = false) : sf s.toList r = r := by
  unfold sf
  rw [if_neg (fun e => by rw [e] at q0; revert q0; decide), if_neg (fun e => by rw [e] at q1; revert q1; decide), if_neg (fun e => by rw [e] at q2; revert q2; decide), if_neg (fun e => by rw [e] at q3; revert q3; decide), if_neg (fun e => by rw [e] at q4; revert q4; decide), if_neg (fun e => by rw [e] at q5; revert q5; decide), if_neg (fun e => by rw [e] at q6; revert q6; decide), if_neg (fun e => by rw [e] at q7; revert q7; decide), if_neg (fun e => by rw [e] at q8; revert q8; decide), if_neg (fun e => by rw [e] at q9; revert q9; decide), if_neg (fun e => by rw [e] at q10; revert q10; decide), if_neg (fun e => by rw [e] at q11; revert q11; decide), if_neg (fun e => by rw [e] at q12; revert q12; decide), if_neg (fun e => by rw [e] at q13; revert q13; decide), if_neg (fun e => by rw [e] at q14; revert q14; decide), if_neg (fun e => by rw [e] at q15; revert q15; decide), if_neg (fun e => by rw [e] at q16; revert q16; decide)]

set_option maxRecDepth 100000 in
set_option maxHeartbeats 1000000 in
theorem self_none (b : Nat) (s : ByteArray) (w : World) (q0 : (s.toList == [67, 76, 67]) = false) (q1 : (s.toList == [67, 76, 68]) = false) (q2 : (s.toList == [67, 76, 73]) = false) (q3 : (s.toList == [67, 76, 86]) = false) (q4 : (s.toList == [83, 69, 67]) = false) (q5 : (s.toList == [83, 69, 68]) = false) (q6 : (s.toList == [83, 69, 73]) = false) (q7 : (s.toList == [84, 65, 88]) = false) (q8 : (s.toList == [84, 65, 89]) = false) (q9 : (s.toList == [84, 88, 65]) = false) (q10 : (s.toList == [84, 89, 65]) = false) (q11 : (s.toList == [84, 83, 88]) = false) (q12 : (s.toList == [84, 88, 83]) = false) (q13 : (s.toList == [73, 78, 88]) = false) (q14 : (s.toList == [73, 78, 89]) = false) (q15 : (s.toList == [68, 69, 88]) = false) (q16 : (s.toList == [68, 69, 89]) = false) : Calls Tryd.prog 100 #[.pointer (some ⟨b, 0, none⟩), .string s] w fun e w' => e = .returned (.tuple #[]) ∧ w' = w := by
  go_enter Tryd.func100, Tryd.ntmps100
  go_wp2
  go_returns
  exact ⟨rfl, rfl⟩

theorem self (b : Nat) (s : ByteArray) (r : Rg) (w : World) (h : RAt w b 0 r) (hr : r.ok) : Calls Tryd.prog 100 #[.pointer (some ⟨b, 0, none⟩), .string s] w fun e w' => e = .returned (.tuple #[]) ∧ RAt w' b 0 (sf s.toList r) ∧ Turn b w w' := by
  cases q0 : (s.toList == [67, 76, 67])
  rotate_left
  · exact self_CLC b s r w (eq_of_beq q0) h hr
  cases q1 : (s.toList == [67, 76, 68])
  rotate_left
  · exact self_CLD b s r w (eq_of_beq q1) h hr
  cases q2 : (s.toList == [67, 76, 73])
  rotate_left
  · exact self_CLI b s r w (eq_of_beq q2) h hr
  cases q3 : (s.toList == [67, 76, 86])
  rotate_left
  · exact self_CLV b s r w (eq_of_beq q3) h hr
  cases q4 : (s.toList == [83, 69, 67])
  rotate_left
  · exact self_SEC b s r w (eq_of_beq q4) h hr
  cases q5 : (s.toList == [83, 69, 68])
  rotate_left
  · exact self_SED b s r w (eq_of_beq q5) h hr
  cases q6 : (s.toList == [83, 69, 73])
  rotate_left
  · exact self_SEI b s r w (eq_of_beq q6) h hr
  cases q7 : (s.toList == [84, 65, 88])
  rotate_left
  · exact self_TAX b s r w (eq_of_beq q7) h hr
  cases q8 : (s.toList == [84, 65, 89])
  rotate_left
  · exact self_TAY b s r w (eq_of_beq q8) h hr
  cases q9 : (s.toList == [84, 88, 65])
  rotate_left
  · exact self_TXA b s r w (eq_of_beq q9) h hr
  cases q10 : (s.toList == [84, 89, 65])
  rotate_left
  · exact self_TYA b s r w (eq_of_beq q10) h hr
  cases q11 : (s.toList == [84, 83, 88])
  rotate_left
  · exact self_TSX b s r w (eq_of_beq q11) h hr
  cases q12 : (s.toList == [84, 88, 83])
  rotate_left
  · exact self_TXS b s r w (eq_of_beq q12) h hr
  cases q13 : (s.toList == [73, 78, 88])
  rotate_left
  · exact self_INX b s r w (eq_of_beq q13) h hr
  cases q14 : (s.toList == [73, 78, 89])
  rotate_left
  · exact self_INY b s r w (eq_of_beq q14) h hr
  cases q15 : (s.toList == [68, 69, 88])
  rotate_left
  · exact self_DEX b s r w (eq_of_beq q15) h hr
  cases q16 : (s.toList == [68, 69, 89])
  rotate_left
  · exact self_DEY b s r w (eq_of_beq q16) h hr
  refine (self_none b s w q0 q1 q2 q3 q4 q5 q6 q7 q8 q9 q10 q11 q12 q13 q14 q15 q16).mono ?_
  rintro e w' ⟨rfl, rfl⟩
  exact ⟨rfl, h.to (sf_none s r q0 q1 q2 q3 q4 q5 q6 q7 q8 q9 q10 q11 q12 q13 q14 q15 q16).symm, Turn.refl b _⟩

end Go.Proofs.YtelmohajdmcnmaaDoor.Ex
