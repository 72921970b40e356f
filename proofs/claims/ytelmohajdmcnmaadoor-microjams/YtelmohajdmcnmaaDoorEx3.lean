/- What a byte that is read does, whatever the name. -/
import Derived.Test.YtelmohajdmcnmaaDoorEx2A
import Derived.Test.YtelmohajdmcnmaaDoorEx2B1
import Derived.Test.YtelmohajdmcnmaaDoorEx2B2
import Derived.Test.YtelmohajdmcnmaaDoorEx2B3
import Derived.Test.YtelmohajdmcnmaaDoorEx2C1
import Derived.Test.YtelmohajdmcnmaaDoorEx2C2
import Derived.Test.YtelmohajdmcnmaaDoorEx2C3
import Derived.Test.YtelmohajdmcnmaaDoorEx2D
import Derived.Test.YtelmohajdmcnmaaDoorEx2E
namespace Go.Proofs.YtelmohajdmcnmaaDoor.Ex
open Go.RowKit Alu
set_option linter.unusedVariables false

theorem rd_none (s : ByteArray) (r : Rg) (m : Nat) (q0 : (s.toList == [79, 82, 65]) = false) (q1 : (s.toList == [65, 78, 68]) = false) (q2 : (s.toList == [69, 79, 82]) = false) (q3 : (s.toList == [65, 68, 67]) = false) (q4 : (s.toList == [83, 66, 67]) = false) (q5 : (s.toList == [67, 77, 80]) = false) (q6 : (s.toList == [67, 80, 88]) = false) (q7 : (s.toList == [67, 80, 89]) = false) (q8 : (s.toList == [66, 73, 84]) = false) (q9 : (s.toList == [76, 68, 88]) = false) (q10 : (s.toList == [76, 68, 89]) = false) (q11 : (s.toList == [76, 65, 83]) = false) (q12 : (s.toList == [76, 65, 88]) = false) (q13 : (s.toList == [76, 68, 65]) = false) (q14 : (s.toList == [65, 78, 67]) = false) (q15 : (s.toList == [65, 76, 82]) = false) (q16 : (s.toList == [65, 82, 82]) = false) (q17 : (s.toList == [65, 78, 69]) = false) (q18 : (s.toList == [76, 88, 65]) = false) (q19 : (s.toList == [83, 66, 88]) = false) : rd s.toList r m = r := by
  unfold rd
  rw [if_neg (fun e => by rw [e] at q0; revert q0; decide), if_neg (fun e => by rw [e] at q1; revert q1; decide), if_neg (fun e => by rw [e] at q2; revert q2; decide), if_neg (fun e => by rw [e] at q3; revert q3; decide), if_neg (fun e => by rw [e] at q4; revert q4; decide), if_neg (fun e => by rw [e] at q5; revert q5; decide), if_neg (fun e => by rw [e] at q6; revert q6; decide), if_neg (fun e => by rw [e] at q7; revert q7; decide), if_neg (fun e => by rw [e] at q8; revert q8; decide), if_neg (fun e => by rw [e] at q9; revert q9; decide), if_neg (fun e => by rw [e] at q10; revert q10; decide), if_neg (fun e => by rw [e] at q11; revert q11; decide), if_neg (fun e => by rw [e] at q12; revert q12; decide), if_neg (fun e => by rw [e] at q13; revert q13; decide), if_neg (fun e => by rw [e] at q14; revert q14; decide), if_neg (fun e => by rw [e] at q15; revert q15; decide), if_neg (fun e => by rw [e] at q16; revert q16; decide), if_neg (fun e => by rw [e] at q17; revert q17; decide), if_neg (fun e => by rw [e] at q18; revert q18; decide), if_neg (fun e => by rw [e] at q19; revert q19; decide)]

set_option maxRecDepth 100000 in
set_option maxHeartbeats 1000000 in
theorem readTwice_none (b m : Nat) (s : ByteArray) (w : World) (q14 : (s.toList == [65, 78, 67]) = false) (q15 : (s.toList == [65, 76, 82]) = false) (q16 : (s.toList == [65, 82, 82]) = false) (q17 : (s.toList == [65, 78, 69]) = false) (q18 : (s.toList == [76, 88, 65]) = false) (q19 : (s.toList == [83, 66, 88]) = false) : Calls Tryd.prog 78 #[.pointer (some ⟨b, 0, none⟩), .string s, .int .u8 (m : Int)] w fun e w' => e = .returned (.tuple #[]) ∧ w' = w := by
  go_enter Tryd.func78, Tryd.ntmps78
  go_wp2
  go_returns
  exact ⟨rfl, rfl⟩

theorem readTwice (b m : Nat) (s : ByteArray) (r : Rg) (w : World) (q0 : (s.toList == [79, 82, 65]) = false) (q1 : (s.toList == [65, 78, 68]) = false) (q2 : (s.toList == [69, 79, 82]) = false) (q3 : (s.toList == [65, 68, 67]) = false) (q4 : (s.toList == [83, 66, 67]) = false) (q5 : (s.toList == [67, 77, 80]) = false) (q6 : (s.toList == [67, 80, 88]) = false) (q7 : (s.toList == [67, 80, 89]) = false) (q8 : (s.toList == [66, 73, 84]) = false) (q9 : (s.toList == [76, 68, 88]) = false) (q10 : (s.toList == [76, 68, 89]) = false) (q11 : (s.toList == [76, 65, 83]) = false) (q12 : (s.toList == [76, 65, 88]) = false) (q13 : (s.toList == [76, 68, 65]) = false) (h : RAt w b 0 r) (hr : r.ok) (hm : m < 256) : Calls Tryd.prog 78 #[.pointer (some ⟨b, 0, none⟩), .string s, .int .u8 (m : Int)] w fun e w' => e = .returned (.tuple #[]) ∧ RAt w' b 0 (rd s.toList r m) ∧ Turn b w w' := by
  cases q14 : (s.toList == [65, 78, 67])
  rotate_left
  · exact readTwice_ANC b m s r w (eq_of_beq q14) h hr hm
  cases q15 : (s.toList == [65, 76, 82])
  rotate_left
  · exact readTwice_ALR b m s r w (eq_of_beq q15) h hr hm
  cases q16 : (s.toList == [65, 82, 82])
  rotate_left
  · exact readTwice_ARR b m s r w (eq_of_beq q16) h hr hm
  cases q17 : (s.toList == [65, 78, 69])
  rotate_left
  · exact readTwice_ANE b m s r w (eq_of_beq q17) h hr hm
  cases q18 : (s.toList == [76, 88, 65])
  rotate_left
  · exact readTwice_LXA b m s r w (eq_of_beq q18) h hr hm
  cases q19 : (s.toList == [83, 66, 88])
  rotate_left
  · exact readTwice_SBX b m s r w (eq_of_beq q19) h hr hm
  refine (readTwice_none b m s w q14 q15 q16 q17 q18 q19).mono ?_
  rintro e w' ⟨rfl, rfl⟩
  exact ⟨rfl, h.to (rd_none s r m q0 q1 q2 q3 q4 q5 q6 q7 q8 q9 q10 q11 q12 q13 q14 q15 q16 q17 q18 q19).symm, Turn.refl b _⟩

set_option maxRecDepth 100000 in
set_option maxHeartbeats 1000000 in
theorem read_else (b m : Nat) (s : ByteArray) (r : Rg) (w : World) (q0 : (s.toList == [79, 82, 65]) = false) (q1 : (s.toList == [65, 78, 68]) = false) (q2 : (s.toList == [69, 79, 82]) = false) (q3 : (s.toList == [65, 68, 67]) = false) (q4 : (s.toList == [83, 66, 67]) = false) (q5 : (s.toList == [67, 77, 80]) = false) (q6 : (s.toList == [67, 80, 88]) = false) (q7 : (s.toList == [67, 80, 89]) = false) (q8 : (s.toList == [66, 73, 84]) = false) (q9 : (s.toList == [76, 68, 88]) = false) (q10 : (s.toList == [76, 68, 89]) = false) (q11 : (s.toList == [76, 65, 83]) = false) (q12 : (s.toList == [76, 65, 88]) = false) (q13 : (s.toList == [76, 68, 65]) = false) (h : RAt w b 0 r) (hr : r.ok) (hm : m < 256) : Calls Tryd.prog 45 #[.pointer (some ⟨b, 0, none⟩), .string s, .int .u8 (m : Int)] w fun e w' => e = .returned (.tuple #[]) ∧ RAt w' b 0 (rd s.toList r m) ∧ Turn b w w' := by
  have HT : Hid (∀ w, RAt w b 0 r → Calls Tryd.prog 78 #[.pointer (some ⟨b, 0, none⟩), .string s, .int .u8 (m : Int)] w fun e w' => e = .returned (.tuple #[]) ∧ RAt w' b 0 (rd s.toList r m) ∧ Turn b w w') := fun w h => readTwice b m s r w q0 q1 q2 q3 q4 q5 q6 q7 q8 q9 q10 q11 q12 q13 h hr hm
  have H : Hid (RAt w b 0 r) := h
  clear h hr
  go_enter Tryd.func45, Tryd.ntmps45
  go_wp2_with (go_at_call 78; refine (HT.out _ H.out).mono ?_; rintro e w' ⟨rfl, hR, hT⟩)
  go_returns
  exact ⟨rfl, hR, hT⟩

theorem read (b m : Nat) (s : ByteArray) (r : Rg) (w : World) (h : RAt w b 0 r) (hr : r.ok) (hm : m < 256) : Calls Tryd.prog 45 #[.pointer (some ⟨b, 0, none⟩), .string s, .int .u8 (m : Int)] w fun e w' => e = .returned (.tuple #[]) ∧ RAt w' b 0 (rd s.toList r m) ∧ Turn b w w' := by
  cases q0 : (s.toList == [79, 82, 65])
  rotate_left
  · exact read_ORA b m s r w (eq_of_beq q0) h hr hm
  cases q1 : (s.toList == [65, 78, 68])
  rotate_left
  · exact read_AND b m s r w (eq_of_beq q1) h hr hm
  cases q2 : (s.toList == [69, 79, 82])
  rotate_left
  · exact read_EOR b m s r w (eq_of_beq q2) h hr hm
  cases q3 : (s.toList == [65, 68, 67])
  rotate_left
  · exact read_ADC b m s r w (eq_of_beq q3) h hr hm
  cases q4 : (s.toList == [83, 66, 67])
  rotate_left
  · exact read_SBC b m s r w (eq_of_beq q4) h hr hm
  cases q5 : (s.toList == [67, 77, 80])
  rotate_left
  · exact read_CMP b m s r w (eq_of_beq q5) h hr hm
  cases q6 : (s.toList == [67, 80, 88])
  rotate_left
  · exact read_CPX b m s r w (eq_of_beq q6) h hr hm
  cases q7 : (s.toList == [67, 80, 89])
  rotate_left
  · exact read_CPY b m s r w (eq_of_beq q7) h hr hm
  cases q8 : (s.toList == [66, 73, 84])
  rotate_left
  · exact read_BIT b m s r w (eq_of_beq q8) h hr hm
  cases q9 : (s.toList == [76, 68, 88])
  rotate_left
  · exact read_LDX b m s r w (eq_of_beq q9) h hr hm
  cases q10 : (s.toList == [76, 68, 89])
  rotate_left
  · exact read_LDY b m s r w (eq_of_beq q10) h hr hm
  cases q11 : (s.toList == [76, 65, 83])
  rotate_left
  · exact read_LAS b m s r w (eq_of_beq q11) h hr hm
  cases q12 : (s.toList == [76, 65, 88])
  rotate_left
  · exact read_LAX b m s r w (eq_of_beq q12) h hr hm
  cases q13 : (s.toList == [76, 68, 65])
  rotate_left
  · exact read_LDA b m s r w (eq_of_beq q13) h hr hm
  exact read_else b m s r w q0 q1 q2 q3 q4 q5 q6 q7 q8 q9 q10 q11 q12 q13 h hr hm

end Go.Proofs.YtelmohajdmcnmaaDoor.Ex
