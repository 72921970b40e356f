/- Does a branch go? -/
import Derived.Test.YtelmohajdmcnmaaDoorEx2
import Derived.Test.YtelmohajdmcnmaaDoorRef9
namespace Go.Proofs.YtelmohajdmcnmaaDoor.Ex
open Go.RowKit Alu
set_option linter.unusedVariables false

theorem has1_and : ∀ p : Nat, p < 256 → bits .and .u8 (p : Int) 1 = if hasB p 1 then 1 else 0 := by decide +kernel
theorem has2_and : ∀ p : Nat, p < 256 → bits .and .u8 (p : Int) 2 = if hasB p 2 then 2 else 0 := by decide +kernel
theorem has64_and : ∀ p : Nat, p < 256 → bits .and .u8 (p : Int) 64 = if hasB p 64 then 64 else 0 := by decide +kernel
theorem has128_and : ∀ p : Nat, p < 256 → bits .and .u8 (p : Int) 128 = if hasB p 128 then 128 else 0 := by decide +kernel

set_option maxRecDepth 100000 in
set_option maxHeartbeats 1000000 in
theorem Goes_BPL (s : ByteArray) (p : Nat) (w : World) (hs : s.toList = [66, 80, 76]) (hp : p < 256) : Calls Tryd.prog 85 #[.string s, .int .u8 (p : Int)] w fun e w' => e = .returned (.bool (gs s.toList p)) ∧ w' = w := by
  have hb := has128_and p hp
  have HE : Hid (gs s.toList p = !hasB p 128) := by show _ = _; rw [hs]; rfl
  cases hh : hasB p 128
  all_goals
    rw [hh] at hb HE
    simp only [if_true, if_false, Bool.false_eq_true] at hb
    clear hh
    go_enter Tryd.func85, Tryd.ntmps85
    repeat (first | with_reducible refine then_exit ?_ | with_reducible refine inB_ne rfl ?_ | with_reducible refine inB_eq ?_ | with_reducible refine then_normal ?_ | with_reducible refine inB_normal ?_ | with_reducible refine then_ret ?_ | with_reducible refine inB_ret ?_ | go_step)
    go_returns
    exact ⟨by rw [HE.out]; rfl, rfl⟩

set_option maxRecDepth 100000 in
set_option maxHeartbeats 1000000 in
theorem Goes_BMI (s : ByteArray) (p : Nat) (w : World) (hs : s.toList = [66, 77, 73]) (hp : p < 256) : Calls Tryd.prog 85 #[.string s, .int .u8 (p : Int)] w fun e w' => e = .returned (.bool (gs s.toList p)) ∧ w' = w := by
  have hb := has128_and p hp
  have HE : Hid (gs s.toList p = hasB p 128) := by show _ = _; rw [hs]; rfl
  cases hh : hasB p 128
  all_goals
    rw [hh] at hb HE
    simp only [if_true, if_false, Bool.false_eq_true] at hb
    clear hh
    go_enter Tryd.func85, Tryd.ntmps85
    repeat (first | with_reducible refine then_exit ?_ | with_reducible refine inB_ne rfl ?_ | with_reducible refine inB_eq ?_ | with_reducible refine then_normal ?_ | with_reducible refine inB_normal ?_ | with_reducible refine then_ret ?_ | with_reducible refine inB_ret ?_ | go_step)
    go_returns
    exact ⟨by rw [HE.out]; rfl, rfl⟩

set_option maxRecDepth 100000 in
set_option maxHeartbeats 1000000 in
theorem Goes_BVC (s : ByteArray) (p : Nat) (w : World) (hs : s.toList = [66, 86, 67]) (hp : p < 256) : Calls Tryd.prog 85 #[.string s, .int .u8 (p : Int)] w fun e w' => e = .returned (.bool (gs s.toList p)) ∧ w' = w := by
  have hb := has64_and p hp
  have HE : Hid (gs s.toList p = !hasB p 64) := by show _ = _; rw [hs]; rfl
  cases hh : hasB p 64
  all_goals
    rw [hh] at hb HE
    simp only [if_true, if_false, Bool.false_eq_true] at hb
    clear hh
    go_enter Tryd.func85, Tryd.ntmps85
    repeat (first | with_reducible refine then_exit ?_ | with_reducible refine inB_ne rfl ?_ | with_reducible refine inB_eq ?_ | with_reducible refine then_normal ?_ | with_reducible refine inB_normal ?_ | with_reducible refine then_ret ?_ | with_reducible refine inB_ret ?_ | go_step)
    go_returns
    exact ⟨by rw [HE.out]; rfl, rfl⟩

set_option maxRecDepth 100000 in
set_option maxHeartbeats 1000000 in
theorem Goes_BVS (s : ByteArray) (p : Nat) (w : World) (hs : s.toList = [66, 86, 83]) (hp : p < 256) : Calls Tryd.prog 85 #[.string s, .int .u8 (p : Int)] w fun e w' => e = .returned (.bool (gs s.toList p)) ∧ w' = w := by
  have hb := has64_and p hp
  have HE : Hid (gs s.toList p = hasB p 64) := by show _ = _; rw [hs]; rfl
  cases hh : hasB p 64
  all_goals
    rw [hh] at hb HE
    simp only [if_true, if_false, Bool.false_eq_true] at hb
    clear hh
    go_enter Tryd.func85, Tryd.ntmps85
    repeat (first | with_reducible refine then_exit ?_ | with_reducible refine inB_ne rfl ?_ | with_reducible refine inB_eq ?_ | with_reducible refine then_normal ?_ | with_reducible refine inB_normal ?_ | with_reducible refine then_ret ?_ | with_reducible refine inB_ret ?_ | go_step)
    go_returns
    exact ⟨by rw [HE.out]; rfl, rfl⟩

set_option maxRecDepth 100000 in
set_option maxHeartbeats 1000000 in
theorem Goes_BCC (s : ByteArray) (p : Nat) (w : World) (hs : s.toList = [66, 67, 67]) (hp : p < 256) : Calls Tryd.prog 85 #[.string s, .int .u8 (p : Int)] w fun e w' => e = .returned (.bool (gs s.toList p)) ∧ w' = w := by
  have hb := has1_and p hp
  have HE : Hid (gs s.toList p = !hasB p 1) := by show _ = _; rw [hs]; rfl
  cases hh : hasB p 1
  all_goals
    rw [hh] at hb HE
    simp only [if_true, if_false, Bool.false_eq_true] at hb
    clear hh
    go_enter Tryd.func85, Tryd.ntmps85
    repeat (first | with_reducible refine then_exit ?_ | with_reducible refine inB_ne rfl ?_ | with_reducible refine inB_eq ?_ | with_reducible refine then_normal ?_ | with_reducible refine inB_normal ?_ | with_reducible refine then_ret ?_ | with_reducible refine inB_ret ?_ | go_step)
    go_returns
    exact ⟨by rw [HE.out]; rfl, rfl⟩

set_option maxRecDepth 100000 in
set_option maxHeartbeats 1000000 in
theorem Goes_BCS (s : ByteArray) (p : Nat) (w : World) (hs : s.toList = [66, 67, 83]) (hp : p < 256) : Calls Tryd.prog 85 #[.string s, .int .u8 (p : Int)] w fun e w' => e = .returned (.bool (gs s.toList p)) ∧ w' = w := by
  have hb := has1_and p hp
  have HE : Hid (gs s.toList p = hasB p 1) := by show _ = _; rw [hs]; rfl
  cases hh : hasB p 1
  all_goals
    rw [hh] at hb HE
    simp only [if_true, if_false, Bool.false_eq_true] at hb
    clear hh
    go_enter Tryd.func85, Tryd.ntmps85
    repeat (first | with_reducible refine then_exit ?_ | with_reducible refine inB_ne rfl ?_ | with_reducible refine inB_eq ?_ | with_reducible refine then_normal ?_ | with_reducible refine inB_normal ?_ | with_reducible refine then_ret ?_ | with_reducible refine inB_ret ?_ | go_step)
    go_returns
    exact ⟨by rw [HE.out]; rfl, rfl⟩

set_option maxRecDepth 100000 in
set_option maxHeartbeats 1000000 in
theorem Goes_BNE (s : ByteArray) (p : Nat) (w : World) (hs : s.toList = [66, 78, 69]) (hp : p < 256) : Calls Tryd.prog 85 #[.string s, .int .u8 (p : Int)] w fun e w' => e = .returned (.bool (gs s.toList p)) ∧ w' = w := by
  have hb := has2_and p hp
  have HE : Hid (gs s.toList p = !hasB p 2) := by show _ = _; rw [hs]; rfl
  cases hh : hasB p 2
  all_goals
    rw [hh] at hb HE
    simp only [if_true, if_false, Bool.false_eq_true] at hb
    clear hh
    go_enter Tryd.func85, Tryd.ntmps85
    repeat (first | with_reducible refine then_exit ?_ | with_reducible refine inB_ne rfl ?_ | with_reducible refine inB_eq ?_ | with_reducible refine then_normal ?_ | with_reducible refine inB_normal ?_ | with_reducible refine then_ret ?_ | with_reducible refine inB_ret ?_ | go_step)
    go_returns
    exact ⟨by rw [HE.out]; rfl, rfl⟩

set_option maxRecDepth 100000 in
set_option maxHeartbeats 1000000 in
theorem Goes_BEQ (s : ByteArray) (p : Nat) (w : World) (hs : s.toList = [66, 69, 81]) (hp : p < 256) : Calls Tryd.prog 85 #[.string s, .int .u8 (p : Int)] w fun e w' => e = .returned (.bool (gs s.toList p)) ∧ w' = w := by
  have hb := has2_and p hp
  have HE : Hid (gs s.toList p = hasB p 2) := by show _ = _; rw [hs]; rfl
  cases hh : hasB p 2
  all_goals
    rw [hh] at hb HE
    simp only [if_true, if_false, Bool.false_eq_true] at hb
    clear hh
    go_enter Tryd.func85, Tryd.ntmps85
    repeat (first | with_reducible refine then_exit ?_ | with_reducible refine inB_ne rfl ?_ | with_reducible refine inB_eq ?_ | with_reducible refine then_normal ?_ | with_reducible refine inB_normal ?_ | with_reducible refine then_ret ?_ | with_reducible refine inB_ret ?_ | go_step)
    go_returns
    exact ⟨by rw [HE.out]; rfl, rfl⟩

set_option maxRecDepth 100000 in
set_option maxHeartbeats 1000000 in
theorem Goes_none (s : ByteArray) (p : Nat) (w : World) (q0 : (s.toList == [66, 80, 76]) = false) (q1 : (s.toList == [66, 77, 73]) = false) (q2 : (s.toList == [66, 86, 67]) = false) (q3 : (s.toList == [66, 86, 83]) = false) (q4 : (s.toList == [66, 67, 67]) = false) (q5 : (s.toList == [66, 67, 83]) = false) (q6 : (s.toList == [66, 78, 69]) = false) (q7 : (s.toList == [66, 69, 81]) = false) : Calls Tryd.prog 85 #[.string s, .int .u8 (p : Int)] w fun e w' => e = .returned (.bool (gs s.toList p)) ∧ w' = w := by
  have HE : Hid (gs s.toList p = false) := by
    show _ = _
    unfold gs
    rw [if_neg (fun e => by rw [e] at q0; revert q0; decide), if_neg (fun e => by rw [e] at q1; revert q1; decide), if_neg (fun e => by rw [e] at q2; revert q2; decide), if_neg (fun e => by rw [e] at q3; revert q3; decide), if_neg (fun e => by rw [e] at q4; revert q4; decide), if_neg (fun e => by rw [e] at q5; revert q5; decide), if_neg (fun e => by rw [e] at q6; revert q6; decide), if_neg (fun e => by rw [e] at q7; revert q7; decide)]
  go_enter Tryd.func85, Tryd.ntmps85
  repeat (first | with_reducible refine then_exit ?_ | with_reducible refine inB_ne rfl ?_ | with_reducible refine inB_eq ?_ | with_reducible refine then_normal ?_ | with_reducible refine inB_normal ?_ | with_reducible refine then_ret ?_ | with_reducible refine inB_ret ?_ | go_step)
  go_returns
  exact ⟨by rw [HE.out]; rfl, rfl⟩

theorem Goes (s : ByteArray) (p : Nat) (w : World) (hp : p < 256) : Calls Tryd.prog 85 #[.string s, .int .u8 (p : Int)] w fun e w' => e = .returned (.bool (gs s.toList p)) ∧ w' = w := by
  cases q0 : (s.toList == [66, 80, 76])
  rotate_left
  · exact Goes_BPL s p w (eq_of_beq q0) hp
  cases q1 : (s.toList == [66, 77, 73])
  rotate_left
  · exact Goes_BMI s p w (eq_of_beq q1) hp
  cases q2 : (s.toList == [66, 86, 67])
  rotate_left
  · exact Goes_BVC s p w (eq_of_beq q2) hp
  cases q3 : (s.toList == [66, 86, 83])
  rotate_left
  · exact Goes_BVS s p w (eq_of_beq q3) hp
  cases q4 : (s.toList == [66, 67, 67])
  rotate_left
  · exact Goes_BCC s p w (eq_of_beq q4) hp
  cases q5 : (s.toList == [66, 67, 83])
  rotate_left
  · exact Goes_BCS s p w (eq_of_beq q5) hp
  cases q6 : (s.toList == [66, 78, 69])
  rotate_left
  · exact Goes_BNE s p w (eq_of_beq q6) hp
  cases q7 : (s.toList == [66, 69, 81])
  rotate_left
  · exact Goes_BEQ s p w (eq_of_beq q7) hp
  exact Goes_none s p w q0 q1 q2 q3 q4 q5 q6 q7

end Go.Proofs.YtelmohajdmcnmaaDoor.Ex
