/- CodeFinds, walked: whatever comes in, true comes out. -/
import Derived.Test.YtcbfhjgdnffjlaaDoorFindsR
namespace Go.Proofs.YtcbfhjgdnffjlaaDoor.Co
open Go.RowKit

set_option maxRecDepth 100000 in
set_option maxHeartbeats 4000000 in
theorem codeFinds_walk (s : ByteArray) (a1 : Int) (w1 : (Lit.int .u8 a1).wf = true) (W : World) (ht : Tab W) :
    Calls Tryd.prog 4 #[.string s, .int .u8 a1] W fun e w' => e = .returned (.bool true) ∧ Below W.heap.size W w' := by
  obtain ⟨x0, x1⟩ := bounds_u8 w1
  obtain ⟨m, rfl⟩ := Int.eq_ofNat_of_zero_le x0
  clear w1
  have HF : Hid (∀ w, Tab w → Calls Tryd.prog 14 #[.string s, .int .u8 (m : Int)] w fun e w' => e = .returned (.tuple #[.int .u8 ((findO (bl s) m : Nat) : Int), .bool (findB (bl s) m)]) ∧ Below w.heap.size w w') := fun w ht => Find s m w ht
  have HR : Hid (∀ w, Calls Tryd.prog 15 #[.string s, .int .i64 (m : Int)] w fun e w' => e = .returned (.int .i64 (outF (bl s) m codes)) ∧ Below w.heap.size w w') := fun w => RFind s m w
  obtain ⟨e1, e2, e3⟩ := out_find (bl s) m
  have hle := outF_le (bl s) m codes
  have HT : Hid (Tab W) := ht
  clear ht
  generalize outF (bl s) m codes = o at HR e1 e2 hle
  generalize findO (bl s) m = f at HF e2 e3
  generalize findB (bl s) m = b at HF e1 e2 e3
  cases b
  · have h0 : f = 0 := e3 rfl
    have h1 : decide (0 ≤ o) = false := e1.symm
    subst h0
    clear e1 e2 e3
    go_enter Tryd.func4, Tryd.ntmps4
    go_wp2_with (first
      | (go_at_call 14; refine (HF.out _ HT.out).mono ?_; rintro e w2 ⟨rfl, hB2⟩)
      | (go_at_call 15; refine (HR.out _).mono ?_; rintro e w3 ⟨rfl, hB3⟩)
      | (go_at_call 13; refine (awakeX _ (HT.out.next (hB2.trans (hB3.mono hB2.size)))).mono ?_; rintro e w4 ⟨rfl, hB4⟩))
    go_ret
    exact ⟨rfl, (hB2.trans (hB3.mono hB2.size)).trans (hB4.mono (Nat.le_trans hB2.size hB3.size))⟩
  · have h0 : (f : Int) = o := e2 rfl
    subst h0
    clear e1 e2 e3
    have h1 : decide (0 ≤ (f : Int)) = true := by simp
    go_enter Tryd.func4, Tryd.ntmps4
    go_wp2_with (first
      | (go_at_call 14; refine (HF.out _ HT.out).mono ?_; rintro e w2 ⟨rfl, hB2⟩)
      | (go_at_call 15; refine (HR.out _).mono ?_; rintro e w3 ⟨rfl, hB3⟩)
      | (go_at_call 13; refine (awakeX _ (HT.out.next (hB2.trans (hB3.mono hB2.size)))).mono ?_; rintro e w4 ⟨rfl, hB4⟩))
    go_ret
    exact ⟨rfl, (hB2.trans (hB3.mono hB2.size)).trans (hB4.mono (Nat.le_trans hB2.size hB3.size))⟩

end Go.Proofs.YtcbfhjgdnffjlaaDoor.Co
