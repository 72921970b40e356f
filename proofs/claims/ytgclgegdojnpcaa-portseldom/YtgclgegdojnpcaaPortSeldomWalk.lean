/- PortSeldom, walked: whatever comes in, true comes out. -/
import Derived.Test.YtgclgegdojnpcaaAwake7
namespace Go.Proofs.Ytgclgegdojnpcaa.portSeldom
open Go.RowKit Po

set_option maxHeartbeats 400000 in
theorem Caught (b : Nat) (p : Eg) (w : World) (h : EAt w b p) : Calls Try.prog 26 #[.pointer (some ⟨b, 0, none⟩)] w fun e w' => e = .returned (.bool p.c) ∧ w' = w := by
  obtain ⟨h0, h1, h2, hf⟩ := h
  go_enter Try.func26, Try.ntmps26
  go_wp2
  go_returns
  exact ⟨rfl, rfl⟩

theorem see_a (h r : Bool) : (see ⟨h, r, false⟩ (!h)).c = (r != h) := by cases h <;> cases r <;> rfl
theorem see_b (h r : Bool) : (see ⟨!h, r, false⟩ h).c = (r == h) := by cases h <;> cases r <;> rfl
theorem see_same (h r : Bool) : see ⟨h, r, false⟩ h = ⟨h, r, false⟩ := by cases h <;> cases r <;> rfl

set_option maxRecDepth 100000 in
set_option maxHeartbeats 2000000 in
theorem good (hi ri : Bool) (n : Nat) (W : World) (hn : n ≤ 255) :
    Calls Try.prog 6 #[.bool hi, .bool ri, .int .u8 (n : Int)] W fun e w' => e = .returned (.bool true) ∧ Below W.heap.size W w' := by
  have hn64 : IntKind.i64.wrap (n : Int) = n := by rw [IntKind.wrap_i64]; omega
  go_enter Try.func6, Try.ntmps6
  go_wp2_with (go_at_call 19; fail)
  refine (NewEdge hi _).mono ?_
  rintro e w1 ⟨b, rfl, hb, hA1, hB1⟩
  have HB1 : Hid (Below W.heap.size W w1) := hB1
  have HA1 : Hid (EAt w1 b ⟨hi, false, false⟩) := hA1
  clear hA1 hB1
  go_wp2_with (go_at_call 20; fail)
  refine (Choose b ri _ _ HA1.out).mono ?_
  rintro e w2 ⟨rfl, hA2, hT2⟩
  have HB2 : Hid (Below W.heap.size W w2) := HB1.out.trans (hT2.below hb HB1.out.size)
  have HA2 : Hid (EAt w2 b ⟨hi, ri, false⟩) := hA2
  clear hA2 hT2 HA1 HB1
  go_wp2
  go_loopw [8] (fun v wr => ∃ k : Nat, k ≤ n ∧ v = .int .i64 (k : Int) ∧ EAt wr b ⟨hi, ri, false⟩ ∧ Below W.heap.size W wr) (fun v _ => n - (intOf v).toNat)
  case atStart => exact ⟨0, by omega, rfl, HA2.out, HB2.out⟩
  case round =>
    obtain ⟨k, hk, rfl, hA, hB⟩ := hrel
    have HA : Hid (EAt wr b ⟨hi, ri, false⟩) := hA
    have HB : Hid (Below W.heap.size W wr) := hB
    clear hA hB HA2 HB2
    by_cases hl : k < n
    · go_wp2_with (go_at_call 24; fail)
      refine (See b hi _ _ HA.out).mono ?_
      rintro e w3 ⟨rfl, hA3, hT3⟩
      rw [see_same] at hA3
      have HA3 : Hid (EAt w3 b ⟨hi, ri, false⟩) := hA3
      have HB3 : Hid (Below W.heap.size W w3) := HB.out.trans (hT3.below hb HB.out.size)
      clear hA3 hT3
      go_wp2_with (go_at_call 26; fail)
      refine (Caught b _ _ HA3.out).mono ?_
      rintro e w4 ⟨rfl, rfl⟩
      simp only
      go_wp2
      go_roundw
      case rel => exact ⟨k + 1, hl, by go_num, HA3.out, HB3.out⟩
      case measure => simp [intOf]; omega
    · have hkn : k = n := by omega
      subst hkn
      go_wp2_with (go_at_call 24; fail)
      refine (See b (!hi) _ _ HA.out).mono ?_
      rintro e w3 ⟨rfl, hA3, hT3⟩
      have HA3 : Hid (EAt w3 b (see ⟨hi, ri, false⟩ (!hi))) := hA3
      have HB3 : Hid (Below W.heap.size W w3) := HB.out.trans (hT3.below hb HB.out.size)
      clear hA3 hT3
      go_wp2_with (go_at_call 21; fail)
      refine (Take b _ _ HA3.out).mono ?_
      rintro e w4 ⟨rfl, hA4, hT4⟩
      rw [see_a]
      have HA4 : Hid (EAt w4 b ⟨!hi, ri, false⟩) := hA4
      have HB4 : Hid (Below W.heap.size W w4) := HB3.out.trans (hT4.below hb HB3.out.size)
      clear hA4 hT4 HA3 HB3
      go_wp2_with (go_at_call 24; fail)
      refine (See b hi _ _ HA4.out).mono ?_
      rintro e w5 ⟨rfl, hA5, hT5⟩
      have HA5 : Hid (EAt w5 b (see ⟨!hi, ri, false⟩ hi)) := hA5
      have HB5 : Hid (Below W.heap.size W w5) := HB4.out.trans (hT5.below hb HB4.out.size)
      clear hA5 hT5 HA4 HB4
      go_wp2_with (go_at_call 21; fail)
      refine (Take b _ _ HA5.out).mono ?_
      rintro e w6 ⟨rfl, hA6, hT6⟩
      rw [see_b]
      have HB6 : Hid (Below W.heap.size W w6) := HB5.out.trans (hT6.below hb HB5.out.size)
      clear hA6 hT6 HA5 HB5
      cases hi <;> cases ri
      all_goals
        go_wp2_with (go_at_call 18; refine (awake7 _).mono ?_; rintro e w7 ⟨rfl, hB7⟩)
        go_returns
        exact ⟨rfl, HB6.out.trans (hB7.mono HB6.out.size)⟩

theorem walk (hi ri : Bool) (a2 : Int) (w2 : (Lit.int .u8 a2).wf = true) (W : World) :
    Calls Try.prog 6 #[.bool hi, .bool ri, .int .u8 a2] W fun e w' => e = .returned (.bool true) ∧ Below W.heap.size W w' := by
  obtain ⟨x2, y2⟩ : 0 ≤ a2 ∧ a2 ≤ 255 := by have := bounds_u8 w2; omega
  obtain ⟨n2, rfl⟩ := Int.eq_ofNat_of_zero_le x2
  exact good hi ri n2 W (by omega)

end Go.Proofs.Ytgclgegdojnpcaa.portSeldom
