/- SpriteRounds, walked: whatever comes in, true comes out. -/
import Derived.Test.YtienmoannnhhmaaDoorRefS2
set_option linter.unusedVariables false
namespace Go.Proofs.YtienmoannnhhmaaDoor.Sp
open Go.RowKit Count

theorem old_pos (n : Nat) : 1 ≤ old n ∧ old n ≤ 255 := by unfold old; split <;> omega
theorem dot0_yes (X : Nat) : dotI (ag (stp X true)).1 (ag (stp X true)).2 (ldN 0) = 0 := by rw [ag_stp]; rfl
theorem dot0_no (X : Nat) : ∃ d : Nat, dotI (ag (stp X false)).1 (ag (stp X false)).2 (ldN 0) = (d : Int) ∧ 1 ≤ d ∧ d ≤ 255 := by
  have h := old_pos (ag X).1
  have h1 : (ag (stp X false)).1 = old (ag X).1 := by
    rw [ag_stp]
    unfold tk
    rw [if_neg (by simp)]
    split <;> rfl
  refine ⟨old (ag X).1, ?_, h⟩
  rw [h1]
  unfold dotI
  rw [show ldN 0 = 0 by decide, if_pos (Nat.zero_le _)]
  omega
theorem rnd_go {a k n : Nat} (h : n = (a + k) % 160) : (a + 1 + k) % 160 = rndN n 160 := by
  by_cases hl : n = 159
  · rw [(rnd_last (n := 160) (by omega)).1]; omega
  · rw [(rnd_not (n := 160) (by omega)).1]; omega
/-- How often it has started on its way from a on. -/
def tms (c a k : Nat) : Nat := cir (fun n => (stB n c).toNat) (a + 1) k
theorem tms_yes {c a k m : Nat} (h : m = (a + 1 + k) % 160) (hs : stB m c = true) : tms c a (k + 1) = tms c a k + 1 := by
  unfold tms; rw [cir_succ, ← h, hs]; rfl
theorem tms_no {c a k m : Nat} (h : m = (a + 1 + k) % 160) (hs : stB m c = false) : tms c a (k + 1) = tms c a k := by
  unfold tms; rw [cir_succ, ← h, hs]; rfl
theorem tms_all (c a k : Nat) (h : k = 160) : tms c a k = (stI c).length := by subst h; exact cir_starts c (a + 1)
theorem tms_le (c a k : Nat) : tms c a k ≤ k := cir_le _ (fun n => by cases stB n c <;> decide) _ _

end Go.Proofs.YtienmoannnhhmaaDoor.Sp
namespace Go.Proofs.YtienmoannnhhmaaDoor.spriteRounds
open Go.RowKit Sp Count

set_option maxRecDepth 100000 in
set_option maxHeartbeats 4000000 in
theorem walk (a0 : Int) (w0 : (Lit.int .u8 a0).wf = true) (a1 : Int) (w1 : (Lit.int .u8 a1).wf = true) (W : World) (ht : Tb W) :
    Calls Tryd.prog 5 #[.int .u8 a0, .int .u8 a1] W fun e w' => e = .returned (.bool true) ∧ Below W.heap.size W w' := by
  have hb := bounds_u8 w0
  have hb1 := bounds_u8 w1
  obtain ⟨a, rfl⟩ := Int.eq_ofNat_of_zero_le (show 0 ≤ a0 by omega)
  obtain ⟨c, rfl⟩ := Int.eq_ofNat_of_zero_le (show 0 ≤ a1 by omega)
  have hc : c < 256 := by omega
  have ha : a < 256 := by omega
  have HT : Hid (Tb W) := ht
  clear ht hb hb1 w0 w1
  go_enter Tryd.func5, Tryd.ntmps5
  go_wp2_with (go_at_call 8; fail)
  refine (New W).mono ?_
  rintro e w1 ⟨b, pb, rfl, hb, hpb, hA1, hB1⟩
  have HS : Hid (∀ k, S2 b pb k → W.heap.size ≤ k) := (by rintro k (rfl | rfl) <;> omega)
  have HA1 : Hid (TAt w1 b pb 0 0) := hA1
  have HB1 : Hid (Below W.heap.size W w1) := hB1
  clear hA1 hB1 hb hpb
  go_wp2_with (go_at_call 10; fail)
  refine (Put b pb 0 0 (a : Int) _ HA1.out).mono ?_
  rintro e w2 ⟨rfl, hA2, hT2⟩
  have HB2 : Hid (Below W.heap.size W w2) := s2_back HS.out HB1.out hT2
  by_cases hl : a < 160
  case neg =>
    rw [show cntE 160 (a : Int) = 6 from if_neg (by omega)]
    clear hA2 hT2 HA1 HB1
    go_wp2_with (go_at_call 21; fail)
    refine (awake16 _ (HT.out.below HB2.out)).mono ?_
    rintro e w4 ⟨rfl, hB4⟩
    go_wp2
    go_returns
    exact ⟨rfl, b_keep HB2.out hB4⟩
  rw [show cntE 160 (a : Int) = 0 from if_pos (by omega)]
  have HA2 : Hid (TAt w2 b pb a 0) := (by rw [show cntS 160 0 (a : Int) = a from if_pos (by omega)] at hA2; exact hA2 : TAt w2 b pb a 0)
  clear hA2 hT2 HA1 HB1
  go_wp2
  go_loopw [6, 7] (fun t v wr => ∃ k n X : Nat, k ≤ 160 ∧ v = .int .i64 (k : Int) ∧ t = .int .i64 (tms c a k : Int) ∧ n = (a + k) % 160 ∧ TAt wr b pb n X ∧ Below W.heap.size W wr) (fun _ v _ => 160 - (intOf v).toNat)
  case atStart => exact ⟨0, a, 0, by omega, rfl, rfl, by omega, HA2.out, HB2.out⟩
  case round =>
    obtain ⟨k, n, X, hk, rfl, rfl, hn, hA, hB⟩ := hrel
    have HA : Hid (TAt wr b pb n X) := hA
    have HB : Hid (Below W.heap.size W wr) := hB
    have htl := tms_le c a k
    clear hA hB HA2 HB2
    by_cases hl : k < 160
    · obtain ⟨m, hm⟩ : ∃ m, m = (a + 1 + k) % 160 := ⟨_, rfl⟩
      have hm2 : m = rndN n 160 := hm.trans (rnd_go hn)
      have HM : Hid (m = (a + (k + 1)) % 160) := (by omega : m = (a + (k + 1)) % 160)
      obtain ⟨s, hs⟩ : ∃ s, stB m c = s := ⟨_, rfl⟩
      obtain ⟨T, hT⟩ : ∃ T, T = tms c a k := ⟨_, rfl⟩
      rw [← hT] at htl ⊢
      have HX : Hid (stB m c = s ∧ m = (a + 1 + k) % 160 ∧ T = tms c a k) := ⟨hs, hm, hT⟩
      clear hm hn hs hT
      go_wp2_with (go_at_call 14; fail)
      refine (TickA b pb n m X c _ hm2 hc HA.out).mono ?_
      rintro e w6 ⟨rfl, hA6, hT6⟩
      rw [HX.out.1] at hA6
      have HA6 : Hid (TAt w6 b pb m (stp X s)) := hA6
      have HB6 : Hid (Below W.heap.size W w6) := s2_back HS.out HB.out hT6
      clear hA6 hT6 hm2 HA HB
      go_wp2_with (go_at_call 16; fail)
      refine (Dot b pb m (stp X s) 0 _ (by decide) (HT.out.below HB6.out) HA6.out).mono ?_
      rintro e w7 ⟨rfl, hB7⟩
      have HA7 : Hid (TAt w7 b pb m (stp X s)) := HA6.out.below hB7
      have HB7 : Hid (Below W.heap.size W w7) := b_keep HB6.out hB7
      clear hB7 HA6 HB6
      cases s
      · obtain ⟨d, hd, hd1, hd2⟩ := dot0_no X
        rw [hd]
        clear hd
        have hd0 : ((d : Int) == 0) = false := beq_eq_false_iff_ne.2 (by omega)
        go_wp2
        go_roundw
        case rel => exact ⟨k + 1, m, stp X false, by omega, by go_num, by rw [HX.out.2.2, tms_no HX.out.2.1 HX.out.1], HM.out, HA7.out, HB7.out⟩
        case measure => simp [intOf]; omega
      · rw [dot0_yes X]
        go_wp2
        go_roundw
        case rel => exact ⟨k + 1, m, stp X true, by omega, by go_num, by rw [tms_yes HX.out.2.1 HX.out.1, ← HX.out.2.2]; go_num, HM.out, HA7.out, HB7.out⟩
        case measure => simp [intOf]; omega
    · have hk4 : k = 160 := by omega
      have hna : n = a := by omega
      rw [tms_all c a k hk4] at htl ⊢
      have HA8 : Hid (TAt wr b pb a X) := hna ▸ HA.out
      subst hk4
      clear hna hn HA
      go_wp2_with (go_at_call 20; fail)
      refine (Sp.Count b pb a X _ HA8.out).mono ?_
      rintro e w4 ⟨rfl, hB4⟩
      have HB4 : Hid (Below W.heap.size W w4) := b_keep HB.out hB4
      clear hB4 HA8 HB
      go_wp2_with (go_at_call 23; fail)
      refine (StartsS c _ hc).mono ?_
      rintro e w5 ⟨g, cap, rfl, hSn, hB5⟩
      have HB5 : Hid (Below W.heap.size W w5) := b_keep HB4.out hB5
      clear hB5 HB4 hSn
      go_wp2_with (go_at_call 21; fail)
      refine (awake16 _ (HT.out.below HB5.out)).mono ?_
      rintro e w9 ⟨rfl, hB9⟩
      go_wp2
      go_returns
      exact ⟨rfl, b_keep HB5.out hB9⟩

end Go.Proofs.YtienmoannnhhmaaDoor.spriteRounds
