/- CountMarks, walked: whatever comes in, true comes out. -/
import Derived.Test.YthepjdccoidkfaaAwakeTwo
namespace Go.Proofs.Ythepjdccoidkfaa.countMarks
open Go.RowKit Count

/-- How many of the counts below k are i. -/
def sm (i k : Nat) : Nat := if i < k then 1 else 0
theorem sm_same (i : Nat) : sm i (i + 1) = sm i i + 1 := by unfold sm; rw [if_pos (by omega), if_neg (by omega)]
theorem sm_other {i k : Nat} (h : i ≠ k) : sm i (k + 1) = sm i k := by
  unfold sm
  by_cases hk : i < k
  · rw [if_pos (by omega), if_pos hk]
  · rw [if_neg (by omega), if_neg hk]
theorem sm_le (i k : Nat) : sm i k ≤ 1 := by unfold sm; split <;> omega
theorem cOther {w w' : World} {b c i n lo hi : Nat} (h : CAt w c 0 i n) (ht : Touch b lo hi w w') (hne : c ≠ b) : CAt w' c 0 i n :=
  ⟨⟨(ht.other h.lt hne).trans h.p.c0, (ht.other h.lt hne).trans h.p.c1, (ht.other h.lt hne).trans h.p.c2, (ht.otherFz h.lt hne).trans h.p.fz⟩, (ht.other h.lt hne).trans h.l, h.i1, h.n1⟩

set_option maxRecDepth 100000 in
set_option maxHeartbeats 2000000 in
theorem good (n i : Nat) (W : World) (h1 : 1 ≤ n) (h2 : n ≤ 63) (hi : i < n) :
    Calls Try.prog 13 #[.int .i64 (n : Int), .int .i64 (i : Int)] W fun e w' => e = .returned (.bool true) ∧ Below W.heap.size W w' := by
  have hE : cntE n (i : Int) = 0 := if_pos (by omega)
  have HS : Hid (cntS n 0 (i : Int) = i) := by have : cntS n 0 (i : Int) = i := (by unfold cntS; rw [if_pos (by omega)]; omega); exact this
  go_enter Try.func13, Try.ntmps13
  go_wp2_with (go_at_call 41; fail)
  refine (Of_yes n _ h1 h2).mono ?_
  rintro e w1 ⟨b, rfl, hb, hD1, hB1⟩
  have HB1 : Hid (Below W.heap.size W w1) := hB1
  clear hB1
  go_wp2_with (go_at_call 42; fail)
  refine (CSet b 0 0 n i _ hD1).mono ?_
  rintro e w2 ⟨rfl, hD2, hT2⟩
  rw [HS.out] at hD2
  have HD2 : Hid (CAt w2 b 0 i n) := hD2
  have HB2 : Hid (Below W.heap.size W w2) := HB1.out.trans (hT2.below hb HB1.out.size)
  clear hD1 hD2 hT2 HB1
  go_wp2
  go_loopw [6] (fun v wr => ∃ k : Nat, k ≤ n ∧ v = .int .i64 (k : Int) ∧ CAt wr b 0 i n ∧ Below W.heap.size W wr) (fun v _ => n - (intOf v).toNat)
  case atStart => exact ⟨0, by omega, rfl, HD2.out, HB2.out⟩
  case round =>
    obtain ⟨k, hk, rfl, hDr, hBr⟩ := hrel
    have HD : Hid (CAt wr b 0 i n) := hDr
    have HB : Hid (Below W.heap.size W wr) := hBr
    clear hDr hBr HD2 HB2
    by_cases hl : k < n
    · obtain ⟨c, hq, hq2⟩ : ∃ c : Bool, ((i : Int) == (k : Int)) = c ∧ ((k : Int) == (i : Int)) = c := ⟨_, rfl, Bool.beq_comm⟩
      cases c
      all_goals
        go_wp2_with (go_at_call 46; fail)
        refine (CAtQ b 0 i n (k : Int) _ HD.out).mono ?_
        rintro e w3 ⟨rfl, hb3⟩
        have HD3 : Hid (CAt w3 b 0 i n) := HD.out.below hb3 HD.out.lt
        have HB3 : Hid (Below W.heap.size W w3) := HB.out.trans (hb3.mono HB.out.size)
        clear hb3 HB HD
        go_wp2
        go_roundw
        case rel => exact ⟨k + 1, by omega, by go_num, HD3.out, HB3.out⟩
        case measure => simp [intOf]; omega
    · have hkn : k = n := by omega
      subst hkn
      go_wp2_with (go_at_call 41; fail)
      refine (Of_yes k _ h1 h2).mono ?_
      rintro e w3 ⟨d, rfl, hd, hE3, hB3⟩
      have hbd : b < d := by have := HD.out.lt; omega
      have HD3 : Hid (CAt w3 b 0 i k) := HD.out.below hB3 HD.out.lt
      have HE3 : Hid (CAt w3 d 0 0 k) := hE3
      have HB3 : Hid (Below W.heap.size W w3) := HB.out.trans (hB3.mono HB.out.size)
      clear hB3 hE3 HD HB
      go_wp2
      go_loopw [8, 9] (fun s v wr => ∃ m j : Nat, m ≤ k ∧ v = .int .i64 (m : Int) ∧ s = .int .i64 (sm i m : Int) ∧ CAt wr b 0 i k ∧ CAt wr d 0 j k ∧ Below W.heap.size W wr) (fun _ v _ => k - (intOf v).toNat)
      case atStart => exact ⟨0, 0, by omega, rfl, rfl, HD3.out, HE3.out, HB3.out⟩
      case round =>
        obtain ⟨m, j, hm, rfl, rfl, hDr, hEr, hBr⟩ := hrel
        have HD : Hid (CAt wr b 0 i k) := hDr
        have HE : Hid (CAt wr d 0 j k) := hEr
        have HB : Hid (Below W.heap.size W wr) := hBr
        clear hDr hEr hBr HD3 HE3 HB3
        by_cases hl' : m < k
        · have hEm : cntE k (m : Int) = 0 := if_pos (by omega)
          have HSm : Hid (cntS k j (m : Int) = m) := by have : cntS k j (m : Int) = m := (by unfold cntS; rw [if_pos (by omega)]; omega); exact this
          have hsl := sm_le i m
          obtain ⟨s, hs⟩ : ∃ s, s = sm i m := ⟨_, rfl⟩
          rw [← hs] at hsl ⊢
          have HSS : Hid (s = sm i m) := hs
          clear hs
          go_wp2_with (go_at_call 42; fail)
          refine (CSet d 0 j k m _ HE.out).mono ?_
          rintro e w4 ⟨rfl, hE4, hT4⟩
          rw [HSm.out] at hE4
          have HE4 : Hid (CAt w4 d 0 m k) := hE4
          have HD4 : Hid (CAt w4 b 0 i k) := cOther HD.out hT4 (by omega)
          have HB4 : Hid (Below W.heap.size W w4) := HB.out.trans (hT4.below (by omega) HB.out.size)
          clear hE4 hT4 HD HE HB
          by_cases hmi : i = m
          · subst hmi
            go_wp2_with (go_at_call 45; fail)
            refine (CMark d 0 i k _ HE4.out).mono ?_
            rintro e w5 ⟨rfl, rfl⟩
            go_wp2_with (go_at_call 45; fail)
            refine (CMark b 0 i k _ HD4.out).mono ?_
            rintro e w6 ⟨rfl, rfl⟩
            go_wp2
            go_roundw
            case rel => exact ⟨i + 1, i, by omega, by go_num, by rw [sm_same, ← HSS.out]; go_num, HD4.out, HE4.out, HB4.out⟩
            case measure => simp [intOf]; omega
          · have hmk : ((Count.mark m : Int) == (Count.mark i : Int)) = false := beq_eq_false_iff_ne.2 (fun h => mark_ne (i := m) (j := i) (by omega) (by omega) (by omega) (Int.ofNat.inj h))
            go_wp2_with (go_at_call 45; fail)
            refine (CMark d 0 m k _ HE4.out).mono ?_
            rintro e w5 ⟨rfl, rfl⟩
            go_wp2_with (go_at_call 45; fail)
            refine (CMark b 0 i k _ HD4.out).mono ?_
            rintro e w6 ⟨rfl, rfl⟩
            go_wp2
            go_roundw
            case rel => exact ⟨m + 1, m, by omega, by go_num, by rw [sm_other hmi, ← HSS.out], HD4.out, HE4.out, HB4.out⟩
            case measure => simp [intOf]; omega
        · have hmk : m = k := by omega
          subst hmk
          have hsm : sm i m = 1 := if_pos (by omega)
          have q1 : ((i : Int) == (m : Int)) = false := beq_eq_false_iff_ne.2 (by omega)
          have q2 : ((i : Int) == -1) = false := beq_eq_false_iff_ne.2 (by omega)
          rw [hsm]
          clear hsm
          go_wp2_with (go_at_call 46; fail)
          refine (CAtQ b 0 i m (m : Int) _ HD.out).mono ?_
          rintro e w3 ⟨rfl, hb3⟩
          have HD3 : Hid (CAt w3 b 0 i m) := HD.out.below hb3 HD.out.lt
          have HB3 : Hid (Below W.heap.size W w3) := HB.out.trans (hb3.mono HB.out.size)
          clear hb3 HB HD
          go_wp2_with (go_at_call 46; fail)
          refine (CAtQ b 0 i m (-1) _ HD3.out).mono ?_
          rintro e w4 ⟨rfl, hb4⟩
          have HB4 : Hid (Below W.heap.size W w4) := HB3.out.trans (hb4.mono HB3.out.size)
          clear hb4 HB3 HD3
          go_wp2_with (go_at_call 38; refine (awake2 _).mono ?_; rintro e w7 ⟨rfl, hb7⟩)
          go_ret
          exact ⟨rfl, HB4.out.trans (hb7.mono HB4.out.size)⟩

set_option maxRecDepth 100000 in
set_option maxHeartbeats 1000000 in
theorem walk (a0 : Int) (_ : (Lit.int .i64 a0).wf = true) (a1 : Int) (_ : (Lit.int .i64 a1).wf = true) (W : World) :
    Calls Try.prog 13 #[.int .i64 a0, .int .i64 a1] W fun e w' => e = .returned (.bool true) ∧ Below W.heap.size W w' := by
  by_cases hn : 1 ≤ a0 ∧ a0 ≤ 63
  · obtain ⟨n, rfl⟩ := Int.eq_ofNat_of_zero_le (show 0 ≤ a0 by omega)
    by_cases ha : 0 ≤ a1 ∧ a1 < n
    · obtain ⟨i, rfl⟩ := Int.eq_ofNat_of_zero_le ha.1
      exact good n i W (by omega) (by omega) (by omega)
    · have hE : cntE n a1 = 6 := if_neg ha
      have n1 : (1 : Int) ≤ (n : Int) := by omega
      have n2 : (n : Int) ≤ 63 := by omega
      go_enter Try.func13, Try.ntmps13
      go_wp2_with (go_at_call 41; fail)
      refine (Of_yes n _ (by omega) (by omega)).mono ?_
      rintro e w1 ⟨b, rfl, hb, hD1, hB1⟩
      have HB1 : Hid (Below W.heap.size W w1) := hB1
      clear hB1
      go_wp2_with (go_at_call 42; fail)
      refine (CSet b 0 0 n a1 _ hD1).mono ?_
      rintro e w2 ⟨rfl, hD2, hT2⟩
      have HB2 : Hid (Below W.heap.size W w2) := HB1.out.trans (hT2.below hb HB1.out.size)
      clear hD1 hD2 hT2 HB1 ha hn
      go_wp2_with (go_at_call 38; refine (awake2 _).mono ?_; rintro e w7 ⟨rfl, hb7⟩)
      go_ret
      exact ⟨ret_bool (by rw [decide_eq_false (by omega), decide_eq_false (by omega)]; rfl), HB2.out.trans (hb7.mono HB2.out.size)⟩
  · have hc : a0 < 1 ∨ 63 < a0 := by omega
    rcases hc with hc | hc
    all_goals
      go_enter Try.func13, Try.ntmps13
      go_wp2_with (first
        | (go_at_call 41; refine (Of_no a0 _ hn).mono ?_; rintro e w1 ⟨rfl, rfl⟩)
        | (go_at_call 38; refine (awake2 _).mono ?_; rintro e w7 ⟨rfl, hb7⟩))
      go_ret
      exact ⟨rfl, hb7⟩

end Go.Proofs.Ythepjdccoidkfaa.countMarks
