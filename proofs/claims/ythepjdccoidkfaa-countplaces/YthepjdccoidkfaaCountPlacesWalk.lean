/- CountPlaces, walked: whatever comes in, true comes out. -/
import Derived.Test.YthepjdccoidkfaaAwakeTwo
import Derived.Test.YthepjdccoidkfaaRefTwo
namespace Go.Proofs.Ythepjdccoidkfaa.countPlaces
open Go.RowKit Count

theorem plOther {w w' : World} {b c n lo hi : Nat} (h : PlAt w c n) (ht : Touch b lo hi w w') (hne : c ≠ b) : PlAt w' c n :=
  ⟨⟨⟨(ht.other h.lt hne).trans h.c.p.c0, (ht.other h.lt hne).trans h.c.p.c1, (ht.other h.lt hne).trans h.c.p.c2, (ht.otherFz h.lt hne).trans h.c.p.fz⟩, (ht.other h.lt hne).trans h.c.l, h.c.i1, h.c.n1⟩, ⟨(ht.other h.lt hne).trans h.d.c0, (ht.other h.lt hne).trans h.d.c1, (ht.otherFz h.lt hne).trans h.d.fz⟩, h.n1⟩

set_option maxRecDepth 100000 in
set_option maxHeartbeats 2000000 in
/-- From the law's beginning to its loop's end, n0 being where the place stands at first. -/
theorem good (at' ask : Int) (n0 t : Nat) (W : World) (ht : t ≤ 255) (hk : -9223372036854775808 ≤ ask ∧ ask ≤ 9223372036854775807)
    (h0 : (0 ≤ at' ∧ at' < 160 ∧ (n0 : Int) = at' ∧ cntE 160 at' = 0) ∨ ((at' < 0 ∨ 160 ≤ at') ∧ n0 = 0 ∧ cntE 160 at' = 6)) (hs : Hid (cntS 160 0 at' = n0)) (h1 : n0 < 160) :
    Calls Try.prog 11 #[.int .i64 at', .int .u8 (t : Int), .int .i64 ask] W fun e w' => e = .returned (.bool true) ∧ Below W.heap.size W w' := by
  rcases h0 with ⟨ha1, ha2, rfl, hE⟩ | ⟨ha | ha, rfl, hE⟩
  all_goals
    go_enter Try.func11, Try.ntmps11
    go_wp2_with (go_at_call 48; fail)
    refine (Begin _).mono ?_
    rintro e w1 ⟨b, rfl, hb, hD1, hB1⟩
    have HB1 : Hid (Below W.heap.size W w1) := hB1
    clear hB1
    go_wp2_with (go_at_call 49; fail)
    refine (PlSet b 0 _ _ hD1).mono ?_
    rintro e w2 ⟨rfl, hD2, hT2⟩
    rw [hs.out] at hD2
    have HD2 : Hid (PlAt w2 b _) := hD2
    have HB2 : Hid (Below W.heap.size W w2) := HB1.out.trans (hT2.below (by omega) HB1.out.size)
    clear hT2 hD1 hD2 HB1
    try have hz : (0 == at') = false := beq_eq_false_iff_ne.2 (by omega)
    go_wp2
    go_loopw [9, 10] (fun v i wr => ∃ k a : Nat, k ≤ t ∧ a < 160 ∧ i = .int .i64 (k : Int) ∧ v = .int .i64 (a : Int) ∧ PlAt wr b a ∧ Below W.heap.size W wr) (fun _ i _ => t - (intOf i).toNat)
    case atStart => exact ⟨0, _, by omega, h1, rfl, rfl, HD2.out, HB2.out⟩
    case round =>
      obtain ⟨k, a, hk', ha', rfl, rfl, hDr, hBr⟩ := hrel
      have HD : Hid (PlAt wr b a) := hDr
      have HB : Hid (Below W.heap.size W wr) := hBr
      clear hDr hBr HD2 HB2
      by_cases hl : k < t
      · obtain ⟨c, hq, hq2⟩ : ∃ c : Bool, ((a : Int) == ask) = c ∧ (ask == (a : Int)) = c := ⟨_, rfl, Bool.beq_comm⟩
        have ha3 : ((a : Int) != (a : Int)) = false := by simp
        cases c
        all_goals
          go_wp2_with (go_at_call 39; fail)
          refine (Ref2.Round a 160 _ (by omega) (by omega) (by omega)).mono ?_
          rintro e w3 ⟨rfl, q, rfl⟩
          go_wp2_with (go_at_call 50; fail)
          have HBq : Hid (Below wr.heap.size wr (wr.drewN q)) := ⟨rfl, rfl, rfl, Nat.le_refl _, fun _ _ => rfl⟩
          have HDq : Hid (PlAt (wr.drewN q) b a) := HD.out.below HBq.out HD.out.lt
          refine (PlCount b a _ HDq.out).mono ?_
          rintro e w4 ⟨rfl, hb4⟩
          have HD4 : Hid (PlAt w4 b a) := HDq.out.below hb4 HDq.out.lt
          have HB4 : Hid (Below W.heap.size W w4) := HB.out.trans ((HBq.out.trans hb4).mono HB.out.size)
          clear hb4
          go_wp2_with (go_at_call 51; fail)
          refine (PlAtQ b a ask _ hk HD4.out).mono ?_
          rintro e w5 ⟨rfl, hb5⟩
          have HD5 : Hid (PlAt w5 b a) := HD4.out.below hb5 HD4.out.lt
          have HB5 : Hid (Below W.heap.size W w5) := HB4.out.trans (hb5.mono HB4.out.size)
          clear hb5 HD4 HB4
          go_wp2_with (go_at_call 52; fail)
          refine (PlTick b a _ HD5.out).mono ?_
          rintro e w6 ⟨rfl, hD6, hT6⟩
          have HD6 : Hid (PlAt w6 b (rndN a 160)) := hD6
          have HB6 : Hid (Below W.heap.size W w6) := HB5.out.trans (hT6.below (by omega) HB5.out.size)
          clear hD6 hT6 HD5 HB5
          go_wp2
          go_roundw
          case rel => exact ⟨k + 1, rndN a 160, by omega, rndN_lt (by omega), by go_num, rfl, HD6.out, HB6.out⟩
          case measure => simp [intOf]; omega
      · go_wp2_with (go_at_call 53; fail)
        refine (PlCopy b a _ HD.out).mono ?_
        rintro e w3 ⟨c, rfl, hc, hC3, hb3⟩
        have HD3 : Hid (PlAt w3 b a) := HD.out.below hb3 HD.out.lt
        have HC3 : Hid (PlAt w3 c a) := hC3
        have hbc : b < c := by have := HD.out.lt; omega
        have HB3 : Hid (Below W.heap.size W w3) := HB.out.trans (hb3.mono HB.out.size)
        clear hC3 hb3 HB HD hc
        go_wp2_with (go_at_call 52; fail)
        refine (PlTick b a _ HD3.out).mono ?_
        rintro e w6 ⟨rfl, hD6, hT6⟩
        have HC6 : Hid (PlAt w6 c a) := plOther HC3.out hT6 (by omega)
        have HB6 : Hid (Below W.heap.size W w6) := HB3.out.trans (hT6.below (by omega) HB3.out.size)
        clear hD6 hT6 HD3 HB3 HC3
        go_wp2_with (first
          | (go_at_call 50; refine (PlCount c a _ HC6.out).mono ?_; rintro e w4 ⟨rfl, hb4⟩)
          | (go_at_call 38; refine (awake2 _).mono ?_; rintro e w7 ⟨rfl, hb7⟩))
        go_ret
        have HB4 := HB6.out.trans (hb4.mono HB6.out.size)
        exact ⟨rfl, HB4.trans (hb7.mono HB4.size)⟩

theorem walk (a0 : Int) (_ : (Lit.int .i64 a0).wf = true) (a1 : Int) (w1 : (Lit.int .u8 a1).wf = true) (a2 : Int) (w2 : (Lit.int .i64 a2).wf = true) (W : World) :
    Calls Try.prog 11 #[.int .i64 a0, .int .u8 a1, .int .i64 a2] W fun e w' => e = .returned (.bool true) ∧ Below W.heap.size W w' := by
  have hb := bounds_u8 w1
  have hk := bounds_i64 w2
  obtain ⟨t, rfl⟩ := Int.eq_ofNat_of_zero_le (show 0 ≤ a1 by omega)
  by_cases h : 0 ≤ a0 ∧ a0 < 160
  · obtain ⟨k, rfl⟩ := Int.eq_ofNat_of_zero_le h.1
    have hs : cntS 160 0 (k : Int) = k := by unfold cntS; rw [if_pos (by omega)]; omega
    exact good _ a2 k t W (by omega) (by omega) (.inl ⟨h.1, h.2, rfl, if_pos h⟩) hs (by omega)
  · have hs : cntS 160 0 a0 = 0 := if_neg h
    exact good _ a2 0 t W (by omega) (by omega) (.inr ⟨by omega, rfl, if_neg h⟩) hs (by omega)

end Go.Proofs.Ythepjdccoidkfaa.countPlaces
