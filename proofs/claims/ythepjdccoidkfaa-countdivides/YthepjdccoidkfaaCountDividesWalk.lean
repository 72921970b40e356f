/- CountDivides, walked: whatever comes in, true comes out. -/
import Derived.Test.YthepjdccoidkfaaAwakeTwo
import Derived.Test.YthepjdccoidkfaaRefTwo
namespace Go.Proofs.Ythepjdccoidkfaa.countDivides
open Go.RowKit Count

set_option maxRecDepth 100000 in
set_option maxHeartbeats 1000000 in
theorem bad (n j t : Int) (W : World) (h : ¬ (1 ≤ n ∧ n ≤ 65536)) :
    Calls Try.prog 9 #[.agg #[.int .i64 n, .int .i64 j, .int .u8 t]] W fun e w' => e = .returned (.bool true) ∧ Below W.heap.size W w' := by
  have hc : n < 1 ∨ 65536 < n := by omega
  rcases hc with hc | hc
  all_goals
    go_enter Try.func9, Try.ntmps9
    go_wp2_with (first
      | (go_at_call 33; refine (By_no n _ h).mono ?_; rintro e w1 ⟨rfl, rfl⟩)
      | (go_at_call 34; refine (DSet_nil _ _).mono ?_; rintro e w1 ⟨rfl, rfl⟩)
      | (go_at_call 35; refine (DTick_nil _).mono ?_; rintro e w1 ⟨rfl, rfl⟩)
      | (go_at_call 36; refine (DCount_nil _).mono ?_; rintro e w1 ⟨rfl, rfl⟩)
      | (go_at_call 37; refine (DPhase_nil _).mono ?_; rintro e w1 ⟨rfl, rfl⟩)
      | (go_at_call 38; refine (awake2 _).mono ?_; rintro e w6 ⟨rfl, hb6⟩))
    go_ret
    exact ⟨rfl, ((Below.refl _ W).alloc (Nat.le_refl _) _).trans (hb6.mono (by simp))⟩

set_option maxRecDepth 100000 in
set_option maxHeartbeats 2000000 in
theorem good (n t : Nat) (j : Int) (W : World) (h1 : 1 ≤ n) (h2 : n ≤ 65536) (ht : t ≤ 255) :
    Calls Try.prog 9 #[.agg #[.int .i64 (n : Int), .int .i64 j, .int .u8 (t : Int)]] W fun e w' => e = .returned (.bool true) ∧ Below W.heap.size W w' := by
  have X0 : Hid ((W.alloc (.cells #[.int .i64 (n : Int), .int .i64 j, .int .u8 (t : Int)] 55)).heap[W.heap.size]? = some (.cells #[.int .i64 (n : Int), .int .i64 j, .int .u8 (t : Int)] 55 (0, 0))) := heap_alloc_new W _
  have n1 : (1 : Int) ≤ (n : Int) := by omega
  have n2 : (n : Int) ≤ 65536 := by omega
  go_enter Try.func9, Try.ntmps9
  go_wp2_with (go_at_call 33; fail)
  refine (By_yes n _ h1 h2).mono ?_
  rintro e w1 ⟨b, rfl, hb, hD1, hB1⟩
  have X1 : Hid (w1.heap[W.heap.size]? = some (.cells #[.int .i64 (n : Int), .int .i64 j, .int .u8 (t : Int)] 55 (0, 0))) := (hB1.block W.heap.size (by simp)).trans X0.out
  have hbW : W.heap.size < b := by simp at hb; omega
  have HB1 : Hid (Below W.heap.size W w1) := ((Below.refl _ W).alloc (Nat.le_refl _) _).trans (hB1.mono (by simp))
  obtain ⟨x0, x1, x2⟩ := cell3 X1.out
  clear hB1 hb X0
  go_wp2_with (go_at_call 34; fail)
  refine (DSet b 0 0 n j _ hD1).mono ?_
  rintro e w2 ⟨rfl, hD2, hT2⟩
  have X2 : Hid (w2.heap[W.heap.size]? = some (.cells #[.int .i64 (n : Int), .int .i64 j, .int .u8 (t : Int)] 55 (0, 0))) := (hT2.block _ (lt_of_block X1.out) (by omega)).trans X1.out
  have HB2 : Hid (Below W.heap.size W w2) := HB1.out.trans (hT2.below (by omega) HB1.out.size)
  clear hT2 hD1 X1 HB1 x0 x1 x2
  obtain ⟨x0, x1, x2⟩ := cell3 X2.out
  by_cases hj : 0 ≤ j ∧ j < n
  · have hE : cntE n j = 0 := if_pos hj
    obtain ⟨hj1, hj2⟩ := hj
    obtain ⟨a0, rfl⟩ := Int.eq_ofNat_of_zero_le hj1
    have HD2 : Hid (DAt w2 b 0 a0 n) := by
      have e : cntS n 0 (a0 : Int) = a0 := by show (if _ then _ else _) = _; rw [if_pos (by omega)]; omega
      rwa [e] at hD2
    clear hD2
    go_wp2
    go_loopw [5, 6] (fun v i wr => ∃ k a : Nat, k ≤ t ∧ a < n ∧ i = .int .i64 (k : Int) ∧ v = .int .i64 (a : Int) ∧ DAt wr b 0 a n ∧ Below W.heap.size W wr ∧ wr.heap[W.heap.size]? = some (.cells #[.int .i64 (n : Int), .int .i64 (a0 : Int), .int .u8 (t : Int)] 55 (0, 0))) (fun _ i _ => t - (intOf i).toNat)
    case atStart => exact ⟨0, a0, by omega, by omega, rfl, rfl, HD2.out, HB2.out, X2.out⟩
    case round =>
      obtain ⟨k, a, hk, ha, rfl, rfl, hDr, hBr, hXr⟩ := hrel
      have HD : Hid (DAt wr b 0 a n) := hDr
      have HB : Hid (Below W.heap.size W wr) := hBr
      have HX : Hid (wr.heap[W.heap.size]? = some (.cells #[.int .i64 (n : Int), .int .i64 (a0 : Int), .int .u8 (t : Int)] 55 (0, 0))) := hXr
      obtain ⟨x0, x1, x2⟩ := cell3 HX.out
      have hsz : W.heap.size < wr.heap.size := lt_of_block HX.out
      clear hDr hBr hXr HD2 HB2 X2
      by_cases hl : k < t
      · go_wp2_with (go_at_call 39; fail)
        refine (Ref2.Round a n _ (by omega) (by omega) (by omega)).mono ?_
        rintro e w3 ⟨rfl, q, rfl⟩
        go_wp2
        go_region_held3 (fun w' => w'.cell? ⟨W.heap.size, 0, none⟩ = some (.int .i64 (n : Int))) (go_keep) (first
          | (go_at_call 36; refine (DCount b 0 a n _ ?_).mono ?_; (exact ⟨HD.out.c0, HD.out.c1, HD.out.fz⟩); rintro e w4 ⟨rfl, rfl⟩)
          | (go_at_call 37; refine (DPhase b 0 a n _ (by omega) ?_).mono ?_; (exact ⟨HD.out.c0, HD.out.c1, HD.out.fz⟩); rintro e w4 ⟨rfl, q2, rfl⟩; have hc4 : ((wr.drewN q).drew.drewN q2).cell? ⟨W.heap.size, 0, none⟩ = some (.int .i64 (n : Int)) := x0)
          | (go_at_call 40; refine (Ref2.Phase a n _ (by omega)).mono ?_; rintro e w4 ⟨rfl, rfl⟩)
          | (go_at_call 35; refine (DTick b 0 a n _ ha (by omega) ?_).mono ?_; (exact ⟨HD.out.c0, HD.out.c1, HD.out.fz⟩); rintro e w5 ⟨rfl, hD5, hT5⟩; have hc5 : w5.cell? ⟨W.heap.size, 0, none⟩ = some (.int .i64 (n : Int)) := (hT5.other (by simpa using hsz) (by omega)).trans x0; have HD5 : Hid (DAt w5 b 0 (rndN a n) n) := hD5; have HT5 : Hid (Touch b 0 1 wr w5) := ⟨hT5.os, hT5.tape, hT5.output, hT5.size, hT5.block, hT5.cell, hT5.fz⟩; clear hD5 hT5))
        go_wp2
        go_roundw
        case rel => exact ⟨k + 1, rndN a n, by omega, rndN_lt (by omega), by go_num, rfl, HD5.out, HB.out.trans (HT5.out.below (by omega) HB.out.size), (HT5.out.block _ hsz (by omega)).trans HX.out⟩
        case measure => simp [intOf]; omega
      · have hkt : k = t := by omega
        subst hkt
        go_wp2_with (first
          | (go_at_call 36; refine (DCount b 0 a n _ HD.out).mono ?_; rintro e w4 ⟨rfl, rfl⟩)
          | (go_at_call 38; refine (awake2 _).mono ?_; rintro e w6 ⟨rfl, hb6⟩))
        go_ret
        exact ⟨rfl, HB.out.trans (hb6.mono HB.out.size)⟩

  · have hE : cntE n j = 6 := if_neg hj
    have HD2 : Hid (DAt w2 b 0 0 n) := by
      have e : cntS n 0 j = 0 := if_neg hj
      rwa [e] at hD2
    have hz : (0 == j) = false := beq_eq_false_iff_ne.2 (by omega)
    clear hD2
    by_cases hj1 : 0 ≤ j
    · have hj2 : (n : Int) ≤ j := by omega
      clear hj
      go_wp2
      go_loopw [5, 6] (fun v i wr => ∃ k a : Nat, k ≤ t ∧ a < n ∧ i = .int .i64 (k : Int) ∧ v = .int .i64 (a : Int) ∧ DAt wr b 0 a n ∧ Below W.heap.size W wr ∧ wr.heap[W.heap.size]? = some (.cells #[.int .i64 (n : Int), .int .i64 j, .int .u8 (t : Int)] 55 (0, 0))) (fun _ i _ => t - (intOf i).toNat)
      case atStart => exact ⟨0, 0, by omega, by omega, rfl, rfl, HD2.out, HB2.out, X2.out⟩
      case round =>
        obtain ⟨k, a, hk, ha, rfl, rfl, hDr, hBr, hXr⟩ := hrel
        have HD : Hid (DAt wr b 0 a n) := hDr
        have HB : Hid (Below W.heap.size W wr) := hBr
        have HX : Hid (wr.heap[W.heap.size]? = some (.cells #[.int .i64 (n : Int), .int .i64 j, .int .u8 (t : Int)] 55 (0, 0))) := hXr
        obtain ⟨x0, x1, x2⟩ := cell3 HX.out
        have hsz : W.heap.size < wr.heap.size := lt_of_block HX.out
        clear hDr hBr hXr HD2 HB2 X2
        by_cases hl : k < t
        · go_wp2_with (go_at_call 39; fail)
          refine (Ref2.Round a n _ (by omega) (by omega) (by omega)).mono ?_
          rintro e w3 ⟨rfl, q, rfl⟩
          go_wp2
          go_region_held3 (fun w' => w'.cell? ⟨W.heap.size, 0, none⟩ = some (.int .i64 (n : Int))) (go_keep) (first
            | (go_at_call 36; refine (DCount b 0 a n _ ?_).mono ?_; (exact ⟨HD.out.c0, HD.out.c1, HD.out.fz⟩); rintro e w4 ⟨rfl, rfl⟩)
            | (go_at_call 37; refine (DPhase b 0 a n _ (by omega) ?_).mono ?_; (exact ⟨HD.out.c0, HD.out.c1, HD.out.fz⟩); rintro e w4 ⟨rfl, q2, rfl⟩; have hc4 : ((wr.drewN q).drew.drewN q2).cell? ⟨W.heap.size, 0, none⟩ = some (.int .i64 (n : Int)) := x0)
            | (go_at_call 40; refine (Ref2.Phase a n _ (by omega)).mono ?_; rintro e w4 ⟨rfl, rfl⟩)
            | (go_at_call 35; refine (DTick b 0 a n _ ha (by omega) ?_).mono ?_; (exact ⟨HD.out.c0, HD.out.c1, HD.out.fz⟩); rintro e w5 ⟨rfl, hD5, hT5⟩; have hc5 : w5.cell? ⟨W.heap.size, 0, none⟩ = some (.int .i64 (n : Int)) := (hT5.other (by simpa using hsz) (by omega)).trans x0; have HD5 : Hid (DAt w5 b 0 (rndN a n) n) := hD5; have HT5 : Hid (Touch b 0 1 wr w5) := ⟨hT5.os, hT5.tape, hT5.output, hT5.size, hT5.block, hT5.cell, hT5.fz⟩; clear hD5 hT5))
          go_wp2
          go_roundw
          case rel => exact ⟨k + 1, rndN a n, by omega, rndN_lt (by omega), by go_num, rfl, HD5.out, HB.out.trans (HT5.out.below (by omega) HB.out.size), (HT5.out.block _ hsz (by omega)).trans HX.out⟩
          case measure => simp [intOf]; omega
        · have hkt : k = t := by omega
          subst hkt
          go_wp2_with (first
            | (go_at_call 36; refine (DCount b 0 a n _ HD.out).mono ?_; rintro e w4 ⟨rfl, rfl⟩)
            | (go_at_call 38; refine (awake2 _).mono ?_; rintro e w6 ⟨rfl, hb6⟩))
          go_ret
          exact ⟨rfl, HB.out.trans (hb6.mono HB.out.size)⟩

    · clear hj
      go_wp2
      go_loopw [5, 6] (fun v i wr => ∃ k a : Nat, k ≤ t ∧ a < n ∧ i = .int .i64 (k : Int) ∧ v = .int .i64 (a : Int) ∧ DAt wr b 0 a n ∧ Below W.heap.size W wr ∧ wr.heap[W.heap.size]? = some (.cells #[.int .i64 (n : Int), .int .i64 j, .int .u8 (t : Int)] 55 (0, 0))) (fun _ i _ => t - (intOf i).toNat)
      case atStart => exact ⟨0, 0, by omega, by omega, rfl, rfl, HD2.out, HB2.out, X2.out⟩
      case round =>
        obtain ⟨k, a, hk, ha, rfl, rfl, hDr, hBr, hXr⟩ := hrel
        have HD : Hid (DAt wr b 0 a n) := hDr
        have HB : Hid (Below W.heap.size W wr) := hBr
        have HX : Hid (wr.heap[W.heap.size]? = some (.cells #[.int .i64 (n : Int), .int .i64 j, .int .u8 (t : Int)] 55 (0, 0))) := hXr
        obtain ⟨x0, x1, x2⟩ := cell3 HX.out
        have hsz : W.heap.size < wr.heap.size := lt_of_block HX.out
        clear hDr hBr hXr HD2 HB2 X2
        by_cases hl : k < t
        · go_wp2_with (go_at_call 39; fail)
          refine (Ref2.Round a n _ (by omega) (by omega) (by omega)).mono ?_
          rintro e w3 ⟨rfl, q, rfl⟩
          go_wp2
          go_region_held3 (fun w' => w'.cell? ⟨W.heap.size, 0, none⟩ = some (.int .i64 (n : Int))) (go_keep) (first
            | (go_at_call 36; refine (DCount b 0 a n _ ?_).mono ?_; (exact ⟨HD.out.c0, HD.out.c1, HD.out.fz⟩); rintro e w4 ⟨rfl, rfl⟩)
            | (go_at_call 37; refine (DPhase b 0 a n _ (by omega) ?_).mono ?_; (exact ⟨HD.out.c0, HD.out.c1, HD.out.fz⟩); rintro e w4 ⟨rfl, q2, rfl⟩; have hc4 : ((wr.drewN q).drew.drewN q2).cell? ⟨W.heap.size, 0, none⟩ = some (.int .i64 (n : Int)) := x0)
            | (go_at_call 40; refine (Ref2.Phase a n _ (by omega)).mono ?_; rintro e w4 ⟨rfl, rfl⟩)
            | (go_at_call 35; refine (DTick b 0 a n _ ha (by omega) ?_).mono ?_; (exact ⟨HD.out.c0, HD.out.c1, HD.out.fz⟩); rintro e w5 ⟨rfl, hD5, hT5⟩; have hc5 : w5.cell? ⟨W.heap.size, 0, none⟩ = some (.int .i64 (n : Int)) := (hT5.other (by simpa using hsz) (by omega)).trans x0; have HD5 : Hid (DAt w5 b 0 (rndN a n) n) := hD5; have HT5 : Hid (Touch b 0 1 wr w5) := ⟨hT5.os, hT5.tape, hT5.output, hT5.size, hT5.block, hT5.cell, hT5.fz⟩; clear hD5 hT5))
          go_wp2
          go_roundw
          case rel => exact ⟨k + 1, rndN a n, by omega, rndN_lt (by omega), by go_num, rfl, HD5.out, HB.out.trans (HT5.out.below (by omega) HB.out.size), (HT5.out.block _ hsz (by omega)).trans HX.out⟩
          case measure => simp [intOf]; omega
        · have hkt : k = t := by omega
          subst hkt
          go_wp2_with (first
            | (go_at_call 36; refine (DCount b 0 a n _ HD.out).mono ?_; rintro e w4 ⟨rfl, rfl⟩)
            | (go_at_call 38; refine (awake2 _).mono ?_; rintro e w6 ⟨rfl, hb6⟩))
          go_ret
          exact ⟨rfl, HB.out.trans (hb6.mono HB.out.size)⟩


theorem walk (a0_0 a0_1 a0_2 : Int) (_ : (Lit.int .i64 a0_0).wf = true) (_ : (Lit.int .i64 a0_1).wf = true) (w2 : (Lit.int .u8 a0_2).wf = true) (W : World) :
    Calls Try.prog 9 #[.agg #[.int .i64 a0_0, .int .i64 a0_1, .int .u8 a0_2]] W fun e w' => e = .returned (.bool true) ∧ Below W.heap.size W w' := by
  by_cases h : 1 ≤ a0_0 ∧ a0_0 ≤ 65536
  · have hb := bounds_u8 w2
    obtain ⟨n, rfl⟩ := Int.eq_ofNat_of_zero_le (show 0 ≤ a0_0 by omega)
    obtain ⟨t, rfl⟩ := Int.eq_ofNat_of_zero_le (show 0 ≤ a0_2 by omega)
    exact good n t a0_1 W (by omega) (by omega) (by omega)
  · exact bad _ _ _ W h

end Go.Proofs.Ythepjdccoidkfaa.countDivides
