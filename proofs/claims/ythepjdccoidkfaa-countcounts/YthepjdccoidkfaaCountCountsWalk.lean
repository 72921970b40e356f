/- CountCounts, walked: whatever comes in, true comes out. -/
import Derived.Test.YthepjdccoidkfaaAwakeTwo
import Derived.Test.YthepjdccoidkfaaRefTwo
import Derived.Test.YthepjdccoidkfaaRefState
namespace Go.Proofs.Ythepjdccoidkfaa.countCounts
open Go.RowKit Count

/-- What the law holds at a round: the counter, the argument's box, and nothing old turned. -/
structure Bun (W w : World) (b a n : Nat) (j : Int) (t : Nat) : Prop where
  c : CAt w b 0 a n
  x : w.heap[W.heap.size]? = some (.cells #[.int .i64 (n : Int), .int .i64 j, .int .u8 (t : Int)] 55 (0, 0))
  bl : Below W.heap.size W w
  h : W.heap.size < b

theorem Bun.same {W w w' : World} {b a n t : Nat} {j : Int} (h : Bun W w b a n j t) (h1 : w'.heap = w.heap) (h2 : w'.os = w.os) (h3 : w'.tape = w.tape) (h4 : w'.output = w.output) : Bun W w' b a n j t := by
  have hb : Below (b + 1) w w' := ⟨h2, h3, h4, by rw [h1]; exact Nat.le_refl _, fun k _ => by rw [h1]⟩
  exact ⟨h.c.below hb (by omega), by rw [h1]; exact h.x, ⟨h2.trans h.bl.os, h3.trans h.bl.tape, h4.trans h.bl.output, by rw [h1]; exact h.bl.size, fun k hk => by rw [h1]; exact h.bl.block k hk⟩, h.h⟩
theorem Bun.below {W w w' : World} {b a n t : Nat} {j : Int} (h : Bun W w b a n j t) (hb : Below w.heap.size w w') : Bun W w' b a n j t :=
  ⟨h.c.below hb h.c.lt, (hb.block _ (lt_of_block h.x)).trans h.x, h.bl.trans (hb.mono h.bl.size), h.h⟩

theorem countK {W : World} {b a n t : Nat} {j : Int} (w : World) (h : Bun W w b a n j t) : Calls Try.prog 44 #[.pointer (some ⟨b, 0, none⟩)] w fun e w' => e = .returned (.int .i64 (a : Int)) ∧ Bun W w' b a n j t := by
  refine (CCount b 0 a n w h.c).mono ?_
  rintro e w' ⟨rfl, hb⟩
  exact ⟨rfl, h.below hb⟩
theorem markK {W : World} {b a n t : Nat} {j : Int} (w : World) (h : Bun W w b a n j t) : Calls Try.prog 45 #[.pointer (some ⟨b, 0, none⟩)] w fun e w' => e = .returned (.int .u8 (Count.mark a : Int)) ∧ w' = w := CMark b 0 a n w h.c
theorem refMarkK {W : World} {b a n t : Nat} {j : Int} (w : World) (ha : a < 100) (h : Bun W w b a n j t) : Calls Try.prog 47 #[.int .i64 (a : Int)] w fun e w' => e = .returned (.int .u8 (Count.mark a : Int)) ∧ Bun W w' b a n j t := by
  refine (Ref1.Mark a w ha).mono ?_
  rintro e w' ⟨rfl, hb⟩
  exact ⟨rfl, h.below hb⟩
theorem atK {W : World} {b a n t : Nat} {j : Int} (w : World) (i : Int) (h : Bun W w b a n j t) : Calls Try.prog 46 #[.pointer (some ⟨b, 0, none⟩), .int .i64 i] w fun e w' => e = .returned (.bool ((a : Int) == i)) ∧ Bun W w' b a n j t := by
  refine (CAtQ b 0 a n i w h.c).mono ?_
  rintro e w' ⟨rfl, hb⟩
  exact ⟨rfl, h.below hb⟩
theorem tickK {W : World} {b a n t : Nat} {j : Int} (w : World) (h : Bun W w b a n j t) : Calls Try.prog 43 #[.pointer (some ⟨b, 0, none⟩)] w fun e w' => e = .returned (.bool (rndB a n)) ∧ Bun W w' b (rndN a n) n j t := by
  refine (CTick b 0 a n w h.c).mono ?_
  rintro e w' ⟨rfl, hc, hT⟩
  exact ⟨rfl, hc, (hT.block _ (lt_of_block h.x) (by have := h.h; omega)).trans h.x, h.bl.trans (hT.below (by have := h.h; omega) h.bl.size), h.h⟩

set_option maxRecDepth 100000 in
set_option maxHeartbeats 1000000 in
theorem bad (n j t : Int) (W : World) (h : ¬ (1 ≤ n ∧ n ≤ 63)) :
    Calls Try.prog 10 #[.agg #[.int .i64 n, .int .i64 j, .int .u8 t]] W fun e w' => e = .returned (.bool true) ∧ Below W.heap.size W w' := by
  have hc : n < 1 ∨ 63 < n := by omega
  rcases hc with hc | hc
  all_goals
    go_enter Try.func10, Try.ntmps10
    go_wp2_with (first
      | (go_at_call 41; refine (Of_no n _ h).mono ?_; rintro e w1 ⟨rfl, rfl⟩)
      | (go_at_call 42; refine (CSet_nil _ _).mono ?_; rintro e w1 ⟨rfl, rfl⟩)
      | (go_at_call 43; refine (CTick_nil _).mono ?_; rintro e w1 ⟨rfl, rfl⟩)
      | (go_at_call 44; refine (CCount_nil _).mono ?_; rintro e w1 ⟨rfl, rfl⟩)
      | (go_at_call 45; refine (CMark_nil _).mono ?_; rintro e w1 ⟨rfl, rfl⟩)
      | (go_at_call 46; refine (CAt_nil _ _).mono ?_; rintro e w1 ⟨rfl, rfl⟩)
      | (go_at_call 38; refine (awake2 _).mono ?_; rintro e w6 ⟨rfl, hb6⟩))
    go_ret
    exact ⟨rfl, ((Below.refl _ W).alloc (Nat.le_refl _) _).trans (hb6.mono (by simp))⟩

set_option maxRecDepth 100000 in
set_option maxHeartbeats 2000000 in
theorem good (n t : Nat) (j : Int) (W : World) (h1 : 1 ≤ n) (h2 : n ≤ 63) (ht : t ≤ 255) :
    Calls Try.prog 10 #[.agg #[.int .i64 (n : Int), .int .i64 j, .int .u8 (t : Int)]] W fun e w' => e = .returned (.bool true) ∧ Below W.heap.size W w' := by
  have X0 : Hid ((W.alloc (.cells #[.int .i64 (n : Int), .int .i64 j, .int .u8 (t : Int)] 55)).heap[W.heap.size]? = some (.cells #[.int .i64 (n : Int), .int .i64 j, .int .u8 (t : Int)] 55 (0, 0))) := heap_alloc_new W _
  have n1 : (1 : Int) ≤ (n : Int) := by omega
  have n2 : (n : Int) ≤ 63 := by omega
  go_enter Try.func10, Try.ntmps10
  go_wp2_with (go_at_call 41; fail)
  refine (Of_yes n _ h1 h2).mono ?_
  rintro e w1 ⟨b, rfl, hb, hD1, hB1⟩
  have X1 : Hid (w1.heap[W.heap.size]? = some (.cells #[.int .i64 (n : Int), .int .i64 j, .int .u8 (t : Int)] 55 (0, 0))) := (hB1.block W.heap.size (by simp)).trans X0.out
  have hbW : W.heap.size < b := by simp at hb; omega
  have HB1 : Hid (Below W.heap.size W w1) := ((Below.refl _ W).alloc (Nat.le_refl _) _).trans (hB1.mono (by simp))
  obtain ⟨x0, x1, x2⟩ := cell3 X1.out
  clear hB1 hb X0
  go_wp2_with (go_at_call 42; fail)
  refine (CSet b 0 0 n j _ hD1).mono ?_
  rintro e w2 ⟨rfl, hD2, hT2⟩
  have X2 : Hid (w2.heap[W.heap.size]? = some (.cells #[.int .i64 (n : Int), .int .i64 j, .int .u8 (t : Int)] 55 (0, 0))) := (hT2.block _ (lt_of_block X1.out) (by omega)).trans X1.out
  have HB2 : Hid (Below W.heap.size W w2) := HB1.out.trans (hT2.below (by omega) HB1.out.size)
  clear hT2 hD1 X1 HB1 x0 x1 x2
  obtain ⟨x0, x1, x2⟩ := cell3 X2.out
  by_cases hj : 0 ≤ j ∧ j < n
  · have hE : cntE n j = 0 := if_pos hj
    obtain ⟨hj1, hj2⟩ := hj
    obtain ⟨a0, rfl⟩ := Int.eq_ofNat_of_zero_le hj1
    have e : cntS n 0 (a0 : Int) = a0 := by show (if _ then _ else _) = _; rw [if_pos (by omega)]; omega
    rw [e] at hD2
    have B2 : Hid (Bun W w2 b a0 n (a0 : Int) t) := ⟨hD2, X2.out, HB2.out, hbW⟩
    clear hD2 e X2 HB2
    go_wp2
    go_loopw [5, 6] (fun v i wr => ∃ k a : Nat, k ≤ t ∧ a < n ∧ i = .int .i64 (k : Int) ∧ v = .int .i64 (a : Int) ∧ Bun W wr b a n (a0 : Int) t) (fun _ i _ => t - (intOf i).toNat)
    case atStart => exact ⟨0, a0, by omega, by omega, rfl, rfl, B2.out⟩
    case round =>
      obtain ⟨k, a, hk, ha, rfl, rfl, hBr⟩ := hrel
      have HB : Hid (Bun W wr b a n (a0 : Int) t) := hBr
      obtain ⟨x0, x1, x2⟩ := cell3 HB.out.x
      clear hBr B2
      by_cases hl : k < t
      · obtain ⟨c, hq, hq2⟩ : ∃ c : Bool, ((a : Int) == (a0 : Int)) = c ∧ ((a0 : Int) == (a : Int)) = c := ⟨_, rfl, Bool.beq_comm⟩
        cases c
        all_goals
          go_wp2_with (go_at_call 39; fail)
          refine (Ref2.Round a n _ (by omega) (by omega) (by omega)).mono ?_
          rintro e w3 ⟨rfl, q, rfl⟩
          have hm : ((Count.mark a : Int) != (Count.mark a : Int)) = false := by simp
          have ha1 : ((a : Int) == (a : Int)) = true := by simp
          have ha3 : ((a : Int) != (a : Int)) = false := by simp
          go_wp2
          go_region_held3 (fun w' => w'.cell? ⟨W.heap.size, 1, none⟩ = some (.int .i64 (a0 : Int))) (go_keep) (first
            | (go_at_call 44; refine (countK (W := W) (a := a) (n := n) (t := t) (j := (a0 : Int)) _ (by first | assumption | exact HB.out.same rfl rfl rfl rfl)).mono ?_; rintro e w4 ⟨rfl, hB4⟩; have hc4 := (cell3 hB4.x).2.1)
            | (go_at_call 45; refine (markK (W := W) (a := a) (n := n) (t := t) (j := (a0 : Int)) _ (by first | assumption | exact HB.out.same rfl rfl rfl rfl)).mono ?_; rintro e w5 ⟨rfl, rfl⟩)
            | (go_at_call 47; refine (refMarkK (W := W) (a := a) (n := n) (t := t) (j := (a0 : Int)) _ (by omega) (by first | assumption | exact HB.out.same rfl rfl rfl rfl)).mono ?_; rintro e w6 ⟨rfl, hB6⟩; have hc6 := (cell3 hB6.x).2.1)
            | (go_at_call 46; refine (atK (W := W) (a := a) (n := n) (t := t) (j := (a0 : Int)) _ _ (by first | assumption | exact HB.out.same rfl rfl rfl rfl)).mono ?_; rintro e w7 ⟨rfl, hB7⟩; have hc7 := (cell3 hB7.x).2.1)
            | (go_at_call 43; refine (tickK (W := W) (a := a) (n := n) (t := t) (j := (a0 : Int)) _ (by first | assumption | exact HB.out.same rfl rfl rfl rfl)).mono ?_; rintro e w8 ⟨rfl, hB8⟩; have hc8 := (cell3 hB8.x).2.1))
          go_wp2
          go_roundw
          case rel => exact ⟨k + 1, rndN a n, by omega, rndN_lt (by omega), by go_num, rfl, by assumption⟩
          case measure => simp [intOf]; omega
      · have hkt : k = t := by omega
        subst hkt
        go_wp2_with (first
          | (go_at_call 44; refine (countK _ HB.out).mono ?_; rintro e w4 ⟨rfl, hB4⟩)
          | (go_at_call 38; refine (awake2 _).mono ?_; rintro e w6 ⟨rfl, hb6⟩))
        go_ret
        exact ⟨rfl, hB4.bl.trans (hb6.mono hB4.bl.size)⟩

  · have hE : cntE n j = 6 := if_neg hj
    have e : cntS n 0 j = 0 := if_neg hj
    rw [e] at hD2
    have B2 : Hid (Bun W w2 b 0 n j t) := ⟨hD2, X2.out, HB2.out, hbW⟩
    have hz : (0 == j) = false := beq_eq_false_iff_ne.2 (by omega)
    clear hD2 e X2 HB2
    by_cases hj1 : 0 ≤ j
    · have hj2 : (n : Int) ≤ j := by omega
      clear hj
      go_wp2
      go_loopw [5, 6] (fun v i wr => ∃ k a : Nat, k ≤ t ∧ a < n ∧ i = .int .i64 (k : Int) ∧ v = .int .i64 (a : Int) ∧ Bun W wr b a n j t) (fun _ i _ => t - (intOf i).toNat)
      case atStart => exact ⟨0, 0, by omega, by omega, rfl, rfl, B2.out⟩
      case round =>
        obtain ⟨k, a, hk, ha, rfl, rfl, hBr⟩ := hrel
        have HB : Hid (Bun W wr b a n j t) := hBr
        obtain ⟨x0, x1, x2⟩ := cell3 HB.out.x
        clear hBr B2
        by_cases hl : k < t
        · obtain ⟨c, hq, hq2⟩ : ∃ c : Bool, ((a : Int) == j) = c ∧ (j == (a : Int)) = c := ⟨_, rfl, Bool.beq_comm⟩
          cases c
          all_goals
            go_wp2_with (go_at_call 39; fail)
            refine (Ref2.Round a n _ (by omega) (by omega) (by omega)).mono ?_
            rintro e w3 ⟨rfl, q, rfl⟩
            have hm : ((Count.mark a : Int) != (Count.mark a : Int)) = false := by simp
            have ha1 : ((a : Int) == (a : Int)) = true := by simp
            have ha3 : ((a : Int) != (a : Int)) = false := by simp
            go_wp2
            go_region_held3 (fun w' => w'.cell? ⟨W.heap.size, 1, none⟩ = some (.int .i64 j)) (go_keep) (first
              | (go_at_call 44; refine (countK (W := W) (a := a) (n := n) (t := t) (j := j) _ (by first | assumption | exact HB.out.same rfl rfl rfl rfl)).mono ?_; rintro e w4 ⟨rfl, hB4⟩; have hc4 := (cell3 hB4.x).2.1)
              | (go_at_call 45; refine (markK (W := W) (a := a) (n := n) (t := t) (j := j) _ (by first | assumption | exact HB.out.same rfl rfl rfl rfl)).mono ?_; rintro e w5 ⟨rfl, rfl⟩)
              | (go_at_call 47; refine (refMarkK (W := W) (a := a) (n := n) (t := t) (j := j) _ (by omega) (by first | assumption | exact HB.out.same rfl rfl rfl rfl)).mono ?_; rintro e w6 ⟨rfl, hB6⟩; have hc6 := (cell3 hB6.x).2.1)
              | (go_at_call 46; refine (atK (W := W) (a := a) (n := n) (t := t) (j := j) _ _ (by first | assumption | exact HB.out.same rfl rfl rfl rfl)).mono ?_; rintro e w7 ⟨rfl, hB7⟩; have hc7 := (cell3 hB7.x).2.1)
              | (go_at_call 43; refine (tickK (W := W) (a := a) (n := n) (t := t) (j := j) _ (by first | assumption | exact HB.out.same rfl rfl rfl rfl)).mono ?_; rintro e w8 ⟨rfl, hB8⟩; have hc8 := (cell3 hB8.x).2.1))
            go_wp2
            go_roundw
            case rel => exact ⟨k + 1, rndN a n, by omega, rndN_lt (by omega), by go_num, rfl, by assumption⟩
            case measure => simp [intOf]; omega
        · have hkt : k = t := by omega
          subst hkt
          go_wp2_with (first
            | (go_at_call 44; refine (countK _ HB.out).mono ?_; rintro e w4 ⟨rfl, hB4⟩)
            | (go_at_call 38; refine (awake2 _).mono ?_; rintro e w6 ⟨rfl, hb6⟩))
          go_ret
          exact ⟨rfl, hB4.bl.trans (hb6.mono hB4.bl.size)⟩

    · clear hj
      go_wp2
      go_loopw [5, 6] (fun v i wr => ∃ k a : Nat, k ≤ t ∧ a < n ∧ i = .int .i64 (k : Int) ∧ v = .int .i64 (a : Int) ∧ Bun W wr b a n j t) (fun _ i _ => t - (intOf i).toNat)
      case atStart => exact ⟨0, 0, by omega, by omega, rfl, rfl, B2.out⟩
      case round =>
        obtain ⟨k, a, hk, ha, rfl, rfl, hBr⟩ := hrel
        have HB : Hid (Bun W wr b a n j t) := hBr
        obtain ⟨x0, x1, x2⟩ := cell3 HB.out.x
        clear hBr B2
        by_cases hl : k < t
        · obtain ⟨c, hq, hq2⟩ : ∃ c : Bool, ((a : Int) == j) = c ∧ (j == (a : Int)) = c := ⟨_, rfl, Bool.beq_comm⟩
          cases c
          all_goals
            go_wp2_with (go_at_call 39; fail)
            refine (Ref2.Round a n _ (by omega) (by omega) (by omega)).mono ?_
            rintro e w3 ⟨rfl, q, rfl⟩
            have hm : ((Count.mark a : Int) != (Count.mark a : Int)) = false := by simp
            have ha1 : ((a : Int) == (a : Int)) = true := by simp
            have ha3 : ((a : Int) != (a : Int)) = false := by simp
            go_wp2
            go_region_held3 (fun w' => w'.cell? ⟨W.heap.size, 1, none⟩ = some (.int .i64 j)) (go_keep) (first
              | (go_at_call 44; refine (countK (W := W) (a := a) (n := n) (t := t) (j := j) _ (by first | assumption | exact HB.out.same rfl rfl rfl rfl)).mono ?_; rintro e w4 ⟨rfl, hB4⟩; have hc4 := (cell3 hB4.x).2.1)
              | (go_at_call 45; refine (markK (W := W) (a := a) (n := n) (t := t) (j := j) _ (by first | assumption | exact HB.out.same rfl rfl rfl rfl)).mono ?_; rintro e w5 ⟨rfl, rfl⟩)
              | (go_at_call 47; refine (refMarkK (W := W) (a := a) (n := n) (t := t) (j := j) _ (by omega) (by first | assumption | exact HB.out.same rfl rfl rfl rfl)).mono ?_; rintro e w6 ⟨rfl, hB6⟩; have hc6 := (cell3 hB6.x).2.1)
              | (go_at_call 46; refine (atK (W := W) (a := a) (n := n) (t := t) (j := j) _ _ (by first | assumption | exact HB.out.same rfl rfl rfl rfl)).mono ?_; rintro e w7 ⟨rfl, hB7⟩; have hc7 := (cell3 hB7.x).2.1)
              | (go_at_call 43; refine (tickK (W := W) (a := a) (n := n) (t := t) (j := j) _ (by first | assumption | exact HB.out.same rfl rfl rfl rfl)).mono ?_; rintro e w8 ⟨rfl, hB8⟩; have hc8 := (cell3 hB8.x).2.1))
            go_wp2
            go_roundw
            case rel => exact ⟨k + 1, rndN a n, by omega, rndN_lt (by omega), by go_num, rfl, by assumption⟩
            case measure => simp [intOf]; omega
        · have hkt : k = t := by omega
          subst hkt
          go_wp2_with (first
            | (go_at_call 44; refine (countK _ HB.out).mono ?_; rintro e w4 ⟨rfl, hB4⟩)
            | (go_at_call 38; refine (awake2 _).mono ?_; rintro e w6 ⟨rfl, hb6⟩))
          go_ret
          exact ⟨rfl, hB4.bl.trans (hb6.mono hB4.bl.size)⟩


theorem walk (a0_0 a0_1 a0_2 : Int) (_ : (Lit.int .i64 a0_0).wf = true) (_ : (Lit.int .i64 a0_1).wf = true) (w2 : (Lit.int .u8 a0_2).wf = true) (W : World) :
    Calls Try.prog 10 #[.agg #[.int .i64 a0_0, .int .i64 a0_1, .int .u8 a0_2]] W fun e w' => e = .returned (.bool true) ∧ Below W.heap.size W w' := by
  by_cases h : 1 ≤ a0_0 ∧ a0_0 ≤ 63
  · have hb := bounds_u8 w2
    obtain ⟨n, rfl⟩ := Int.eq_ofNat_of_zero_le (show 0 ≤ a0_0 by omega)
    obtain ⟨t, rfl⟩ := Int.eq_ofNat_of_zero_le (show 0 ≤ a0_2 by omega)
    exact good n t a0_1 W (by omega) (by omega) (by omega)
  · exact bad _ _ _ W h

end Go.Proofs.Ythepjdccoidkfaa.countCounts
