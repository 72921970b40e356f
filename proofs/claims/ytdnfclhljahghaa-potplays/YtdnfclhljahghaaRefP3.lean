/- What the document's Right of layer 20 comes to. (Written by wip/gen/gen_refp2.py.) -/
import Derived.Test.YtdnfclhljahghaaRefP
import Derived.Test.YtdnfclhljahghaaPot8
namespace Go.Proofs.Ytdnfclhljahghaa.Po
open Go.RowKit
set_option linter.unusedVariables false

set_option maxRecDepth 100000 in
set_option maxHeartbeats 8000000 in
theorem RRight_no (x0 x1 x2 x3 x4 x5 x6 x7 x8 x9 x10 : Int) (w : World) (hn : wiB x0 x1 x2 x3 x4 x5 x6 x7 x8 x9 x10 = false) : Calls Try.prog 37 #[.agg #[.int .i64 x0, .int .i64 x1, .int .i64 x2, .int .i64 x3, .int .i64 x4, .int .i64 x5, .int .i64 x6, .int .i64 x7, .int .i64 x8, .int .i64 x9, .int .i64 x10]] w fun e w' => e = .returned (.bool false) ∧ Below w.heap.size w w' := by
  have HN : Hid (wiB x0 x1 x2 x3 x4 x5 x6 x7 x8 x9 x10 = false) := hn
  clear hn
  go_enter Try.func37, Try.ntmps37
  go_wp2_with (fail)
  refine wp_loop_rounds 13 ?_
  rw [rounds_succ]
  by_cases g0 : 0 ≤ x0 ∧ x0 ≤ 255
  rotate_left
  · by_cases hneg : x0 < 0
    · clear g0
      go_wp2
      go_returns
      exact ⟨rfl, by go_grown⟩
    · have hbig : 255 < x0 := by omega
      clear g0
      go_wp2
      go_returns
      exact ⟨rfl, by go_grown⟩
  have G0 : Hid (0 ≤ x0 ∧ x0 ≤ 255) := g0
  have n0 : ¬ x0 < 0 := by omega
  have m0 : ¬ 255 < x0 := by omega
  clear g0
  go_wp2_with (fail)
  clear n0 m0
  rw [rounds_succ]
  by_cases g1 : 0 ≤ x1 ∧ x1 ≤ 255
  rotate_left
  · by_cases hneg : x1 < 0
    · clear g1
      go_wp2
      go_returns
      exact ⟨rfl, by go_grown⟩
    · have hbig : 255 < x1 := by omega
      clear g1
      go_wp2
      go_returns
      exact ⟨rfl, by go_grown⟩
  have G1 : Hid (0 ≤ x1 ∧ x1 ≤ 255) := g1
  have n1 : ¬ x1 < 0 := by omega
  have m1 : ¬ 255 < x1 := by omega
  clear g1
  go_wp2_with (fail)
  clear n1 m1
  rw [rounds_succ]
  by_cases g2 : 0 ≤ x2 ∧ x2 ≤ 255
  rotate_left
  · by_cases hneg : x2 < 0
    · clear g2
      go_wp2
      go_returns
      exact ⟨rfl, by go_grown⟩
    · have hbig : 255 < x2 := by omega
      clear g2
      go_wp2
      go_returns
      exact ⟨rfl, by go_grown⟩
  have G2 : Hid (0 ≤ x2 ∧ x2 ≤ 255) := g2
  have n2 : ¬ x2 < 0 := by omega
  have m2 : ¬ 255 < x2 := by omega
  clear g2
  go_wp2_with (fail)
  clear n2 m2
  rw [rounds_succ]
  by_cases g3 : 0 ≤ x3 ∧ x3 ≤ 255
  rotate_left
  · by_cases hneg : x3 < 0
    · clear g3
      go_wp2
      go_returns
      exact ⟨rfl, by go_grown⟩
    · have hbig : 255 < x3 := by omega
      clear g3
      go_wp2
      go_returns
      exact ⟨rfl, by go_grown⟩
  have G3 : Hid (0 ≤ x3 ∧ x3 ≤ 255) := g3
  have n3 : ¬ x3 < 0 := by omega
  have m3 : ¬ 255 < x3 := by omega
  clear g3
  go_wp2_with (fail)
  clear n3 m3
  rw [rounds_succ]
  by_cases g4 : 0 ≤ x4 ∧ x4 ≤ 511
  rotate_left
  · by_cases hneg : x4 < 0
    · clear g4
      go_wp2
      go_returns
      exact ⟨rfl, by go_grown⟩
    · have hbig : 511 < x4 := by omega
      clear g4
      go_wp2
      go_returns
      exact ⟨rfl, by go_grown⟩
  have G4 : Hid (0 ≤ x4 ∧ x4 ≤ 511) := g4
  have n4 : ¬ x4 < 0 := by omega
  have m4 : ¬ 511 < x4 := by omega
  clear g4
  go_wp2_with (fail)
  clear n4 m4
  rw [rounds_succ]
  by_cases g5 : 0 ≤ x5 ∧ x5 ≤ 1
  rotate_left
  · by_cases hneg : x5 < 0
    · clear g5
      go_wp2
      go_returns
      exact ⟨rfl, by go_grown⟩
    · have hbig : 1 < x5 := by omega
      clear g5
      go_wp2
      go_returns
      exact ⟨rfl, by go_grown⟩
  have G5 : Hid (0 ≤ x5 ∧ x5 ≤ 1) := g5
  have n5 : ¬ x5 < 0 := by omega
  have m5 : ¬ 1 < x5 := by omega
  clear g5
  go_wp2_with (fail)
  clear n5 m5
  rw [rounds_succ]
  by_cases g6 : 0 ≤ x6 ∧ x6 ≤ 1
  rotate_left
  · by_cases hneg : x6 < 0
    · clear g6
      go_wp2
      go_returns
      exact ⟨rfl, by go_grown⟩
    · have hbig : 1 < x6 := by omega
      clear g6
      go_wp2
      go_returns
      exact ⟨rfl, by go_grown⟩
  have G6 : Hid (0 ≤ x6 ∧ x6 ≤ 1) := g6
  have n6 : ¬ x6 < 0 := by omega
  have m6 : ¬ 1 < x6 := by omega
  clear g6
  go_wp2_with (fail)
  clear n6 m6
  rw [rounds_succ]
  by_cases g7 : 0 ≤ x7 ∧ x7 ≤ 1
  rotate_left
  · by_cases hneg : x7 < 0
    · clear g7
      go_wp2
      go_returns
      exact ⟨rfl, by go_grown⟩
    · have hbig : 1 < x7 := by omega
      clear g7
      go_wp2
      go_returns
      exact ⟨rfl, by go_grown⟩
  have G7 : Hid (0 ≤ x7 ∧ x7 ≤ 1) := g7
  have n7 : ¬ x7 < 0 := by omega
  have m7 : ¬ 1 < x7 := by omega
  clear g7
  go_wp2_with (fail)
  clear n7 m7
  rw [rounds_succ]
  by_cases g8 : 0 ≤ x8 ∧ x8 ≤ 1
  rotate_left
  · by_cases hneg : x8 < 0
    · clear g8
      go_wp2
      go_returns
      exact ⟨rfl, by go_grown⟩
    · have hbig : 1 < x8 := by omega
      clear g8
      go_wp2
      go_returns
      exact ⟨rfl, by go_grown⟩
  have G8 : Hid (0 ≤ x8 ∧ x8 ≤ 1) := g8
  have n8 : ¬ x8 < 0 := by omega
  have m8 : ¬ 1 < x8 := by omega
  clear g8
  go_wp2_with (fail)
  clear n8 m8
  rw [rounds_succ]
  by_cases g9 : 0 ≤ x9 ∧ x9 ≤ 1
  rotate_left
  · by_cases hneg : x9 < 0
    · clear g9
      go_wp2
      go_returns
      exact ⟨rfl, by go_grown⟩
    · have hbig : 1 < x9 := by omega
      clear g9
      go_wp2
      go_returns
      exact ⟨rfl, by go_grown⟩
  have G9 : Hid (0 ≤ x9 ∧ x9 ≤ 1) := g9
  have n9 : ¬ x9 < 0 := by omega
  have m9 : ¬ 1 < x9 := by omega
  clear g9
  go_wp2_with (fail)
  clear n9 m9
  rw [rounds_succ]
  by_cases g10 : 0 ≤ x10 ∧ x10 ≤ 1
  rotate_left
  · by_cases hneg : x10 < 0
    · clear g10
      go_wp2
      go_returns
      exact ⟨rfl, by go_grown⟩
    · have hbig : 1 < x10 := by omega
      clear g10
      go_wp2
      go_returns
      exact ⟨rfl, by go_grown⟩
  have G10 : Hid (0 ≤ x10 ∧ x10 ≤ 1) := g10
  have n10 : ¬ x10 < 0 := by omega
  have m10 : ¬ 1 < x10 := by omega
  clear g10
  go_wp2_with (fail)
  clear n10 m10
  have hw := HN.out
  rw [wiB_iff.2 ⟨⟨G0.out, G1.out, G2.out, G3.out, G4.out⟩, G5.out, G6.out, G7.out, G8.out, G9.out, G10.out⟩] at hw
  cases hw

/-- The words, box by box. -/
theorem can_eq (p : Pt) (hp : p.ok) : p.can = ((p.l || (p.t0 && p.t1)) && (!p.l || ((p.h0 || !p.t0) && (p.h1 || !p.t1))) && (!p.d || p.c == 0)) := by
  unfold Pt.can un
  cases p.d <;> cases p.l <;> cases p.t0 <;> cases p.t1 <;> cases p.h0 <;> cases p.h1 <;> simp [bne]

set_option maxRecDepth 100000 in
set_option maxHeartbeats 8000000 in
theorem RRight_p (p : Pt) (hp : p.ok) (w : World) : Calls Try.prog 37 #[.agg #[.int .i64 (p.v0 : Int), .int .i64 (p.v1 : Int), .int .i64 (p.v2 : Int), .int .i64 (p.v3 : Int), .int .i64 (p.c : Int), .int .i64 (oi p.d), .int .i64 (oi p.h0), .int .i64 (oi p.h1), .int .i64 (oi p.l), .int .i64 (oi p.t0), .int .i64 (oi p.t1)]] w fun e w' => e = .returned (.bool p.can) ∧ Below w.heap.size w w' := by
  have HC : Hid (p.can = ((p.l || (p.t0 && p.t1)) && (!p.l || ((p.h0 || !p.t0) && (p.h1 || !p.t1))) && (!p.d || p.c == 0))) := can_eq p hp
  obtain ⟨a0, a1, a2, a3, a4⟩ := hp
  have HZ : Hid (((p.c : Int) == 0) = (p.c == 0)) := (show ((p.c : Int) == 0) = (p.c == 0) by rw [Bool.eq_iff_iff]; simp)
  have zq : ∀ b, (oi b == 0) = !b := by intro b; cases b <;> rfl
  have oq : ∀ b, (oi b == 1) = b := oi_eq
  have n0 : ¬ (p.v0 : Int) < 0 := by omega
  have m0 : ¬ 255 < (p.v0 : Int) := by omega
  have n1 : ¬ (p.v1 : Int) < 0 := by omega
  have m1 : ¬ 255 < (p.v1 : Int) := by omega
  have n2 : ¬ (p.v2 : Int) < 0 := by omega
  have m2 : ¬ 255 < (p.v2 : Int) := by omega
  have n3 : ¬ (p.v3 : Int) < 0 := by omega
  have m3 : ¬ 255 < (p.v3 : Int) := by omega
  have n4 : ¬ (p.c : Int) < 0 := by omega
  have m4 : ¬ 511 < (p.c : Int) := by omega
  have n5 : ¬ (oi p.d) < 0 := by cases p.d <;> decide
  have m5 : ¬ 1 < (oi p.d) := by cases p.d <;> decide
  have n6 : ¬ (oi p.h0) < 0 := by cases p.h0 <;> decide
  have m6 : ¬ 1 < (oi p.h0) := by cases p.h0 <;> decide
  have n7 : ¬ (oi p.h1) < 0 := by cases p.h1 <;> decide
  have m7 : ¬ 1 < (oi p.h1) := by cases p.h1 <;> decide
  have n8 : ¬ (oi p.l) < 0 := by cases p.l <;> decide
  have m8 : ¬ 1 < (oi p.l) := by cases p.l <;> decide
  have n9 : ¬ (oi p.t0) < 0 := by cases p.t0 <;> decide
  have m9 : ¬ 1 < (oi p.t0) := by cases p.t0 <;> decide
  have n10 : ¬ (oi p.t1) < 0 := by cases p.t1 <;> decide
  have m10 : ¬ 1 < (oi p.t1) := by cases p.t1 <;> decide
  go_enter Try.func37, Try.ntmps37
  go_wp2_with (fail)
  refine wp_loop_rounds 13 ?_
  rw [rounds_succ]
  go_wp2_with (fail)
  rw [rounds_succ]
  go_wp2_with (fail)
  rw [rounds_succ]
  go_wp2_with (fail)
  rw [rounds_succ]
  go_wp2_with (fail)
  rw [rounds_succ]
  go_wp2_with (fail)
  rw [rounds_succ]
  go_wp2_with (fail)
  rw [rounds_succ]
  go_wp2_with (fail)
  rw [rounds_succ]
  go_wp2_with (fail)
  rw [rounds_succ]
  go_wp2_with (fail)
  rw [rounds_succ]
  go_wp2_with (fail)
  rw [rounds_succ]
  go_wp2_with (fail)
  rw [rounds_succ]
  go_wp2_with (fail)
  clear n0 m0 n1 m1 n2 m2 n3 m3 n4 m4 n5 m5 n6 m6 n7 m7 n8 m8 n9 m9 n10 m10
  refine wp_loop_rounds 4 ?_
  rw [rounds_succ]
  obtain ⟨l, hl⟩ : ∃ l, p.l = l := ⟨_, rfl⟩
  obtain ⟨t0, ht0⟩ : ∃ t0, p.t0 = t0 := ⟨_, rfl⟩
  obtain ⟨t1, ht1⟩ : ∃ t1, p.t1 = t1 := ⟨_, rfl⟩
  obtain ⟨h0, hh0⟩ : ∃ h0, p.h0 = h0 := ⟨_, rfl⟩
  obtain ⟨h1, hh1⟩ : ∃ h1, p.h1 = h1 := ⟨_, rfl⟩
  obtain ⟨d, hd⟩ : ∃ d, p.d = d := ⟨_, rfl⟩
  simp only [hl, ht0, ht1, hh0, hh1, hd] at HC ⊢
  clear hl ht0 ht1 hh0 hh1 hd a0 a1 a2 a3 a4
  cases l
  · cases t0 <;> cases t1 <;> cases d
    all_goals
      go_wp2_with (fail)
      first
        | (go_returns; exact ⟨ret_bool (by rw [HC.out]; first | rfl | (rw [HZ.out]; simp)), by go_grown⟩)
        | (rw [rounds_succ]; go_wp2_with (fail); first
            | (go_returns; exact ⟨ret_bool (by rw [HC.out]; first | rfl | (rw [HZ.out]; simp)), by go_grown⟩)
            | (rw [rounds_succ]; go_wp2_with (fail); go_returns; exact ⟨ret_bool (by rw [HC.out]; first | rfl | (rw [HZ.out]; simp)), by go_grown⟩))
  · cases t0 <;> cases h0 <;> cases t1 <;> cases h1 <;> cases d
    all_goals
      go_wp2_with (fail)
      first
        | (go_returns; exact ⟨ret_bool (by rw [HC.out]; first | rfl | (rw [HZ.out]; simp)), by go_grown⟩)
        | (rw [rounds_succ]; go_wp2_with (fail); first
            | (go_returns; exact ⟨ret_bool (by rw [HC.out]; first | rfl | (rw [HZ.out]; simp)), by go_grown⟩)
            | (rw [rounds_succ]; go_wp2_with (fail); go_returns; exact ⟨ret_bool (by rw [HC.out]; first | rfl | (rw [HZ.out]; simp)), by go_grown⟩))

end Go.Proofs.Ytdnfclhljahghaa.Po
