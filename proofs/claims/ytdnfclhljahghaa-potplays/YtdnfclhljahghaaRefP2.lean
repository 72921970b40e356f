/- What the document's In and Of of layer 20 come to. (Written by wip/gen/gen_refp2.py.) -/
import Derived.Test.YtdnfclhljahghaaRefP
import Derived.Test.YtdnfclhljahghaaPot8
namespace Go.Proofs.Ytdnfclhljahghaa.Po
open Go.RowKit
set_option linter.unusedVariables false

set_option maxRecDepth 100000 in
set_option maxHeartbeats 2000000 in
theorem RIn (p : Pt) (n : Int) (v : Nat) (hv : v < 256) (hf : p.fit) (w : World) : Calls Try.prog 29 #[p.rv, .int .i64 n, .int .i64 (v : Int)] w fun e w' => e = .returned (p.in_ n v).rv ∧ Below w.heap.size w w' := by
  have HF : Hid p.fit := hf
  obtain ⟨v0, v1, v2, v3, c, d, l, h0, t0, h1, t1⟩ := p
  have hoff : l = false → t0 = true ∧ t1 = true := hf.off
  clear hf
  unfold Pt.rv
  by_cases hn : 0 ≤ n ∧ n < 6
  · rcases six hn with rfl | rfl | rfl | rfl | rfl | rfl
    iterate 4
      · clear hoff
        go_enter Try.func29, Try.ntmps29
        go_wp2
        go_returns
        exact ⟨rfl, by go_grown⟩
    all_goals
      have HO : Hid (l = false → t0 = true ∧ t1 = true) := hoff
      clear hoff
      by_cases h8 : 128 ≤ v
      · have h8' : (128 : Int) ≤ (v : Int) := by omega
        have h9' : ¬ (v : Int) < 128 := by omega
        have HE : Hid (decide (128 ≤ v) = true) := decide_eq_true h8
        clear h8
        cases l
        all_goals
          have ho := HO.out
          clear HO
          go_enter Try.func29, Try.ntmps29
          go_wp2
          go_returns
          refine ⟨?_, by go_grown⟩
          simp [Pt.in_, un, HE.out]
          try (simp [ho])
      · have h8' : ¬ (128 : Int) ≤ (v : Int) := by omega
        have h9' : (v : Int) < 128 := by omega
        have HE : Hid (decide (128 ≤ v) = false) := decide_eq_false h8
        clear h8
        cases l
        all_goals
          have ho := HO.out
          clear HO
          go_enter Try.func29, Try.ntmps29
          go_wp2
          go_returns
          refine ⟨?_, by go_grown⟩
          simp [Pt.in_, un, HE.out]
          try (simp [ho])
  · rw [in_no hn]
    have h2 : (n == 4) = false := beq_eq_false_iff_ne.2 (by omega)
    have h3 : (n == 5) = false := beq_eq_false_iff_ne.2 (by omega)
    by_cases h0 : n < 0
    · have h4 : ¬ 0 ≤ n := by omega
      clear hn hoff
      go_enter Try.func29, Try.ntmps29
      go_wp2
      go_returns
      exact ⟨rfl, by go_grown⟩
    · have h4 : 0 ≤ n := by omega
      have h5 : ¬ n ≤ 3 := by omega
      clear hn hoff h0
      go_enter Try.func29, Try.ntmps29
      go_wp2
      go_returns
      exact ⟨rfl, by go_grown⟩

set_option maxRecDepth 100000 in
set_option maxHeartbeats 2000000 in
theorem ROf (p : Pt) (w : World) : Calls Try.prog 38 #[.agg #[.int .i64 (p.v0 : Int), .int .i64 (p.v1 : Int), .int .i64 (p.v2 : Int), .int .i64 (p.v3 : Int), .int .i64 (p.c : Int), .int .i64 (oi p.d), .int .i64 (oi p.h0), .int .i64 (oi p.h1), .int .i64 (oi p.l), .int .i64 (oi p.t0), .int .i64 (oi p.t1)]] w fun e w' => e = .returned p.rv ∧ Below w.heap.size w w' := by
  have ed := oi_eq p.d
  have eh0 := oi_eq p.h0
  have eh1 := oi_eq p.h1
  have el := oi_eq p.l
  have et0 := oi_eq p.t0
  have et1 := oi_eq p.t1
  go_enter Try.func38, Try.ntmps38
  go_wp2
  go_returns
  exact ⟨rfl, by go_grown⟩

end Go.Proofs.Ytdnfclhljahghaa.Po
