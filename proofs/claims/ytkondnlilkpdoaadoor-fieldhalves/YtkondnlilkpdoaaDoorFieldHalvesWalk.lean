/- FieldHalves, walked: whatever comes in, true comes out. -/
import Derived.Test.YtkondnlilkpdoaaDoorAwakeF
import Derived.Test.YtkondnlilkpdoaaDoorFieldLitsWalk
import Derived.Test.YtkondnlilkpdoaaDoorFrame
set_option linter.unusedVariables false
namespace Go.Proofs.YtkondnlilkpdoaaDoor.fieldHalves
open Go.RowKit Fi fieldLits

theorem and1z : ∀ c : Nat, c < 256 → (bits .and .u8 (c : Int) 1 == 0) = decide (c % 2 = 0) := by decide +kernel

/-- The field's answer, whatever the world. -/
abbrev LitSays (p0 p1 p2 c x : Nat) (r : Bool) : Prop := ∀ w, Calls Tryd.prog 9 #[.agg #[.int .u8 (p0 : Int), .int .u8 (p1 : Int), .int .u8 (p2 : Int)], .int .u8 (c : Int), .int .i64 (x : Int)] w fun e w' => e = .returned (.bool r) ∧ Below w.heap.size w w'

set_option maxRecDepth 100000 in
set_option maxHeartbeats 4000000 in
theorem good (p0 p1 p2 c a x y z : Nat) (l r : Bool) (W : World) (ht : Tab W) (hc : c < 256) (ha : (a : Int) % 80 = (x : Int)) (hx : x < 80) (hy : 80 + (x : Int) = (y : Int)) (hz : 79 - (x : Int) = (z : Int))
    (h1 : LitSays p0 p1 p2 0 x l) (h2 : LitSays p0 p1 p2 c y (if c % 2 = 0 then l else r)) (h3 : LitSays p0 p1 p2 c x l) (h4 : LitSays p0 p1 p2 c z r) (l256 : a < 256) :
    Calls Tryd.prog 7 #[.agg #[.int .u8 (p0 : Int), .int .u8 (p1 : Int), .int .u8 (p2 : Int)], .int .u8 (c : Int), .int .u8 (a : Int)] W fun e w' => e = .returned (.bool true) ∧ Below W.heap.size W w' := by
  have H1 : Hid (LitSays p0 p1 p2 0 x l) := h1
  have H2 : Hid (LitSays p0 p1 p2 c y (if c % 2 = 0 then l else r)) := h2
  have H3 : Hid (LitSays p0 p1 p2 c x l) := h3
  have H4 : Hid (LitSays p0 p1 p2 c z r) := h4
  have H0 : Hid (Pf W W.heap.size p0 p1 p2 (W.alloc (.cells #[.int .u8 (p0 : Int), .int .u8 (p1 : Int), .int .u8 (p2 : Int)] 22))) := pf_new p0 p1 p2 ht
  have hcc := and1z c hc
  clear h1 h2 h3 h4 ht
  by_cases hq : c % 2 = 0
  · have hcz : (bits .and .u8 (c : Int) 1 == 0) = true := by rw [hcc, hq]; rfl
    rw [if_pos hq] at H2
    clear hcc hq
    go_enter Tryd.func7, Tryd.ntmps7
    go_wp2_with (go_at_call 9; fail)
    generalize W.alloc (.cells #[.int .u8 (p0 : Int), .int .u8 (p1 : Int), .int .u8 (p2 : Int)] 22) = v at *
    obtain ⟨g, hg⟩ : ∃ g, W.heap.size = g := ⟨_, rfl⟩
    have K1 : Hid (Pf W g p0 p1 p2 v) := (by rw [← hg]; exact H0.out : Pf W g p0 p1 p2 v)
    rw [hg]
    clear hg H0
    refine (H1.out _).mono ?_
    rintro e w2 ⟨rfl, hB⟩
    have K2 : Hid (Pf W g p0 p1 p2 w2) := K1.out.below hB
    have b0 := K2.out.c0
    have b1 := K2.out.c1
    have b2 := K2.out.c2
    clear hB
    go_wp2_with (go_at_call 9; fail)
    refine (H2.out _).mono ?_
    rintro e w3 ⟨rfl, hB⟩
    have K3 : Hid (Pf W g p0 p1 p2 w3) := K2.out.below hB
    have b0 := K3.out.c0
    have b1 := K3.out.c1
    have b2 := K3.out.c2
    clear hB
    go_wp2_with (go_at_call 9; fail)
    refine (H3.out _).mono ?_
    rintro e w4 ⟨rfl, hB⟩
    have K4 : Hid (Pf W g p0 p1 p2 w4) := K3.out.below hB
    clear hB
    go_wp2_with (go_at_call 11; fail)
    refine (awake18 _ K4.out.tab).mono ?_
    rintro e w5 ⟨rfl, hB⟩
    have K5 : Hid (Pf W g p0 p1 p2 w5) := K4.out.below hB
    clear hB
    go_wp2
    go_returns
    exact ⟨rfl, K5.out.old⟩
  · have hcz : (bits .and .u8 (c : Int) 1 == 0) = false := by rw [hcc]; simp; omega
    rw [if_neg hq] at H2
    clear hcc hq
    go_enter Tryd.func7, Tryd.ntmps7
    go_wp2_with (go_at_call 9; fail)
    generalize W.alloc (.cells #[.int .u8 (p0 : Int), .int .u8 (p1 : Int), .int .u8 (p2 : Int)] 22) = v at *
    obtain ⟨g, hg⟩ : ∃ g, W.heap.size = g := ⟨_, rfl⟩
    have K1 : Hid (Pf W g p0 p1 p2 v) := (by rw [← hg]; exact H0.out : Pf W g p0 p1 p2 v)
    rw [hg]
    clear hg H0
    refine (H1.out _).mono ?_
    rintro e w2 ⟨rfl, hB⟩
    have K2 : Hid (Pf W g p0 p1 p2 w2) := K1.out.below hB
    have b0 := K2.out.c0
    have b1 := K2.out.c1
    have b2 := K2.out.c2
    clear hB
    go_wp2_with (go_at_call 9; fail)
    refine (H2.out _).mono ?_
    rintro e w3 ⟨rfl, hB⟩
    have K3 : Hid (Pf W g p0 p1 p2 w3) := K2.out.below hB
    have b0 := K3.out.c0
    have b1 := K3.out.c1
    have b2 := K3.out.c2
    clear hB
    go_wp2_with (go_at_call 9; fail)
    refine (H3.out _).mono ?_
    rintro e w4 ⟨rfl, hB⟩
    have K4 : Hid (Pf W g p0 p1 p2 w4) := K3.out.below hB
    have b0 := K4.out.c0
    have b1 := K4.out.c1
    have b2 := K4.out.c2
    clear hB
    go_wp2_with (go_at_call 9; fail)
    refine (H4.out _).mono ?_
    rintro e w5 ⟨rfl, hB⟩
    have K5 : Hid (Pf W g p0 p1 p2 w5) := K4.out.below hB
    clear hB
    go_wp2_with (go_at_call 11; fail)
    refine (awake18 _ K5.out.tab).mono ?_
    rintro e w6 ⟨rfl, hB⟩
    have K6 : Hid (Pf W g p0 p1 p2 w6) := K5.out.below hB
    clear hB
    go_wp2
    go_returns
    exact ⟨rfl, K6.out.old⟩

theorem walk (a0_0 a0_1 a0_2 : Int) (w0_0 : (Lit.int .u8 a0_0).wf = true) (w0_1 : (Lit.int .u8 a0_1).wf = true) (w0_2 : (Lit.int .u8 a0_2).wf = true) (a1 : Int) (w1 : (Lit.int .u8 a1).wf = true) (a2 : Int) (w2 : (Lit.int .u8 a2).wf = true) (W : World) (ht : Tab W) :
    Calls Tryd.prog 7 #[.agg #[.int .u8 a0_0, .int .u8 a0_1, .int .u8 a0_2], .int .u8 a1, .int .u8 a2] W fun e w' => e = .returned (.bool true) ∧ Below W.heap.size W w' := by
  have b0 := bounds_u8 w0_0
  have b1 := bounds_u8 w0_1
  have b2 := bounds_u8 w0_2
  have b3 := bounds_u8 w1
  have b4 := bounds_u8 w2
  obtain ⟨p0, rfl⟩ := Int.eq_ofNat_of_zero_le b0.1
  obtain ⟨p1, rfl⟩ := Int.eq_ofNat_of_zero_le b1.1
  obtain ⟨p2, rfl⟩ := Int.eq_ofNat_of_zero_le b2.1
  obtain ⟨c, rfl⟩ := Int.eq_ofNat_of_zero_le b3.1
  obtain ⟨a, rfl⟩ := Int.eq_ofNat_of_zero_le b4.1
  obtain ⟨x, hx⟩ : ∃ x, a % 80 = x := ⟨_, rfl⟩
  have lx : x < 80 := by omega
  have lit : ∀ (c x : Nat), c < 256 → x < 160 → LitSays p0 p1 p2 c x (fbit p0 p1 p2 (at_ c x)) := fun c x hc hx w => Fi.Lit p0 p1 p2 c x w (by omega) (by omega) (by omega) hc hx
  refine good p0 p1 p2 c a x (80 + x) (79 - x) (fbit p0 p1 p2 (at_ 0 x)) (fbit p0 p1 p2 (at_ c (79 - x))) W ht (by omega) (by omega) lx (by omega) (by omega) (lit 0 x (by decide) (by omega)) ?_ ?_ (lit c (79 - x) (by omega) (by omega)) (by omega)
  · have h := lit c (80 + x) (by omega) (by omega)
    have e : fbit p0 p1 p2 (at_ c (80 + x)) = if c % 2 = 0 then fbit p0 p1 p2 (at_ 0 x) else fbit p0 p1 p2 (at_ c (79 - x)) := by
      by_cases hc : c % 2 = 0
      · rw [if_pos hc]
        congr 1
        unfold at_
        rw [if_neg (by omega), if_neg (by omega)]
        omega
      · rw [if_neg hc]
        congr 1
        unfold at_
        rw [if_pos (by omega), if_neg (by omega)]
        omega
    rw [← e]
    exact h
  · have h := lit c x (by omega) (by omega)
    rw [show at_ c x = at_ 0 x by unfold at_; rw [if_neg (by omega), if_neg (by omega)]] at h
    exact h

end Go.Proofs.YtkondnlilkpdoaaDoor.fieldHalves
