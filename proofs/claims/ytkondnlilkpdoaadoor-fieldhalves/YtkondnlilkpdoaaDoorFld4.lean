/- Which colour is seen: the program's answer. -/
import Derived.Test.YtkondnlilkpdoaaDoorFld3
set_option linter.unusedVariables false
namespace Go.Proofs.YtkondnlilkpdoaaDoor.Fi
open Go.RowKit

theorem run_index_array {P : Program} (w : World) (t e : TypeId) (n : Nat) (cs : Array Go.Value) (k : IntKind) (i : Nat) (v : Go.Value) (h : P.underlying t = some (.array n e)) (hs : ∀ w, (sizeOf e).run P w = .ok 1 w) (ha : ∀ w, (isAgg e).run P w = .ok false w) (hi : i < n) (hv : cs[i]? = some v) :
    (Instr.index t (.agg cs) (.int k (i : Int))).run P w = .ok v w := by
  have h1 : (0 : Int) ≤ (i : Int) ∧ (i : Int) < (n : Int) := by omega
  simp [Instr.index, run_underlying h, asIntOf, h1, hs, ha, hi, hv, go_sem]
theorem sizeInt (w : World) : (sizeOf 3).run Tryd.prog w = .ok 1 w := by
  have h : (Tryd.prog.info? 3).map (·.size) = some 1 := by kernel_rfl
  obtain ⟨i, h1, h2⟩ := Option.map_eq_some_iff.1 h
  rw [run_sizeOf w h1, show Tryd.prog.cellsOf 3 = 1 by kernel_rfl]
theorem aggInt (w : World) : (isAgg 3).run Tryd.prog w = .ok false w := run_isAgg_plain Tryd.underlying3 rfl w
theorem at3 (x y z : Int) (i : Nat) (v : Go.Value) (hi : i < 3) (hv : (#[.int .i64 x, .int .i64 y, .int .i64 z] : Array Go.Value)[i]? = some v) (w : World) :
    (Instr.index 56 (.agg #[.int .i64 x, .int .i64 y, .int .i64 z]) (.int .i64 (i : Int))).run Tryd.prog w = .ok v w :=
  run_index_array w 56 3 3 _ .i64 i _ Tryd.underlying56 sizeInt aggInt hi hv
theorem at3_0 (x y z : Int) (w : World) : (Instr.index 56 (.agg #[.int .i64 x, .int .i64 y, .int .i64 z]) (.int .i64 0)).run Tryd.prog w = .ok (.int .i64 x) w := at3 x y z 0 _ (by decide) rfl w
theorem at3_1 (x y z : Int) (w : World) : (Instr.index 56 (.agg #[.int .i64 x, .int .i64 y, .int .i64 z]) (.int .i64 1)).run Tryd.prog w = .ok (.int .i64 y) w := at3 x y z 1 _ (by decide) rfl w
theorem at3_2 (x y z : Int) (w : World) : (Instr.index 56 (.agg #[.int .i64 x, .int .i64 y, .int .i64 z]) (.int .i64 2)).run Tryd.prog w = .ok (.int .i64 z) w := at3 x y z 2 _ (by decide) rfl w

/-- Is a thing of this colour there? -/
def th (D : Nat → Bool) (k : Nat) : Bool := D (hA k) || D (hB k)

set_option maxRecDepth 100000 in
set_option maxHeartbeats 1000000 in
theorem seenF (k d : Nat) (D : Nat → Bool) (w : World) (hk : k < 3) (hT : Tab w) (h : DAt w d D) : Calls Tryd.prog 24 #[.int .i64 (k : Int), .pointer (some ⟨d, 0, none⟩)] w fun e w' => e = .returned (.bool (th D k)) ∧ Below w.heap.size w w' := by
  have c0 := hT.h0 k hk
  have c1 := hT.h1 k hk
  have ca := h.c (hA k) (hA_lt k hk)
  have cb := h.c (hB k) (hB_lt k hk)
  have la := hA_lt k hk
  have lb := hB_lt k hk
  have hl := h.lt
  have hg := hT.lt1
  have HE : Hid (th D k = (D (hA k) || D (hB k))) := (rfl : th D k = (D (hA k) || D (hB k)))
  rw [HE.out]
  clear HE h hT
  generalize D (hA k) = x at *
  generalize D (hB k) = y at *
  generalize hA k = a at *
  generalize hB k = b at *
  cases x
  all_goals
    go_enter Tryd.func24, Tryd.ntmps24
    go_wp2
    go_returns
    exact ⟨by simp, by go_grown⟩

/-- The colour above the others. -/
def fst (f t0 t1 t2 : Bool) : Int := if f then (if t2 then 2 else if t0 then 0 else if t1 then 1 else 3) else (if t0 then 0 else if t1 then 1 else if t2 then 2 else 3)

theorem b_keep {W w w' : World} (hB : Below W.heap.size W w) (h : Below w.heap.size w w') : Below W.heap.size W w' := hB.trans (h.mono hB.size)

set_option maxRecDepth 100000 in
set_option maxHeartbeats 8000000 in
theorem first (c d : Nat) (f : Bool) (D : Nat → Bool) (w : World) (hf : (bits .and .u8 (c : Int) 4 != 0) = f) (hT : Tab w) (h : DAt w d D) : Calls Tryd.prog 23 #[.int .u8 (c : Int), .func (.func 24) #[] #[.pointer (some ⟨d, 0, none⟩)]] w fun e w' => e = .returned (.int .i64 (fst f (th D 0) (th D 1) (th D 2))) ∧ Below w.heap.size w w' := by
  have HT : Hid (Tab w) := hT
  have HD : Hid (DAt w d D) := h
  clear hT h
  obtain ⟨t0, h0⟩ : ∃ t, th D 0 = t := ⟨_, rfl⟩
  obtain ⟨t1, h1⟩ : ∃ t, th D 1 = t := ⟨_, rfl⟩
  obtain ⟨t2, h2⟩ : ∃ t, th D 2 = t := ⟨_, rfl⟩
  have HH : Hid (th D 0 = t0 ∧ th D 1 = t1 ∧ th D 2 = t2) := ⟨h0, h1, h2⟩
  rw [h0, h1, h2]
  clear h0 h1 h2
  cases f
  · have i0 := at3_0 0 1 2
    have i1 := at3_1 0 1 2
    have i2 := at3_2 0 1 2
    cases t0
    rotate_left
    · go_enter Tryd.func23, Tryd.ntmps23
      go_wp2
      refine wp_loop_rounds 4 ?_
      rw [rounds_succ]
      go_wp2_with (go_at_call 24; fail)
      have hB0 : Below w.heap.size w (w.alloc (.cells #[.int .i64 0, .int .i64 1, .int .i64 2] 56)) := (Below.refl _ w).alloc (Nat.le_refl _) _
      have HB0 : Hid (Below w.heap.size w (w.alloc (.cells #[.int .i64 0, .int .i64 1, .int .i64 2] 56))) := hB0
      clear hB0
      generalize w.alloc (.cells #[.int .i64 0, .int .i64 1, .int .i64 2] 56) = v0 at *
      refine (seenF 0 d D v0 (by decide) (HT.out.below HB0.out (Nat.le_refl _)) (HD.out.below HB0.out)).mono ?_
      rintro e v1 ⟨rfl, hB1⟩
      have HB1 : Hid (Below w.heap.size w v1) := b_keep HB0.out hB1
      clear hB1
      rw [HH.out.1]
      go_wp2
      go_returns
      exact ⟨rfl, HB1.out⟩
    cases t1
    rotate_left
    · go_enter Tryd.func23, Tryd.ntmps23
      go_wp2
      refine wp_loop_rounds 4 ?_
      rw [rounds_succ]
      go_wp2_with (go_at_call 24; fail)
      have hB0 : Below w.heap.size w (w.alloc (.cells #[.int .i64 0, .int .i64 1, .int .i64 2] 56)) := (Below.refl _ w).alloc (Nat.le_refl _) _
      have HB0 : Hid (Below w.heap.size w (w.alloc (.cells #[.int .i64 0, .int .i64 1, .int .i64 2] 56))) := hB0
      clear hB0
      generalize w.alloc (.cells #[.int .i64 0, .int .i64 1, .int .i64 2] 56) = v0 at *
      refine (seenF 0 d D v0 (by decide) (HT.out.below HB0.out (Nat.le_refl _)) (HD.out.below HB0.out)).mono ?_
      rintro e v1 ⟨rfl, hB1⟩
      have HB1 : Hid (Below w.heap.size w v1) := b_keep HB0.out hB1
      clear hB1
      rw [HH.out.1]
      go_wp2
      rw [rounds_succ]
      go_wp2_with (go_at_call 24; fail)
      refine (seenF 1 d D v1 (by decide) (HT.out.below HB1.out (Nat.le_refl _)) (HD.out.below HB1.out)).mono ?_
      rintro e v2 ⟨rfl, hB2⟩
      have HB2 : Hid (Below w.heap.size w v2) := b_keep HB1.out hB2
      clear hB2
      rw [HH.out.2.1]
      go_wp2
      go_returns
      exact ⟨rfl, HB2.out⟩
    cases t2
    rotate_left
    · go_enter Tryd.func23, Tryd.ntmps23
      go_wp2
      refine wp_loop_rounds 4 ?_
      rw [rounds_succ]
      go_wp2_with (go_at_call 24; fail)
      have hB0 : Below w.heap.size w (w.alloc (.cells #[.int .i64 0, .int .i64 1, .int .i64 2] 56)) := (Below.refl _ w).alloc (Nat.le_refl _) _
      have HB0 : Hid (Below w.heap.size w (w.alloc (.cells #[.int .i64 0, .int .i64 1, .int .i64 2] 56))) := hB0
      clear hB0
      generalize w.alloc (.cells #[.int .i64 0, .int .i64 1, .int .i64 2] 56) = v0 at *
      refine (seenF 0 d D v0 (by decide) (HT.out.below HB0.out (Nat.le_refl _)) (HD.out.below HB0.out)).mono ?_
      rintro e v1 ⟨rfl, hB1⟩
      have HB1 : Hid (Below w.heap.size w v1) := b_keep HB0.out hB1
      clear hB1
      rw [HH.out.1]
      go_wp2
      rw [rounds_succ]
      go_wp2_with (go_at_call 24; fail)
      refine (seenF 1 d D v1 (by decide) (HT.out.below HB1.out (Nat.le_refl _)) (HD.out.below HB1.out)).mono ?_
      rintro e v2 ⟨rfl, hB2⟩
      have HB2 : Hid (Below w.heap.size w v2) := b_keep HB1.out hB2
      clear hB2
      rw [HH.out.2.1]
      go_wp2
      rw [rounds_succ]
      go_wp2_with (go_at_call 24; fail)
      refine (seenF 2 d D v2 (by decide) (HT.out.below HB2.out (Nat.le_refl _)) (HD.out.below HB2.out)).mono ?_
      rintro e v3 ⟨rfl, hB3⟩
      have HB3 : Hid (Below w.heap.size w v3) := b_keep HB2.out hB3
      clear hB3
      rw [HH.out.2.2]
      go_wp2
      go_returns
      exact ⟨rfl, HB3.out⟩
    go_enter Tryd.func23, Tryd.ntmps23
    go_wp2
    refine wp_loop_rounds 4 ?_
    rw [rounds_succ]
    go_wp2_with (go_at_call 24; fail)
    have hB0 : Below w.heap.size w (w.alloc (.cells #[.int .i64 0, .int .i64 1, .int .i64 2] 56)) := (Below.refl _ w).alloc (Nat.le_refl _) _
    have HB0 : Hid (Below w.heap.size w (w.alloc (.cells #[.int .i64 0, .int .i64 1, .int .i64 2] 56))) := hB0
    clear hB0
    generalize w.alloc (.cells #[.int .i64 0, .int .i64 1, .int .i64 2] 56) = v0 at *
    refine (seenF 0 d D v0 (by decide) (HT.out.below HB0.out (Nat.le_refl _)) (HD.out.below HB0.out)).mono ?_
    rintro e v1 ⟨rfl, hB1⟩
    have HB1 : Hid (Below w.heap.size w v1) := b_keep HB0.out hB1
    clear hB1
    rw [HH.out.1]
    go_wp2
    rw [rounds_succ]
    go_wp2_with (go_at_call 24; fail)
    refine (seenF 1 d D v1 (by decide) (HT.out.below HB1.out (Nat.le_refl _)) (HD.out.below HB1.out)).mono ?_
    rintro e v2 ⟨rfl, hB2⟩
    have HB2 : Hid (Below w.heap.size w v2) := b_keep HB1.out hB2
    clear hB2
    rw [HH.out.2.1]
    go_wp2
    rw [rounds_succ]
    go_wp2_with (go_at_call 24; fail)
    refine (seenF 2 d D v2 (by decide) (HT.out.below HB2.out (Nat.le_refl _)) (HD.out.below HB2.out)).mono ?_
    rintro e v3 ⟨rfl, hB3⟩
    have HB3 : Hid (Below w.heap.size w v3) := b_keep HB2.out hB3
    clear hB3
    rw [HH.out.2.2]
    go_wp2
    rw [rounds_succ]
    go_wp2
    go_returns
    exact ⟨rfl, HB3.out⟩
  · have i0 := at3_0 2 0 1
    have i1 := at3_1 2 0 1
    have i2 := at3_2 2 0 1
    cases t2
    rotate_left
    · go_enter Tryd.func23, Tryd.ntmps23
      go_wp2
      refine wp_loop_rounds 4 ?_
      rw [rounds_succ]
      go_wp2_with (go_at_call 24; fail)
      have hB0 : Below w.heap.size w (w.alloc (.cells #[.int .i64 2, .int .i64 0, .int .i64 1] 56)) := (Below.refl _ w).alloc (Nat.le_refl _) _
      have HB0 : Hid (Below w.heap.size w (w.alloc (.cells #[.int .i64 2, .int .i64 0, .int .i64 1] 56))) := hB0
      clear hB0
      generalize w.alloc (.cells #[.int .i64 2, .int .i64 0, .int .i64 1] 56) = v0 at *
      refine (seenF 2 d D v0 (by decide) (HT.out.below HB0.out (Nat.le_refl _)) (HD.out.below HB0.out)).mono ?_
      rintro e v1 ⟨rfl, hB1⟩
      have HB1 : Hid (Below w.heap.size w v1) := b_keep HB0.out hB1
      clear hB1
      rw [HH.out.2.2]
      go_wp2
      go_returns
      exact ⟨rfl, HB1.out⟩
    cases t0
    rotate_left
    · go_enter Tryd.func23, Tryd.ntmps23
      go_wp2
      refine wp_loop_rounds 4 ?_
      rw [rounds_succ]
      go_wp2_with (go_at_call 24; fail)
      have hB0 : Below w.heap.size w (w.alloc (.cells #[.int .i64 2, .int .i64 0, .int .i64 1] 56)) := (Below.refl _ w).alloc (Nat.le_refl _) _
      have HB0 : Hid (Below w.heap.size w (w.alloc (.cells #[.int .i64 2, .int .i64 0, .int .i64 1] 56))) := hB0
      clear hB0
      generalize w.alloc (.cells #[.int .i64 2, .int .i64 0, .int .i64 1] 56) = v0 at *
      refine (seenF 2 d D v0 (by decide) (HT.out.below HB0.out (Nat.le_refl _)) (HD.out.below HB0.out)).mono ?_
      rintro e v1 ⟨rfl, hB1⟩
      have HB1 : Hid (Below w.heap.size w v1) := b_keep HB0.out hB1
      clear hB1
      rw [HH.out.2.2]
      go_wp2
      rw [rounds_succ]
      go_wp2_with (go_at_call 24; fail)
      refine (seenF 0 d D v1 (by decide) (HT.out.below HB1.out (Nat.le_refl _)) (HD.out.below HB1.out)).mono ?_
      rintro e v2 ⟨rfl, hB2⟩
      have HB2 : Hid (Below w.heap.size w v2) := b_keep HB1.out hB2
      clear hB2
      rw [HH.out.1]
      go_wp2
      go_returns
      exact ⟨rfl, HB2.out⟩
    cases t1
    rotate_left
    · go_enter Tryd.func23, Tryd.ntmps23
      go_wp2
      refine wp_loop_rounds 4 ?_
      rw [rounds_succ]
      go_wp2_with (go_at_call 24; fail)
      have hB0 : Below w.heap.size w (w.alloc (.cells #[.int .i64 2, .int .i64 0, .int .i64 1] 56)) := (Below.refl _ w).alloc (Nat.le_refl _) _
      have HB0 : Hid (Below w.heap.size w (w.alloc (.cells #[.int .i64 2, .int .i64 0, .int .i64 1] 56))) := hB0
      clear hB0
      generalize w.alloc (.cells #[.int .i64 2, .int .i64 0, .int .i64 1] 56) = v0 at *
      refine (seenF 2 d D v0 (by decide) (HT.out.below HB0.out (Nat.le_refl _)) (HD.out.below HB0.out)).mono ?_
      rintro e v1 ⟨rfl, hB1⟩
      have HB1 : Hid (Below w.heap.size w v1) := b_keep HB0.out hB1
      clear hB1
      rw [HH.out.2.2]
      go_wp2
      rw [rounds_succ]
      go_wp2_with (go_at_call 24; fail)
      refine (seenF 0 d D v1 (by decide) (HT.out.below HB1.out (Nat.le_refl _)) (HD.out.below HB1.out)).mono ?_
      rintro e v2 ⟨rfl, hB2⟩
      have HB2 : Hid (Below w.heap.size w v2) := b_keep HB1.out hB2
      clear hB2
      rw [HH.out.1]
      go_wp2
      rw [rounds_succ]
      go_wp2_with (go_at_call 24; fail)
      refine (seenF 1 d D v2 (by decide) (HT.out.below HB2.out (Nat.le_refl _)) (HD.out.below HB2.out)).mono ?_
      rintro e v3 ⟨rfl, hB3⟩
      have HB3 : Hid (Below w.heap.size w v3) := b_keep HB2.out hB3
      clear hB3
      rw [HH.out.2.1]
      go_wp2
      go_returns
      exact ⟨rfl, HB3.out⟩
    go_enter Tryd.func23, Tryd.ntmps23
    go_wp2
    refine wp_loop_rounds 4 ?_
    rw [rounds_succ]
    go_wp2_with (go_at_call 24; fail)
    have hB0 : Below w.heap.size w (w.alloc (.cells #[.int .i64 2, .int .i64 0, .int .i64 1] 56)) := (Below.refl _ w).alloc (Nat.le_refl _) _
    have HB0 : Hid (Below w.heap.size w (w.alloc (.cells #[.int .i64 2, .int .i64 0, .int .i64 1] 56))) := hB0
    clear hB0
    generalize w.alloc (.cells #[.int .i64 2, .int .i64 0, .int .i64 1] 56) = v0 at *
    refine (seenF 2 d D v0 (by decide) (HT.out.below HB0.out (Nat.le_refl _)) (HD.out.below HB0.out)).mono ?_
    rintro e v1 ⟨rfl, hB1⟩
    have HB1 : Hid (Below w.heap.size w v1) := b_keep HB0.out hB1
    clear hB1
    rw [HH.out.2.2]
    go_wp2
    rw [rounds_succ]
    go_wp2_with (go_at_call 24; fail)
    refine (seenF 0 d D v1 (by decide) (HT.out.below HB1.out (Nat.le_refl _)) (HD.out.below HB1.out)).mono ?_
    rintro e v2 ⟨rfl, hB2⟩
    have HB2 : Hid (Below w.heap.size w v2) := b_keep HB1.out hB2
    clear hB2
    rw [HH.out.1]
    go_wp2
    rw [rounds_succ]
    go_wp2_with (go_at_call 24; fail)
    refine (seenF 1 d D v2 (by decide) (HT.out.below HB2.out (Nat.le_refl _)) (HD.out.below HB2.out)).mono ?_
    rintro e v3 ⟨rfl, hB3⟩
    have HB3 : Hid (Below w.heap.size w v3) := b_keep HB2.out hB3
    clear hB3
    rw [HH.out.2.1]
    go_wp2
    rw [rounds_succ]
    go_wp2
    go_returns
    exact ⟨rfl, HB3.out⟩

end Go.Proofs.YtkondnlilkpdoaaDoor.Fi
