/- What the small calls of package sprite do: one contract a function. -/
import Derived.Test.YtienmoannnhhmaaDoorSprM
import Derived.Test.YtienmoannnhhmaaDoorBase
import Derived.Test.YtienmoannnhhmaaDoorRows
import Derived.Deep.RegionWith
import Derived.Deep.QuietTactic
import Derived.Handy
import Derived.Maps.OwnOps
import Derived.Maps.OwnSet
import Derived.Laws.BitsAllLaws
set_option linter.unusedVariables false
namespace Go.Proofs.YtienmoannnhhmaaDoor.Sp
open Go.RowKit Go.Maps

theorem run_index_array {P : Program} (w : World) (t e : TypeId) (n : Nat) (cs : Array Go.Value) (k : IntKind) (i : Nat) (v : Go.Value) (h : P.underlying t = some (.array n e)) (hs : ∀ w, (sizeOf e).run P w = .ok 1 w) (ha : ∀ w, (isAgg e).run P w = .ok false w) (hi : i < n) (hv : cs[i]? = some v) :
    (Instr.index t (.agg cs) (.int k (i : Int))).run P w = .ok v w := by
  have h1 : (0 : Int) ≤ (i : Int) ∧ (i : Int) < (n : Int) := by omega
  simp [Instr.index, run_underlying h, asIntOf, h1, hs, ha, hi, hv, go_sem]
theorem sizeInt (w : World) : (sizeOf 3).run Tryd.prog w = .ok 1 w := by
  have h : (Tryd.prog.info? 3).map (·.size) = some 1 := by kernel_rfl
  obtain ⟨i, h1, h2⟩ := Option.map_eq_some_iff.1 h
  rw [run_sizeOf w h1, show Tryd.prog.cellsOf 3 = 1 by kernel_rfl]
theorem aggInt (w : World) : (isAgg 3).run Tryd.prog w = .ok false w := run_isAgg_plain Tryd.underlying3 rfl w
theorem at2_0 (x y : Int) (w : World) : (Instr.index 65 (.agg #[.int .i64 x, .int .i64 y]) (.int .i64 0)).run Tryd.prog w = .ok (.int .i64 x) w :=
  run_index_array w 65 3 2 _ .i64 0 _ Tryd.underlying65 sizeInt aggInt (by decide) rfl
theorem at2_1 (x y : Int) (w : World) : (Instr.index 65 (.agg #[.int .i64 x, .int .i64 y]) (.int .i64 1)).run Tryd.prog w = .ok (.int .i64 y) w :=
  run_index_array w 65 3 2 _ .i64 1 _ Tryd.underlying65 sizeInt aggInt (by decide) rfl

/-- Does a byte of numbers hold this one? -/
def ofB (wh c : Nat) : Bool := decide (wh / 2 ^ (c % 8) % 2 = 1)

set_option maxRecDepth 100000 in
set_option maxHeartbeats 400000 in
theorem isOf (wh c : Nat) (w : World) (h1 : wh < 256) (h2 : c < 256) : Calls Tryd.prog 38 #[.int .u8 (wh : Int), .int .u8 (c : Int)] w fun e w' => e = .returned (.bool (ofB wh c)) ∧ w' = w := by
  obtain ⟨d, hd⟩ : ∃ d : Nat, (c : Int) % 8 = (d : Int) := ⟨c % 8, by omega⟩
  have hdc : Hid (d = c % 8) := (show d = c % 8 by omega)
  have hd8 : d ≤ 8 := by omega
  have l1 : wh / 2 ^ d < 256 := Nat.lt_of_le_of_lt (Nat.div_le_self _ _) h1
  have HE : Hid ((bits .and .u8 ((wh : Int) / 2 ^ d) 1 == 1) = ofB wh c) := by
    show (bits .and .u8 ((wh : Int) / 2 ^ d) 1 == 1) = ofB wh c
    have e1 : ((wh : Int) / 2 ^ d) = ((wh / 2 ^ d : Nat) : Int) := by rw [Int.natCast_ediv]; simp
    rw [e1, show (1 : Int) = ((1 : Nat) : Int) from rfl, u8_and_nat _ _ l1 (by omega), nat_mask1]
    unfold ofB
    rw [← hdc.out, Bool.eq_iff_iff, beq_iff_eq, decide_eq_true_iff]
    omega
  clear l1
  go_enter Tryd.func38, Tryd.ntmps38
  go_wp2
  go_returns
  exact ⟨ret_bool HE.out, rfl⟩

/-- May these be two ages? -/
def canB (y z : Int) : Bool := if y < 8 then decide (0 ≤ y ∧ y < z ∧ z ≤ 255) else decide (y ≤ 255 ∧ z = 255)

set_option maxRecDepth 100000 in
set_option maxHeartbeats 400000 in
theorem canBe (y z : Int) (w : World) : Calls Tryd.prog 28 #[.int .i64 y, .int .i64 z] w fun e w' => e = .returned (.bool (canB y z)) ∧ w' = w := by
  by_cases h8 : y < 8
  · by_cases h0 : 0 ≤ y
    · by_cases hz : y < z
      · have HE : Hid (canB y z = decide (z ≤ 255)) := (show canB y z = decide (z ≤ 255) by unfold canB; rw [if_pos h8, Bool.eq_iff_iff]; simp; omega)
        go_enter Tryd.func28, Tryd.ntmps28
        go_wp2
        go_returns
        exact ⟨ret_bool HE.out.symm, rfl⟩
      · have HE : Hid (canB y z = false) := (show canB y z = false by unfold canB; rw [if_pos h8]; simp; omega)
        go_enter Tryd.func28, Tryd.ntmps28
        go_wp2
        go_returns
        exact ⟨ret_bool HE.out.symm, rfl⟩
    · have HE : Hid (canB y z = false) := (show canB y z = false by unfold canB; rw [if_pos h8]; simp; omega)
      go_enter Tryd.func28, Tryd.ntmps28
      go_wp2
      go_returns
      exact ⟨ret_bool HE.out.symm, rfl⟩
  · by_cases h0 : y ≤ 255
    · have HE : Hid (canB y z = (z == 255)) := (show canB y z = (z == 255) by unfold canB; rw [if_neg h8, Bool.eq_iff_iff]; simp; omega)
      go_enter Tryd.func28, Tryd.ntmps28
      go_wp2
      go_returns
      exact ⟨ret_bool HE.out.symm, rfl⟩
    · have HE : Hid (canB y z = false) := (show canB y z = false by unfold canB; rw [if_neg h8]; simp; omega)
      go_enter Tryd.func28, Tryd.ntmps28
      go_wp2
      go_returns
      exact ⟨ret_bool HE.out.symm, rfl⟩

/-- The map of the counts that start, as it reads. -/
def startD : DataW Unit := ((((DataW.map []).put (.int .i64 0) (.lit (.int .u8 255))).put (.int .i64 16) (.lit (.int .u8 10))).put (.int .i64 32) (.lit (.int .u8 76))).put (.int .i64 64) (.lit (.int .u8 80))
theorem keysI : Keyed Tryd.prog 3 := int_keyed Tryd.underlying3

set_option maxRecDepth 100000 in
set_option maxHeartbeats 1000000 in
theorem startCounts (w : World) : Calls Tryd.prog 37 #[] w fun e w' => ∃ b, e = .returned (.map (some b)) ∧ w'.ownsMap Tryd.prog 3 (plainElem Tryd.prog 5) b 4 startD ∧ w.heap.size ≤ b ∧ Below w.heap.size w w' := by
  have hmm := @run_makeMap Tryd.prog
  have o0 := World.ownsMap_made (H := Unit) w Tryd.prog 3 (plainElem Tryd.prog 5)
  have b0 : Below w.heap.size w (w.alloc (.map #[] 0)) := (Below.refl _ _).alloc (Nat.le_refl _) _
  obtain ⟨w1, r1, o1, g1⟩ := o0.update keysI Tryd.underlying67 (by decide) (keyOf_int_mk (a := 0) Tryd.underlying3 (by decide)) (plainElem_int (a := 255) Tryd.underlying5 (by decide))
  have b1 : Below w.heap.size w w1 := b0.grown g1 b0.size (fun j hj => by cases hj; exact Nat.le_refl _)
  clear g1 o0 b0
  obtain ⟨w2, r2, o2, g2⟩ := o1.update keysI Tryd.underlying67 (by decide) (keyOf_int_mk (a := 16) Tryd.underlying3 (by decide)) (plainElem_int (a := 10) Tryd.underlying5 (by decide))
  have b2 : Below w.heap.size w w2 := b1.grown g2 b1.size (fun j hj => by cases hj; exact Nat.le_refl _)
  clear g2 o1 b1
  obtain ⟨w3, r3, o3, g3⟩ := o2.update keysI Tryd.underlying67 (by decide) (keyOf_int_mk (a := 32) Tryd.underlying3 (by decide)) (plainElem_int (a := 76) Tryd.underlying5 (by decide))
  have b3 : Below w.heap.size w w3 := b2.grown g3 b2.size (fun j hj => by cases hj; exact Nat.le_refl _)
  clear g3 o2 b2
  obtain ⟨w4, r4, o4, g4⟩ := o3.update keysI Tryd.underlying67 (by decide) (keyOf_int_mk (a := 64) Tryd.underlying3 (by decide)) (plainElem_int (a := 80) Tryd.underlying5 (by decide))
  have b4 : Below w.heap.size w w4 := b3.grown g4 b3.size (fun j hj => by cases hj; exact Nat.le_refl _)
  clear g4 o3 b3
  have HO : Hid (w4.ownsMap Tryd.prog 3 (plainElem Tryd.prog 5) w.heap.size 4 startD ∧ w.heap.size ≤ w.heap.size ∧ Below w.heap.size w w4) := ⟨o4, Nat.le_refl _, b4⟩
  clear o4 b4
  go_enter Tryd.func37, Tryd.ntmps37
  go_wp2
  go_returns
  exact ⟨_, rfl, HO.out⟩

/-- Which copies' numbers a count starts for. -/
def whichN (n : Nat) : Nat := if n = 0 then 255 else if n = 16 then 10 else if n = 32 then 76 else if n = 64 then 80 else 0
theorem whichN_lt (n : Nat) : whichN n < 256 := by unfold whichN; repeat (first | omega | split)
/-- Is the count n a start, by a number of copies? -/
def stB (n c : Nat) : Bool := ofB (whichN n) c
theorem stB_not {n c : Nat} (h : n % 16 ≠ 0) : stB n c = false := by
  unfold stB whichN
  rw [if_neg (by omega), if_neg (by omega), if_neg (by omega), if_neg (by omega)]
  unfold ofB
  simp
theorem wf64 (n : Nat) (h : n < 1000000) : (Lit.int .i64 (n : Int)).wf = true := by simp only [Lit.wf, show IntKind.i64.min = -9223372036854775808 from rfl, show IntKind.i64.max = 9223372036854775807 from rfl, Bool.and_eq_true, decide_eq_true_eq]; omega
theorem startD_is : startD = .map [(.int .i64 0, .lit (.int .u8 255)), (.int .i64 16, .lit (.int .u8 10)), (.int .i64 32, .lit (.int .u8 76)), (.int .i64 64, .lit (.int .u8 80))] := by rfl
theorem startD_at (n : Nat) : startD.atKey (.int .i64 (n : Int)) (.lit (.int .u8 0)) = .lit (.int .u8 (whichN n : Int)) := by
  rw [startD_is]
  unfold DataW.atKey whichN
  by_cases h0 : n = 0
  · subst h0; simp [Lit.sameKey]
  by_cases h1 : n = 16
  · subst h1; simp [Lit.sameKey]
  by_cases h2 : n = 32
  · subst h2; simp [Lit.sameKey]
  by_cases h3 : n = 64
  · subst h3; simp [Lit.sameKey]
  have e0 : ¬ (0 : Int) = (n : Int) := by omega
  have e1 : ¬ (16 : Int) = (n : Int) := by omega
  have e2 : ¬ (32 : Int) = (n : Int) := by omega
  have e3 : ¬ (64 : Int) = (n : Int) := by omega
  simp [Lit.sameKey, h0, h1, h2, h3, e0, e1, e2, e3]

set_option maxRecDepth 100000 in
set_option maxHeartbeats 2000000 in
theorem isStart (n c : Nat) (w : World) (hn : n < 160) (hc : c < 256) : Calls Tryd.prog 32 #[.int .i64 (n : Int), .int .u8 (c : Int)] w fun e w' => e = .returned (.bool (stB n c)) ∧ Below w.heap.size w w' := by
  by_cases h16 : n % 16 = 0
  · have e16 : ((n : Int) % 16 == 0) = true := beq_iff_eq.2 (by omega)
    have HST : Hid (stB n c = ofB (whichN n) c) := (rfl : stB n c = ofB (whichN n) c)
    obtain ⟨k, hk⟩ : ∃ k, whichN n = k := ⟨_, rfl⟩
    have hkl : k < 256 := hk ▸ whichN_lt n
    have HAT : Hid (startD.atKey (.int .i64 (n : Int)) (.lit (.int .u8 0)) = .lit (.int .u8 (k : Int))) := (by have := startD_at n; rwa [hk] at this : startD.atKey (.int .i64 (n : Int)) (.lit (.int .u8 0)) = .lit (.int .u8 (k : Int)))
    rw [HST.out, hk]
    clear h16 HST hk
    go_enter Tryd.func32, Tryd.ntmps32
    go_wp2_with (go_at_call 37; fail)
    refine (startCounts w).mono ?_
    rintro e w1 ⟨b, rfl, hown, hb, hB⟩
    obtain ⟨v, hrun, hat, hwv⟩ := hown.lookup_int keysI Tryd.underlying67 Tryd.underlying5 (by kernel_rfl) (keyOf_int_mk (a := (n : Int)) Tryd.underlying3 (wf64 n (by omega)))
    obtain rfl : v = (k : Int) := by
      have := hat.symm.trans HAT.out
      simpa using this
    clear hat hwv hown hb
    go_wp2_with (go_at_call 38; refine (isOf k c _ hkl hc).mono ?_; rintro e w2 ⟨rfl, rfl⟩)
    go_returns
    exact ⟨rfl, hB⟩
  · have e16 : ((n : Int) % 16 == 0) = false := beq_eq_false_iff_ne.2 (by omega)
    have HST : Hid (stB n c = false) := stB_not h16
    clear h16
    go_enter Tryd.func32, Tryd.ntmps32
    go_wp2
    go_returns
    exact ⟨ret_bool HST.out.symm, Below.refl _ _⟩

end Go.Proofs.YtienmoannnhhmaaDoor.Sp
