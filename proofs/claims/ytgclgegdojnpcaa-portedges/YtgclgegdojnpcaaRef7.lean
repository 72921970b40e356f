/- What the document's own answers of layer 7 are. -/
import Derived.Test.YtgclgegdojnpcaaPort2
set_option linter.unusedVariables false
namespace Go.Proofs.Ytgclgegdojnpcaa.Po
open Go.RowKit

set_option maxRecDepth 100000 in
set_option maxHeartbeats 2000000 in
theorem RLevel (p : Pt) (w : World) (hp : p.ok) : Calls Try.prog 15 #[.int .i64 (p.i : Int), .int .i64 (p.o : Int), .int .i64 (p.v : Int)] w fun e w' => e = .returned (.int .i64 (lev p : Int)) ∧ w' = w := by
  have HP : Hid p.ok := hp
  obtain ⟨hi, ho, hv⟩ := hp
  go_enter Try.func15, Try.ntmps15
  go_wp2
  go_loopw [7, 8] (fun lv bt wr => ∃ k : Nat, k ≤ 8 ∧ lv = .int .i64 ((lev p % 2 ^ k : Nat) : Int) ∧ bt = .int .i64 ((2 ^ k : Nat) : Int) ∧ wr = w) (fun _ bt _ => 256 - (intOf bt).toNat)
  case atStart => exact ⟨0, by omega, by rw [Nat.pow_zero, Nat.mod_one]; rfl, rfl, rfl⟩
  case round =>
    obtain ⟨k, hk, rfl, rfl, rfl⟩ := hrel
    have hlt := lev_lt HP.out
    by_cases hk8 : k < 8
    · have hn := lev_next HP.out hk8
      have h2 : 2 ^ (k + 1) = 2 ^ k * 2 := Nat.pow_succ 2 k
      have hB2 : 2 ^ k ≤ 2 ^ 7 := Nat.pow_le_pow_right (by decide) (by omega)
      have hB1 : 1 ≤ 2 ^ k := Nat.one_le_two_pow
      have hm : lev p % 2 ^ k < 256 := Nat.lt_of_le_of_lt (Nat.mod_le _ _) hlt
      rw [h2] at hn
      have HN : Hid (lev p % (2 ^ k * 2) = lev p % 2 ^ k + (if (if p.v / 2 ^ k % 2 = 1 then p.o else p.i) / 2 ^ k % 2 = 1 then 2 ^ k else 0)) := hn
      have HK2 : Hid (2 ^ (k + 1) = 2 ^ k * 2) := h2
      clear hn h2
      rw [show (2 : Nat) ^ 7 = 128 from rfl] at hB2
      generalize 2 ^ k = B at *
      generalize hm' : lev p % B = m at *
      clear hm'
      have hB0 : ¬ (B : Int) = 0 := by omega
      have hB3 : (B : Int) < 256 := by omega
      obtain ⟨qv, hqv⟩ : ∃ q, p.v / B % 2 = q := ⟨_, rfl⟩
      have hqv1 : qv = 0 ∨ qv = 1 := by omega
      have hqv2 : (p.v : Int) / (B : Int) % 2 = (qv : Int) := by
        have e : ((p.v / B : Nat) : Int) = (p.v : Int) / (B : Int) := by simp
        rw [← e]; omega
      have HV : Hid (p.v / B % 2 = qv) := hqv
      clear hqv
      have d1 : (0 : Int) ≤ (p.v : Int) / (B : Int) := Int.ediv_nonneg (by omega) (by omega)
      have d2 : (0 : Int) ≤ (p.o : Int) / (B : Int) := Int.ediv_nonneg (by omega) (by omega)
      have d3 : (0 : Int) ≤ (p.i : Int) / (B : Int) := Int.ediv_nonneg (by omega) (by omega)
      have f1 : (p.v : Int) / (B : Int) ≤ (p.v : Int) := Int.ediv_le_self _ (by omega)
      have f2 : (p.o : Int) / (B : Int) ≤ (p.o : Int) := Int.ediv_le_self _ (by omega)
      have f3 : (p.i : Int) / (B : Int) ≤ (p.i : Int) := Int.ediv_le_self _ (by omega)
      rcases hqv1 with rfl | rfl
      · obtain ⟨qf, hqf⟩ : ∃ q, p.i / B % 2 = q := ⟨_, rfl⟩
        have hqf1 : qf = 0 ∨ qf = 1 := by omega
        have hqf2 : (p.i : Int) / (B : Int) % 2 = (qf : Int) := by
          have e : ((p.i / B : Nat) : Int) = (p.i : Int) / (B : Int) := by simp
          rw [← e]; omega
        have HF : Hid (p.i / B % 2 = qf) := hqf
        clear hqf
        simp only [Int.cast_ofNat_Int] at hqv2
        rcases hqf1 with rfl | rfl
        · simp only [Int.cast_ofNat_Int] at hqf2
          go_wp2
          go_roundw
          case rel =>
            refine ⟨k + 1, hk8, ?_, by rw [HK2.out]; go_num, by trivial⟩
            rw [HK2.out, HN.out]; simp [HV.out, HF.out]
          case measure => simp [intOf]; omega
        · simp only [Int.cast_ofNat_Int] at hqf2
          go_wp2
          go_roundw
          case rel =>
            refine ⟨k + 1, hk8, ?_, by rw [HK2.out]; go_num, by trivial⟩
            rw [HK2.out, HN.out]; simp [HV.out, HF.out]
          case measure => simp [intOf]; omega
      · obtain ⟨qf, hqf⟩ : ∃ q, p.o / B % 2 = q := ⟨_, rfl⟩
        have hqf1 : qf = 0 ∨ qf = 1 := by omega
        have hqf2 : (p.o : Int) / (B : Int) % 2 = (qf : Int) := by
          have e : ((p.o / B : Nat) : Int) = (p.o : Int) / (B : Int) := by simp
          rw [← e]; omega
        have HF : Hid (p.o / B % 2 = qf) := hqf
        clear hqf
        simp only [Int.cast_ofNat_Int] at hqv2
        rcases hqf1 with rfl | rfl
        · simp only [Int.cast_ofNat_Int] at hqf2
          go_wp2
          go_roundw
          case rel =>
            refine ⟨k + 1, hk8, ?_, by rw [HK2.out]; go_num, by trivial⟩
            rw [HK2.out, HN.out]; simp [HV.out, HF.out]
          case measure => simp [intOf]; omega
        · simp only [Int.cast_ofNat_Int] at hqf2
          go_wp2
          go_roundw
          case rel =>
            refine ⟨k + 1, hk8, ?_, by rw [HK2.out]; go_num, by trivial⟩
            rw [HK2.out, HN.out]; simp [HV.out, HF.out]
          case measure => simp [intOf]; omega
    · have hk' : k = 8 := by omega
      subst hk'
      rw [show (2 : Nat) ^ 8 = 256 from rfl, Nat.mod_eq_of_lt hlt]
      go_wp2
      go_returns
      exact ⟨rfl, rfl⟩

set_option maxRecDepth 100000 in
set_option maxHeartbeats 2000000 in
theorem RBytes_yes (x y z : Int) (w : World) (hx : isByte x) (hy : isByte y) (hz : isByte z) : Calls Try.prog 13 #[.agg #[.int .i64 x, .int .i64 y, .int .i64 z]] w fun e w' => e = .returned (.bool true) ∧ Below w.heap.size w w' := by
  obtain ⟨x1, x2⟩ := hx
  obtain ⟨y1, y2⟩ := hy
  obtain ⟨z1, z2⟩ := hz
  all_goals
    go_enter Try.func13, Try.ntmps13
    go_wp2
    go_rounds 4
    go_returns
    exact ⟨rfl, by go_grown⟩

set_option maxRecDepth 100000 in
set_option maxHeartbeats 2000000 in
theorem RBytes_no0 (x y z : Int) (w : World) (hx : x < 0 ∨ 255 < x) : Calls Try.prog 13 #[.agg #[.int .i64 x, .int .i64 y, .int .i64 z]] w fun e w' => e = .returned (.bool false) ∧ Below w.heap.size w w' := by
  rcases hx with hx | hx
  all_goals
    go_enter Try.func13, Try.ntmps13
    go_wp2
    go_rounds 4
    go_returns
    exact ⟨rfl, by go_grown⟩

set_option maxRecDepth 100000 in
set_option maxHeartbeats 2000000 in
theorem RBytes_no1 (x y z : Int) (w : World) (hx : isByte x) (hy : y < 0 ∨ 255 < y) : Calls Try.prog 13 #[.agg #[.int .i64 x, .int .i64 y, .int .i64 z]] w fun e w' => e = .returned (.bool false) ∧ Below w.heap.size w w' := by
  obtain ⟨x1, x2⟩ := hx
  rcases hy with hy | hy
  all_goals
    go_enter Try.func13, Try.ntmps13
    go_wp2
    go_rounds 4
    go_returns
    exact ⟨rfl, by go_grown⟩

set_option maxRecDepth 100000 in
set_option maxHeartbeats 2000000 in
theorem RBytes_no2 (x y z : Int) (w : World) (hx : isByte x) (hy : isByte y) (hz : z < 0 ∨ 255 < z) : Calls Try.prog 13 #[.agg #[.int .i64 x, .int .i64 y, .int .i64 z]] w fun e w' => e = .returned (.bool false) ∧ Below w.heap.size w w' := by
  obtain ⟨x1, x2⟩ := hx
  obtain ⟨y1, y2⟩ := hy
  rcases hz with hz | hz
  all_goals
    go_enter Try.func13, Try.ntmps13
    go_wp2
    go_rounds 4
    go_returns
    exact ⟨rfl, by go_grown⟩

theorem RBytes (x y z : Int) (w : World) : Calls Try.prog 13 #[.agg #[.int .i64 x, .int .i64 y, .int .i64 z]] w fun e w' => e = .returned (.bool (decide (isByte x ∧ isByte y ∧ isByte z))) ∧ Below w.heap.size w w' := by
  by_cases hx : isByte x
  · by_cases hy : isByte y
    · by_cases hz : isByte z
      · rw [decide_eq_true ⟨hx, hy, hz⟩]; exact RBytes_yes x y z w hx hy hz
      · rw [decide_eq_false fun h => hz h.2.2]; exact RBytes_no2 x y z w hx hy (notByte hz)
    · rw [decide_eq_false fun h => hy h.2.1]; exact RBytes_no1 x y z w hx (notByte hy)
  · rw [decide_eq_false fun h => hx h.1]; exact RBytes_no0 x y z w (notByte hx)

set_option maxRecDepth 100000 in
set_option maxHeartbeats 2000000 in
theorem RBits_yes (x y z : Int) (w : World) (hx : isBit x) (hy : isBit y) (hz : isBit z) : Calls Try.prog 23 #[.agg #[.int .i64 x, .int .i64 y, .int .i64 z]] w fun e w' => e = .returned (.bool true) ∧ Below w.heap.size w w' := by
  rcases hx with rfl | rfl <;> rcases hy with rfl | rfl <;> rcases hz with rfl | rfl
  all_goals
    go_enter Try.func23, Try.ntmps23
    go_wp2
    go_rounds 4
    go_returns
    exact ⟨rfl, by go_grown⟩

set_option maxRecDepth 100000 in
set_option maxHeartbeats 2000000 in
theorem RBits_no0 (x y z : Int) (w : World) (hx : ¬ isBit x) : Calls Try.prog 23 #[.agg #[.int .i64 x, .int .i64 y, .int .i64 z]] w fun e w' => e = .returned (.bool false) ∧ Below w.heap.size w w' := by
  have x0 : (x != 0) = true := by unfold isBit at hx; simp; omega
  have x1 : (x != 1) = true := by unfold isBit at hx; simp; omega
  clear hx
  all_goals
    go_enter Try.func23, Try.ntmps23
    go_wp2
    go_rounds 4
    go_returns
    exact ⟨rfl, by go_grown⟩

set_option maxRecDepth 100000 in
set_option maxHeartbeats 2000000 in
theorem RBits_no1 (x y z : Int) (w : World) (hx : isBit x) (hy : ¬ isBit y) : Calls Try.prog 23 #[.agg #[.int .i64 x, .int .i64 y, .int .i64 z]] w fun e w' => e = .returned (.bool false) ∧ Below w.heap.size w w' := by
  have y0 : (y != 0) = true := by unfold isBit at hy; simp; omega
  have y1 : (y != 1) = true := by unfold isBit at hy; simp; omega
  clear hy
  rcases hx with rfl | rfl
  all_goals
    go_enter Try.func23, Try.ntmps23
    go_wp2
    go_rounds 4
    go_returns
    exact ⟨rfl, by go_grown⟩

set_option maxRecDepth 100000 in
set_option maxHeartbeats 2000000 in
theorem RBits_no2 (x y z : Int) (w : World) (hx : isBit x) (hy : isBit y) (hz : ¬ isBit z) : Calls Try.prog 23 #[.agg #[.int .i64 x, .int .i64 y, .int .i64 z]] w fun e w' => e = .returned (.bool false) ∧ Below w.heap.size w w' := by
  have z0 : (z != 0) = true := by unfold isBit at hz; simp; omega
  have z1 : (z != 1) = true := by unfold isBit at hz; simp; omega
  clear hz
  rcases hx with rfl | rfl <;> rcases hy with rfl | rfl
  all_goals
    go_enter Try.func23, Try.ntmps23
    go_wp2
    go_rounds 4
    go_returns
    exact ⟨rfl, by go_grown⟩

theorem RBits (x y z : Int) (w : World) : Calls Try.prog 23 #[.agg #[.int .i64 x, .int .i64 y, .int .i64 z]] w fun e w' => e = .returned (.bool (decide (isBit x ∧ isBit y ∧ isBit z))) ∧ Below w.heap.size w w' := by
  by_cases hx : isBit x
  · by_cases hy : isBit y
    · by_cases hz : isBit z
      · rw [decide_eq_true ⟨hx, hy, hz⟩]; exact RBits_yes x y z w hx hy hz
      · rw [decide_eq_false fun h => hz h.2.2]; exact RBits_no2 x y z w hx hy hz
    · rw [decide_eq_false fun h => hy h.2.1]; exact RBits_no1 x y z w hx hy
  · rw [decide_eq_false fun h => hx h.1]; exact RBits_no0 x y z w hx

set_option maxHeartbeats 1000000 in
theorem RSee (p : Eg) (x : Bool) (w : World) : Calls Try.prog 25 #[.agg #[.bool p.h, .bool p.r, .bool p.c], .bool x] w fun e w' => e = .returned (.agg #[.bool (see p x).h, .bool (see p x).r, .bool (see p x).c]) ∧ Below w.heap.size w w' := by
  obtain ⟨ph, pr, pc⟩ := p
  cases x <;> cases ph <;> cases pr <;> cases pc
  all_goals
    go_enter Try.func25, Try.ntmps25
    go_wp2
    go_returns
    exact ⟨rfl, by go_grown⟩

set_option maxHeartbeats 1000000 in
theorem RWords (p : Eg) (w : World) : Calls Try.prog 28 #[.agg #[.bool p.h, .bool p.r, .bool p.c]] w fun e w' => e = .returned (.agg (ewords p)) ∧ Below w.heap.size w w' := by
  obtain ⟨ph, pr, pc⟩ := p
  cases ph <;> cases pr <;> cases pc
  all_goals
    go_enter Try.func28, Try.ntmps28
    go_wp2
    go_returns
    exact ⟨rfl, by go_grown⟩

end Go.Proofs.Ytgclgegdojnpcaa.Po
