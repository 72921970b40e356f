/- Graphs, and what a register tells: one contract a function. -/
import Derived.Test.YtkondnlilkpdoaaDoorFldM
set_option linter.unusedVariables false
namespace Go.Proofs.YtkondnlilkpdoaaDoor.Fi
open Go.RowKit

set_option maxRecDepth 100000 in
set_option maxHeartbeats 400000 in
theorem owner (x : Int) (l : Bool) (w : World) (hl : decide (x < 80) = l) : Calls Tryd.prog 25 #[.int .i64 x] w fun e w' => e = .returned (.int .i64 (if l then 0 else 1)) ∧ w' = w := by
  cases l
  · have h : ¬ x < 80 := by simpa using hl
    clear hl
    go_enter Tryd.func25, Tryd.ntmps25
    go_wp2
    go_returns
    exact ⟨rfl, rfl⟩
  · have h : x < 80 := by simpa using hl
    clear hl
    go_enter Tryd.func25, Tryd.ntmps25
    go_wp2
    go_returns
    exact ⟨rfl, rfl⟩

/-- The bit k of a number. -/
def bsN (m k : Nat) : Nat := m / 2 ^ k % 2
theorem bsN_le (m k : Nat) : bsN m k ≤ 1 := by unfold bsN; omega
theorem bsN_bs (m k : Nat) : (bsN m k = 0 ∧ bs m k = false) ∨ (bsN m k = 1 ∧ bs m k = true) := by unfold bsN bs; simp; omega

set_option maxRecDepth 100000 in
set_option maxHeartbeats 400000 in
theorem bit (m k : Nat) (w : World) (hm : m < 65536) (hk : k < 16) : Calls Tryd.prog 29 #[.int .u16 (m : Int), .int .i64 (k : Int)] w fun e w' => e = .returned (.int .u8 (bsN m k : Int)) ∧ w' = w := by
  have l1 : m / 2 ^ k < 65536 := Nat.lt_of_le_of_lt (Nat.div_le_self _ _) hm
  have l2 := bsN_le m k
  have HE : bits .and .u16 ((m : Int) / 2 ^ k) 1 = (bsN m k : Int) := by
    have e1 : ((m : Int) / 2 ^ k) = ((m / 2 ^ k : Nat) : Int) := by rw [Int.natCast_ediv]; simp
    rw [e1, show (1 : Int) = ((1 : Nat) : Int) from rfl, u16_and_nat _ _ l1 (by omega), nat_mask1]
    rfl
  clear l1
  go_enter Tryd.func29, Tryd.ntmps29
  go_wp2
  go_returns
  exact ⟨rfl, rfl⟩

set_option maxRecDepth 100000 in
set_option maxHeartbeats 400000 in
theorem Graph_no (b : Nat) (mr : Bool) (wd dot : Int) (w : World) (hmx : dot ≤ 9223372036854775807) (h : wd < 1 ∨ (1 ≤ wd ∧ dot < 0) ∨ (1 ≤ wd ∧ 0 ≤ dot ∧ 7 < dot / wd)) : Calls Tryd.prog 18 #[.int .u8 (b : Int), .bool mr, .int .i64 wd, .int .i64 dot] w fun e w' => e = .returned (.bool false) ∧ w' = w := by
  rcases h with h | ⟨h1, h2⟩ | ⟨h1, h2, h3⟩
  · go_enter Tryd.func18, Tryd.ntmps18
    go_wp2
    go_returns
    exact ⟨rfl, rfl⟩
  · go_enter Tryd.func18, Tryd.ntmps18
    go_wp2
    go_returns
    exact ⟨rfl, rfl⟩
  · obtain ⟨q, hq⟩ : ∃ q : Nat, dot / wd = (q : Int) := ⟨(dot / wd).toNat, by omega⟩
    have hq7 : (8 : Int) ≤ (q : Int) := by omega
    have hq8 : (q : Int) ≤ 9223372036854775807 := by rw [← hq]; exact Int.le_trans (Int.ediv_le_self wd h2) hmx
    have hq2 : Int.tdiv dot wd = (q : Int) := by rw [Int.tdiv_eq_ediv_of_nonneg h2]; exact hq
    have hne : wd ≠ 0 := by omega
    clear h3
    go_enter Tryd.func18, Tryd.ntmps18
    go_wp2
    go_returns
    exact ⟨rfl, rfl⟩

/-- Which bit a dot shows. -/
def gr (mr : Bool) (q : Nat) : Nat := if mr then q else 7 - q

set_option maxRecDepth 100000 in
set_option maxHeartbeats 400000 in
theorem Graph (b : Nat) (mr : Bool) (wd dot : Int) (q : Nat) (w : World) (hb : b < 256) (h1 : 1 ≤ wd) (h2 : 0 ≤ dot) (hq : dot / wd = (q : Int)) (h7 : q ≤ 7) : Calls Tryd.prog 18 #[.int .u8 (b : Int), .bool mr, .int .i64 wd, .int .i64 dot] w fun e w' => e = .returned (.bool (bs b (gr mr q))) ∧ w' = w := by
  have hq7 : ¬ (8 : Int) ≤ (q : Int) := by omega
  have hq2 : Int.tdiv dot wd = (q : Int) := by rw [Int.tdiv_eq_ediv_of_nonneg h2]; exact hq
  have hne : wd ≠ 0 := by omega
  have HB : Hid (b < 256) := hb
  clear hb
  cases mr
  · obtain ⟨k, hk⟩ : ∃ k : Nat, (7 : Int) - (q : Int) = (k : Int) := ⟨7 - q, by omega⟩
    have HK : Hid (gr false q = k ∧ k < 8) := (⟨by unfold gr; simp; omega, by omega⟩ : gr false q = k ∧ k < 8)
    rw [HK.out.1]
    go_enter Tryd.func18, Tryd.ntmps18
    go_wp2_with (go_at_call 20; refine (isSet b k _ HB.out HK.out.2).mono ?_; rintro e w1 ⟨rfl, rfl⟩)
    go_returns
    exact ⟨rfl, rfl⟩
  · have HK : Hid (q < 8) := (by omega : q < 8)
    rw [show gr true q = q from rfl]
    go_enter Tryd.func18, Tryd.ntmps18
    go_wp2_with (go_at_call 20; refine (isSet b q _ HB.out HK.out).mono ?_; rintro e w1 ⟨rfl, rfl⟩)
    go_returns
    exact ⟨rfl, rfl⟩

/-- What register k tells. -/
def tN (m k : Nat) : Nat := if k < 6 then bsN m (2 * k) * 128 + bsN m (2 * k + 1) * 64 else if k = 6 then bsN m 12 * 128 else bsN m 13 * 128 + bsN m 14 * 64

set_option maxRecDepth 100000 in
set_option maxHeartbeats 400000 in
theorem Tell_no (m : Nat) (r : Int) (w : World) (h : r < 0 ∨ 7 < r) : Calls Tryd.prog 16 #[.int .u16 (m : Int), .int .i64 r] w fun e w' => e = .returned (.int .u8 0) ∧ w' = w := by
  rcases h with h | h
  · go_enter Tryd.func16, Tryd.ntmps16
    go_wp2
    go_returns
    exact ⟨rfl, rfl⟩
  · have h0 : (0 : Int) ≤ r := by omega
    have h1 : (8 : Int) ≤ r := by omega
    go_enter Tryd.func16, Tryd.ntmps16
    go_wp2
    go_returns
    exact ⟨rfl, rfl⟩

set_option maxRecDepth 100000 in
set_option maxHeartbeats 4000000 in
theorem Tell (m k : Nat) (w : World) (hm : m < 65536) (hk : k ≤ 7) : Calls Tryd.prog 16 #[.int .u16 (m : Int), .int .i64 (k : Int)] w fun e w' => e = .returned (.int .u8 (tN m k : Int)) ∧ w' = w := by
  have HM : Hid (m < 65536) := hm
  clear hm
  rcases (show k < 6 ∨ k = 6 ∨ k = 7 by omega) with h | h | h
  · obtain ⟨i, hi⟩ : ∃ i : Nat, (2 : Int) * (k : Int) = (i : Int) := ⟨2 * k, by omega⟩
    obtain ⟨j, hj⟩ : ∃ j : Nat, (i : Int) + 1 = (j : Int) := ⟨i + 1, by omega⟩
    have HI : Hid (i < 16 ∧ j < 16) := (⟨by omega, by omega⟩ : i < 16 ∧ j < 16)
    obtain ⟨a, ha⟩ : ∃ a, bsN m i = a := ⟨_, rfl⟩
    obtain ⟨b, hb⟩ : ∃ b, bsN m j = b := ⟨_, rfl⟩
    have la : a ≤ 1 := (by rw [← ha]; exact bsN_le m i)
    have lb : b ≤ 1 := (by rw [← hb]; exact bsN_le m j)
    have HA : Hid (bsN m i = a ∧ bsN m j = b) := ⟨ha, hb⟩
    have HT : Hid (tN m k = a * 128 + b * 64) := (by unfold tN; rw [if_pos h, show 2 * k = i by omega, show i + 1 = j by omega, ha, hb] : tN m k = a * 128 + b * 64)
    have g1 : ¬ (6 : Int) < (k : Int) := by omega
    have g2 : ((k : Int) != 6) = true := by simp; omega
    have g3 : ¬ (8 : Int) ≤ (k : Int) := by omega
    have g4 : ¬ (k : Int) < 0 := by omega
    rw [HT.out]
    clear ha hb HT h hk
    rcases (show a = 0 ∨ a = 1 by omega) with rfl | rfl <;> rcases (show b = 0 ∨ b = 1 by omega) with rfl | rfl
    all_goals
      clear la lb
      go_enter Tryd.func16, Tryd.ntmps16
      go_wp2_with (go_at_call 29; fail)
      refine (bit m i _ HM.out HI.out.1).mono ?_
      rintro e w1 ⟨rfl, rfl⟩
      rw [HA.out.1]
      go_wp2_with (go_at_call 29; fail)
      refine (bit m j _ HM.out HI.out.2).mono ?_
      rintro e w1 ⟨rfl, rfl⟩
      rw [HA.out.2]
      go_wp2
      go_returns
      exact ⟨by first | rfl | (simp; done) | decide, rfl⟩
  · subst h
    obtain ⟨a, ha⟩ : ∃ a, bsN m 12 = a := ⟨_, rfl⟩
    have la : a ≤ 1 := (by rw [← ha]; exact bsN_le m 12)
    have HA : Hid (bsN m 12 = a) := ha
    have HT : Hid (tN m 6 = a * 128) := (by unfold tN; rw [if_neg (by omega), if_pos rfl, ha] : tN m 6 = a * 128)
    rw [HT.out]
    clear ha HT hk
    rcases (show a = 0 ∨ a = 1 by omega) with rfl | rfl
    all_goals
      clear la
      go_enter Tryd.func16, Tryd.ntmps16
      go_wp2_with (go_at_call 29; fail)
      refine (bit m 12 _ HM.out (by decide)).mono ?_
      rintro e w1 ⟨rfl, rfl⟩
      rw [HA.out]
      go_wp2
      go_returns
      exact ⟨by first | rfl | (simp; done) | decide, rfl⟩
  · subst h
    obtain ⟨a, ha⟩ : ∃ a, bsN m 13 = a := ⟨_, rfl⟩
    obtain ⟨b, hb⟩ : ∃ b, bsN m 14 = b := ⟨_, rfl⟩
    have la : a ≤ 1 := (by rw [← ha]; exact bsN_le m 13)
    have lb : b ≤ 1 := (by rw [← hb]; exact bsN_le m 14)
    have HA : Hid (bsN m 13 = a ∧ bsN m 14 = b) := ⟨ha, hb⟩
    have HT : Hid (tN m 7 = a * 128 + b * 64) := (by unfold tN; rw [if_neg (by omega), if_neg (by omega), ha, hb] : tN m 7 = a * 128 + b * 64)
    rw [HT.out]
    clear ha hb HT hk
    rcases (show a = 0 ∨ a = 1 by omega) with rfl | rfl <;> rcases (show b = 0 ∨ b = 1 by omega) with rfl | rfl
    all_goals
      clear la lb
      go_enter Tryd.func16, Tryd.ntmps16
      go_wp2_with (go_at_call 29; fail)
      refine (bit m 13 _ HM.out (by decide)).mono ?_
      rintro e w1 ⟨rfl, rfl⟩
      rw [HA.out.1]
      go_wp2_with (go_at_call 29; fail)
      refine (bit m 14 _ HM.out (by decide)).mono ?_
      rintro e w1 ⟨rfl, rfl⟩
      rw [HA.out.2]
      go_wp2
      go_returns
      exact ⟨by first | rfl | (simp; done) | decide, rfl⟩

end Go.Proofs.YtkondnlilkpdoaaDoor.Fi
