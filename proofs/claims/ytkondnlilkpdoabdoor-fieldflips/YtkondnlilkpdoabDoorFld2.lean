/- Graphs, and what a register tells: one contract a function. -/
import Derived.Test.YtkondnlilkpdoabDoorFldM
set_option linter.unusedVariables false
namespace Go.Proofs.YtkondnlilkpdoabDoor.Fi
open Go.RowKit

set_option maxRecDepth 100000 in
set_option maxHeartbeats 400000 in
theorem owner (x : Int) (l : Bool) (w : World) (hl : decide (x < 80) = l) : Calls Tryd.prog 12 #[.int .i64 x] w fun e w' => e = .returned (.int .i64 (if l then 0 else 1)) ∧ w' = w := by
  cases l
  · have h : ¬ x < 80 := by simpa using hl
    clear hl
    go_enter Tryd.func12, Tryd.ntmps12
    go_wp2
    go_returns
    exact ⟨rfl, rfl⟩
  · have h : x < 80 := by simpa using hl
    clear hl
    go_enter Tryd.func12, Tryd.ntmps12
    go_wp2
    go_returns
    exact ⟨rfl, rfl⟩

/-- The bit k of a number. -/
def bsN (m k : Nat) : Nat := m / 2 ^ k % 2
theorem bsN_le (m k : Nat) : bsN m k ≤ 1 := by unfold bsN; omega
theorem bsN_bs (m k : Nat) : (bsN m k = 0 ∧ bs m k = false) ∨ (bsN m k = 1 ∧ bs m k = true) := by unfold bsN bs; simp; omega

set_option maxRecDepth 100000 in
set_option maxHeartbeats 400000 in
theorem Graph_no (b : Nat) (mr : Bool) (wd dot : Int) (w : World) (hmx : dot ≤ 9223372036854775807) (h : wd < 1 ∨ (1 ≤ wd ∧ dot < 0) ∨ (1 ≤ wd ∧ 0 ≤ dot ∧ 7 < dot / wd)) : Calls Tryd.prog 4 #[.int .u8 (b : Int), .bool mr, .int .i64 wd, .int .i64 dot] w fun e w' => e = .returned (.bool false) ∧ w' = w := by
  rcases h with h | ⟨h1, h2⟩ | ⟨h1, h2, h3⟩
  · go_enter Tryd.func4, Tryd.ntmps4
    go_wp2
    go_returns
    exact ⟨rfl, rfl⟩
  · go_enter Tryd.func4, Tryd.ntmps4
    go_wp2
    go_returns
    exact ⟨rfl, rfl⟩
  · obtain ⟨q, hq⟩ : ∃ q : Nat, dot / wd = (q : Int) := ⟨(dot / wd).toNat, by omega⟩
    have hq7 : (8 : Int) ≤ (q : Int) := by omega
    have hq8 : (q : Int) ≤ 9223372036854775807 := by rw [← hq]; exact Int.le_trans (Int.ediv_le_self wd h2) hmx
    have hq2 : Int.tdiv dot wd = (q : Int) := by rw [Int.tdiv_eq_ediv_of_nonneg h2]; exact hq
    have hne : wd ≠ 0 := by omega
    clear h3
    go_enter Tryd.func4, Tryd.ntmps4
    go_wp2
    go_returns
    exact ⟨rfl, rfl⟩

/-- Which bit a dot shows. -/
def gr (mr : Bool) (q : Nat) : Nat := if mr then q else 7 - q

set_option maxRecDepth 100000 in
set_option maxHeartbeats 400000 in
theorem Graph (b : Nat) (mr : Bool) (wd dot : Int) (q : Nat) (w : World) (hb : b < 256) (h1 : 1 ≤ wd) (h2 : 0 ≤ dot) (hq : dot / wd = (q : Int)) (h7 : q ≤ 7) : Calls Tryd.prog 4 #[.int .u8 (b : Int), .bool mr, .int .i64 wd, .int .i64 dot] w fun e w' => e = .returned (.bool (bs b (gr mr q))) ∧ w' = w := by
  have hq7 : ¬ (8 : Int) ≤ (q : Int) := by omega
  have hq2 : Int.tdiv dot wd = (q : Int) := by rw [Int.tdiv_eq_ediv_of_nonneg h2]; exact hq
  have hne : wd ≠ 0 := by omega
  have HB : Hid (b < 256) := hb
  clear hb
  cases mr
  · obtain ⟨k, hk⟩ : ∃ k : Nat, (7 : Int) - (q : Int) = (k : Int) := ⟨7 - q, by omega⟩
    have HK : Hid (gr false q = k ∧ k < 8) := (⟨by unfold gr; simp; omega, by omega⟩ : gr false q = k ∧ k < 8)
    rw [HK.out.1]
    go_enter Tryd.func4, Tryd.ntmps4
    go_wp2_with (go_at_call 6; refine (isSet b k _ HB.out HK.out.2).mono ?_; rintro e w1 ⟨rfl, rfl⟩)
    go_returns
    exact ⟨rfl, rfl⟩
  · have HK : Hid (q < 8) := (by omega : q < 8)
    rw [show gr true q = q from rfl]
    go_enter Tryd.func4, Tryd.ntmps4
    go_wp2_with (go_at_call 6; refine (isSet b q _ HB.out HK.out).mono ?_; rintro e w1 ⟨rfl, rfl⟩)
    go_returns
    exact ⟨rfl, rfl⟩

/-- What register k tells. -/
def tN (m k : Nat) : Nat := if k < 6 then bsN m (2 * k) * 128 + bsN m (2 * k + 1) * 64 else if k = 6 then bsN m 12 * 128 else bsN m 13 * 128 + bsN m 14 * 64

end Go.Proofs.YtkondnlilkpdoabDoor.Fi
