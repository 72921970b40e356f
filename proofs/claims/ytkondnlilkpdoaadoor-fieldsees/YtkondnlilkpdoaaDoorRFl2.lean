/- The document's own answers of layer 18: Graph, Tell, Pair, Meet, Seen. -/
import Derived.Test.YtkondnlilkpdoaaDoorRFld
import Derived.Test.YtkondnlilkpdoaaDoorFld5
set_option linter.unusedVariables false
namespace Go.Proofs.YtkondnlilkpdoaaDoor.Fi
open Go.RowKit

theorem HasB (n k d : Nat) (w : World) (hd : 2 ^ k = d) (hk : k ≤ 15) (hn : n ≤ 65535) : Calls Tryd.prog 26 #[.int .i64 (n : Int), .int .i64 (d : Int)] w fun e w' => e = .returned (.bool (bs n k)) ∧ w' = w := hd ▸ HasP n k w hk hn
theorem powB (k d : Nat) (w : World) (hd : 2 ^ k = d) (hk : k ≤ 15) : Calls Tryd.prog 28 #[.int .i64 (k : Int)] w fun e w' => e = .returned (.int .i64 (d : Int)) ∧ w' = w := hd ▸ pow k w hk

set_option maxRecDepth 100000 in
set_option maxHeartbeats 400000 in
theorem RGraph_no (b : Nat) (mr : Bool) (wd dot : Int) (w : World) (hmx : dot ≤ 9223372036854775807) (h : wd < 1 ∨ (1 ≤ wd ∧ dot < 0) ∨ (1 ≤ wd ∧ 0 ≤ dot ∧ 7 < dot / wd)) : Calls Tryd.prog 19 #[.int .i64 (b : Int), .bool mr, .int .i64 wd, .int .i64 dot] w fun e w' => e = .returned (.bool false) ∧ w' = w := by
  rcases h with h | ⟨h1, h2⟩ | ⟨h1, h2, h3⟩
  · go_enter Tryd.func19, Tryd.ntmps19
    go_wp2
    go_returns
    exact ⟨rfl, rfl⟩
  · go_enter Tryd.func19, Tryd.ntmps19
    go_wp2
    go_returns
    exact ⟨rfl, rfl⟩
  · obtain ⟨q, hq⟩ : ∃ q : Nat, dot / wd = (q : Int) := ⟨(dot / wd).toNat, by omega⟩
    have hq7 : (7 : Int) < (q : Int) := by omega
    have hq8 : (q : Int) ≤ 9223372036854775807 := by rw [← hq]; exact Int.le_trans (Int.ediv_le_self wd h2) hmx
    have hq2 : Int.tdiv dot wd = (q : Int) := by rw [Int.tdiv_eq_ediv_of_nonneg h2]; exact hq
    have hne : wd ≠ 0 := by omega
    clear h3
    go_enter Tryd.func19, Tryd.ntmps19
    go_wp2
    go_returns
    exact ⟨rfl, rfl⟩

set_option maxRecDepth 100000 in
set_option maxHeartbeats 400000 in
theorem RGraph (b : Nat) (mr : Bool) (wd dot : Int) (q : Nat) (w : World) (hb : b < 256) (h1 : 1 ≤ wd) (h2 : 0 ≤ dot) (hq : dot / wd = (q : Int)) (h7 : q ≤ 7) : Calls Tryd.prog 19 #[.int .i64 (b : Int), .bool mr, .int .i64 wd, .int .i64 dot] w fun e w' => e = .returned (.bool (bs b (gr mr q))) ∧ w' = w := by
  have hq7 : ¬ (7 : Int) < (q : Int) := by omega
  have hq2 : Int.tdiv dot wd = (q : Int) := by rw [Int.tdiv_eq_ediv_of_nonneg h2]; exact hq
  have hne : wd ≠ 0 := by omega
  have HB : Hid (b ≤ 65535) := (by omega : b ≤ 65535)
  clear hb
  cases mr
  · obtain ⟨k, hk⟩ : ∃ k : Nat, (7 : Int) - (q : Int) = (k : Int) := ⟨7 - q, by omega⟩
    obtain ⟨d, hd⟩ : ∃ d, 2 ^ k = d := ⟨_, rfl⟩
    have HK : Hid (gr false q = k ∧ k ≤ 15 ∧ 2 ^ k = d) := (⟨by unfold gr; simp; omega, by omega, hd⟩ : gr false q = k ∧ k ≤ 15 ∧ 2 ^ k = d)
    rw [HK.out.1]
    clear hd
    go_enter Tryd.func19, Tryd.ntmps19
    go_wp2_with (first
      | (go_at_call 28; refine (powB k d _ HK.out.2.2 HK.out.2.1).mono ?_; rintro e w1 ⟨rfl, rfl⟩)
      | (go_at_call 26; refine (HasB b k d _ HK.out.2.2 HK.out.2.1 HB.out).mono ?_; rintro e w1 ⟨rfl, rfl⟩))
    go_returns
    exact ⟨rfl, rfl⟩
  · obtain ⟨d, hd⟩ : ∃ d, 2 ^ q = d := ⟨_, rfl⟩
    have HK : Hid (q ≤ 15 ∧ 2 ^ q = d) := (⟨by omega, hd⟩ : q ≤ 15 ∧ 2 ^ q = d)
    rw [show gr true q = q from rfl]
    clear hd
    go_enter Tryd.func19, Tryd.ntmps19
    go_wp2_with (first
      | (go_at_call 28; refine (powB q d _ HK.out.2 HK.out.1).mono ?_; rintro e w1 ⟨rfl, rfl⟩)
      | (go_at_call 26; refine (HasB b q d _ HK.out.2 HK.out.1 HB.out).mono ?_; rintro e w1 ⟨rfl, rfl⟩))
    go_returns
    exact ⟨rfl, rfl⟩

set_option maxRecDepth 100000 in
set_option maxHeartbeats 400000 in
theorem RTell_no (m : Nat) (r : Int) (w : World) (h : r < 0 ∨ 7 < r) : Calls Tryd.prog 17 #[.int .i64 (m : Int), .int .i64 r] w fun e w' => e = .returned (.int .i64 0) ∧ w' = w := by
  have h6 : (r == 6) = false := beq_eq_false_iff_ne.2 (by omega)
  have h7 : (r == 7) = false := beq_eq_false_iff_ne.2 (by omega)
  rcases h with h | h
  · go_enter Tryd.func17, Tryd.ntmps17
    go_wp2
    go_returns
    exact ⟨rfl, rfl⟩
  · have h0 : (0 : Int) ≤ r := by omega
    have h1 : ¬ r ≤ 5 := by omega
    go_enter Tryd.func17, Tryd.ntmps17
    go_wp2
    go_returns
    exact ⟨rfl, rfl⟩

set_option maxRecDepth 100000 in
set_option maxHeartbeats 4000000 in
theorem RTell (m k : Nat) (w : World) (hm : m < 65536) (hk : k ≤ 7) : Calls Tryd.prog 17 #[.int .i64 (m : Int), .int .i64 (k : Int)] w fun e w' => e = .returned (.int .i64 (tN m k : Int)) ∧ w' = w := by
  have HM : Hid (m ≤ 65535) := (by omega : m ≤ 65535)
  clear hm
  rcases (show k < 6 ∨ k = 6 ∨ k = 7 by omega) with h | h | h
  · obtain ⟨i, hi⟩ : ∃ i : Nat, (2 : Int) * (k : Int) = (i : Int) := ⟨2 * k, by omega⟩
    obtain ⟨j, hj⟩ : ∃ j : Nat, (i : Int) + 1 = (j : Int) := ⟨i + 1, by omega⟩
    have HI : Hid (i ≤ 15 ∧ j ≤ 15) := (⟨by omega, by omega⟩ : i ≤ 15 ∧ j ≤ 15)
    have g1 : (k : Int) ≤ 5 := by omega
    have g2 : ((k : Int) == 6) = false := beq_eq_false_iff_ne.2 (by omega)
    have g3 : ((k : Int) == 7) = false := beq_eq_false_iff_ne.2 (by omega)
    have g4 : (0 : Int) ≤ (k : Int) := by omega
    have g5 : (k : Int) < 6 := by omega
    have hT : tN m k = bsN m i * 128 + bsN m j * 64 := by unfold tN; rw [if_pos h, show 2 * k = i by omega, show i + 1 = j by omega]
    obtain ⟨a, ha⟩ : ∃ a, bs m i = a := ⟨_, rfl⟩
    obtain ⟨b, hb⟩ : ∃ b, bs m j = b := ⟨_, rfl⟩
    obtain ⟨p, hp⟩ : ∃ p, 2 ^ i = p := ⟨_, rfl⟩
    obtain ⟨q, hq⟩ : ∃ q, 2 ^ j = q := ⟨_, rfl⟩
    have HA : Hid (bs m i = a ∧ bs m j = b ∧ 2 ^ i = p ∧ 2 ^ j = q) := ⟨ha, hb, hp, hq⟩
    have e1 := bsN_bs m i
    have e2 := bsN_bs m j
    rw [ha] at e1
    rw [hb] at e2
    clear ha hb hp hq h hk
    cases a <;> cases b
    all_goals
      simp at e1 e2
      rw [e1, e2] at hT
      have HT : Hid (tN m k = _) := hT
      rw [HT.out]
      clear hT e1 e2 HT
      go_enter Tryd.func17, Tryd.ntmps17
      go_wp2_with (go_at_call 28; fail)
      refine (powB i p _ HA.out.2.2.1 HI.out.1).mono ?_
      rintro e w1 ⟨rfl, rfl⟩
      go_wp2_with (go_at_call 26; fail)
      refine (HasB m i p _ HA.out.2.2.1 HI.out.1 HM.out).mono ?_
      rintro e w1 ⟨rfl, rfl⟩
      rw [HA.out.1]
      go_wp2_with (go_at_call 28; fail)
      refine (powB j q _ HA.out.2.2.2 HI.out.2).mono ?_
      rintro e w1 ⟨rfl, rfl⟩
      go_wp2_with (go_at_call 26; fail)
      refine (HasB m j q _ HA.out.2.2.2 HI.out.2 HM.out).mono ?_
      rintro e w1 ⟨rfl, rfl⟩
      rw [HA.out.2.1]
      go_wp2
      go_returns
      exact ⟨rfl, rfl⟩
  · subst h
    have hT : tN m 6 = bsN m 12 * 128 := by unfold tN; rw [if_neg (by omega), if_pos rfl]
    obtain ⟨a, ha⟩ : ∃ a, bs m 12 = a := ⟨_, rfl⟩
    have HA : Hid (bs m 12 = a) := ha
    have e1 := bsN_bs m 12
    rw [ha] at e1
    clear ha hk
    cases a
    all_goals
      simp at e1
      rw [e1] at hT
      have HT : Hid (tN m 6 = _) := hT
      rw [HT.out]
      clear hT e1 HT
      go_enter Tryd.func17, Tryd.ntmps17
      go_wp2_with (go_at_call 28; fail)
      refine (powB 12 4096 _ (by decide) (by decide)).mono ?_
      rintro e w1 ⟨rfl, rfl⟩
      go_wp2_with (go_at_call 26; fail)
      refine (HasB m 12 4096 _ (by decide) (by decide) HM.out).mono ?_
      rintro e w1 ⟨rfl, rfl⟩
      rw [HA.out]
      go_wp2
      go_returns
      exact ⟨rfl, rfl⟩
  · subst h
    have hT : tN m 7 = bsN m 13 * 128 + bsN m 14 * 64 := by unfold tN; rw [if_neg (by omega), if_neg (by omega)]
    obtain ⟨a, ha⟩ : ∃ a, bs m 13 = a := ⟨_, rfl⟩
    obtain ⟨b, hb⟩ : ∃ b, bs m 14 = b := ⟨_, rfl⟩
    have HA : Hid (bs m 13 = a ∧ bs m 14 = b) := ⟨ha, hb⟩
    have e1 := bsN_bs m 13
    have e2 := bsN_bs m 14
    rw [ha] at e1
    rw [hb] at e2
    clear ha hb hk
    cases a <;> cases b
    all_goals
      simp at e1 e2
      rw [e1, e2] at hT
      have HT : Hid (tN m 7 = _) := hT
      rw [HT.out]
      clear hT e1 e2 HT
      go_enter Tryd.func17, Tryd.ntmps17
      go_wp2_with (go_at_call 28; fail)
      refine (powB 13 8192 _ (by decide) (by decide)).mono ?_
      rintro e w1 ⟨rfl, rfl⟩
      go_wp2_with (go_at_call 26; fail)
      refine (HasB m 13 8192 _ (by decide) (by decide) HM.out).mono ?_
      rintro e w1 ⟨rfl, rfl⟩
      rw [HA.out.1]
      go_wp2_with (go_at_call 28; fail)
      refine (powB 14 16384 _ (by decide) (by decide)).mono ?_
      rintro e w1 ⟨rfl, rfl⟩
      go_wp2_with (go_at_call 26; fail)
      refine (HasB m 14 16384 _ (by decide) (by decide) HM.out).mono ?_
      rintro e w1 ⟨rfl, rfl⟩
      rw [HA.out.2]
      go_wp2
      go_returns
      exact ⟨rfl, rfl⟩

end Go.Proofs.YtkondnlilkpdoaaDoor.Fi
