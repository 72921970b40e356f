/- The document's own answers of layer 18: bits, Lit, Graph, Tell. -/
import Derived.Test.YtkondnlilkpdoaaDoorFld2
set_option linter.unusedVariables false
namespace Go.Proofs.YtkondnlilkpdoaaDoor.Fi
open Go.RowKit

set_option maxRecDepth 100000 in
set_option maxHeartbeats 1000000 in
theorem pow (n : Nat) (w : World) (hn : n ≤ 15) : Calls Tryd.prog 28 #[.int .i64 (n : Int)] w fun e w' => e = .returned (.int .i64 ((2 ^ n : Nat) : Int)) ∧ w' = w := by
  go_enter Tryd.func28, Tryd.ntmps28
  go_wp2
  go_loopw [3, 4] (fun x y wr => ∃ k : Nat, k ≤ n ∧ x = .int .i64 ((2 ^ k : Nat) : Int) ∧ y = .int .i64 (k : Int) ∧ wr = w) (fun _ y _ => 16 - (intOf y).toNat)
  case atStart => exact ⟨0, by omega, rfl, rfl, rfl⟩
  case round =>
    obtain ⟨k, hk, rfl, rfl, rfl⟩ := hrel
    by_cases hlt : k < n
    · have hp : 2 ^ k ≤ 2 ^ 15 := Nat.pow_le_pow_right (by decide) (by omega)
      have hs : 2 ^ (k + 1) = 2 ^ k * 2 := Nat.pow_succ 2 k
      have HS : Hid (2 ^ (k + 1) = 2 ^ k * 2) := hs
      obtain ⟨p, hpp⟩ : ∃ p, 2 ^ k = p := ⟨_, rfl⟩
      rw [hpp] at hp HS ⊢
      have HP : Hid (2 ^ k = p) := hpp
      clear hs hpp
      go_wp2
      go_roundw
      case rel => exact ⟨k + 1, by omega, by rw [HS.out]; go_num, by go_num, by first | rfl | trivial⟩
      case measure => simp [intOf]; omega
    · obtain rfl : k = n := by omega
      go_wp2
      go_returns
      exact ⟨rfl, rfl⟩

set_option maxRecDepth 100000 in
set_option maxHeartbeats 400000 in
theorem Has (n d : Nat) (w : World) (hd : 0 < d) (hd2 : d ≤ 65536) (hn : n ≤ 65535) : Calls Tryd.prog 26 #[.int .i64 (n : Int), .int .i64 (d : Int)] w fun e w' => e = .returned (.bool (decide (n / d % 2 = 1))) ∧ w' = w := by
  obtain ⟨q, hq⟩ : ∃ q : Nat, (n : Int) / (d : Int) = (q : Int) := ⟨n / d, by rw [Int.natCast_ediv]⟩
  have hq3 : n / d = q := by have : ((n / d : Nat) : Int) = (q : Int) := by rw [Int.natCast_ediv]; exact hq
                             omega
  have hq2 : Int.tdiv (n : Int) (d : Int) = (q : Int) := by rw [Int.tdiv_eq_ediv_of_nonneg (by omega)]; exact hq
  have lq : q ≤ 65535 := by rw [← hq3]; exact Nat.le_trans (Nat.div_le_self _ _) hn
  have hne : (d : Int) ≠ 0 := by omega
  have hp : (0 : Int) < (d : Int) := by omega
  have HE : Hid (((q : Int) % 2 == 1) = decide (n / d % 2 = 1)) := (by rw [hq3, Bool.eq_iff_iff]; simp; omega : ((q : Int) % 2 == 1) = decide (n / d % 2 = 1))
  clear hq3
  go_enter Tryd.func26, Tryd.ntmps26
  go_wp2
  go_returns
  exact ⟨ret_bool HE.out, rfl⟩

/-- Has, at a power. -/
theorem HasP (n k : Nat) (w : World) (hk : k ≤ 15) (hn : n ≤ 65535) : Calls Tryd.prog 26 #[.int .i64 (n : Int), .int .i64 ((2 ^ k : Nat) : Int)] w fun e w' => e = .returned (.bool (bs n k)) ∧ w' = w :=
  Has n (2 ^ k) w (Nat.pow_pos (by decide)) (Nat.le_trans (Nat.pow_le_pow_right (by decide) hk : 2 ^ k ≤ 2 ^ 15) (by decide)) hn

set_option maxRecDepth 100000 in
set_option maxHeartbeats 2000000 in
theorem RBit (p0 p1 p2 n : Nat) (w : World) (h0 : p0 < 256) (h1 : p1 < 256) (h2 : p2 < 256) (hn : n ≤ 19) : Calls Tryd.prog 21 #[.agg #[.int .u8 (p0 : Int), .int .u8 (p1 : Int), .int .u8 (p2 : Int)], .int .i64 (n : Int)] w fun e w' => e = .returned (.bool (fbit p0 p1 p2 n)) ∧ Below w.heap.size w w' := by
  have HP : Hid (p0 < 256 ∧ p1 < 256 ∧ p2 < 256) := ⟨h0, h1, h2⟩
  have hf : (n < 4 ∧ fbit p0 p1 p2 n = bs p0 (4 + n)) ∨ (4 ≤ n ∧ n < 12 ∧ fbit p0 p1 p2 n = bs p1 (11 - n)) ∨ (12 ≤ n ∧ fbit p0 p1 p2 n = bs p2 (n - 12)) := by
    unfold fbit
    by_cases a : n < 4
    · exact .inl ⟨a, if_pos a⟩
    · by_cases b : n < 12
      · exact .inr (.inl ⟨by omega, b, by rw [if_neg a, if_pos b]⟩)
      · exact .inr (.inr ⟨by omega, by rw [if_neg a, if_neg b]⟩)
  rcases hf with ⟨a, hf⟩ | ⟨a, b, hf⟩ | ⟨a, hf⟩
  · obtain ⟨k, hk⟩ : ∃ k : Nat, (n : Int) + 4 = (k : Int) := ⟨4 + n, by omega⟩
    have HK : Hid (k < 8) := (by omega : k < 8)
    have HF : Hid (fbit p0 p1 p2 n = bs p0 k) := (by rw [hf]; congr 1; omega : fbit p0 p1 p2 n = bs p0 k)
    have a1 : (n : Int) < 4 := by omega
    rw [HF.out]
    obtain ⟨P, hP⟩ : ∃ P, 2 ^ k = P := ⟨_, rfl⟩
    have HPW : Hid (∀ w, Calls Tryd.prog 28 #[.int .i64 (k : Int)] w fun e w' => e = .returned (.int .i64 (P : Int)) ∧ w' = w) := (fun w => hP ▸ pow k w (by omega) : ∀ w, Calls Tryd.prog 28 #[.int .i64 (k : Int)] w fun e w' => e = .returned (.int .i64 (P : Int)) ∧ w' = w)
    have HHS : Hid (∀ w, Calls Tryd.prog 26 #[.int .i64 (p0 : Int), .int .i64 (P : Int)] w fun e w' => e = .returned (.bool (bs p0 k)) ∧ w' = w) := (fun w => hP ▸ HasP p0 k w (by omega) (by omega) : ∀ w, Calls Tryd.prog 26 #[.int .i64 (p0 : Int), .int .i64 (P : Int)] w fun e w' => e = .returned (.bool (bs p0 k)) ∧ w' = w)
    clear hf a hP
    go_enter Tryd.func21, Tryd.ntmps21
    go_wp2
    go_quiet ((first
      | (go_at_call 28; exact Calls.quiet_of_same (HPW.out _))
      | (go_at_call 26; exact Calls.quiet_of_same (HHS.out _))))
    go_wp2
    go_returns
    exact ⟨rfl, below_drewN (by go_grown) _⟩
  · obtain ⟨k, hk⟩ : ∃ k : Nat, (11 : Int) - (n : Int) = (k : Int) := ⟨11 - n, by omega⟩
    have HK : Hid (k < 8) := (by omega : k < 8)
    have HF : Hid (fbit p0 p1 p2 n = bs p1 k) := (by rw [hf]; congr 1; omega : fbit p0 p1 p2 n = bs p1 k)
    have a1 : ¬ (n : Int) < 4 := by omega
    have a2 : (n : Int) < 12 := by omega
    rw [HF.out]
    obtain ⟨P, hP⟩ : ∃ P, 2 ^ k = P := ⟨_, rfl⟩
    have HPW : Hid (∀ w, Calls Tryd.prog 28 #[.int .i64 (k : Int)] w fun e w' => e = .returned (.int .i64 (P : Int)) ∧ w' = w) := (fun w => hP ▸ pow k w (by omega) : ∀ w, Calls Tryd.prog 28 #[.int .i64 (k : Int)] w fun e w' => e = .returned (.int .i64 (P : Int)) ∧ w' = w)
    have HHS : Hid (∀ w, Calls Tryd.prog 26 #[.int .i64 (p1 : Int), .int .i64 (P : Int)] w fun e w' => e = .returned (.bool (bs p1 k)) ∧ w' = w) := (fun w => hP ▸ HasP p1 k w (by omega) (by omega) : ∀ w, Calls Tryd.prog 26 #[.int .i64 (p1 : Int), .int .i64 (P : Int)] w fun e w' => e = .returned (.bool (bs p1 k)) ∧ w' = w)
    clear hf a hP
    go_enter Tryd.func21, Tryd.ntmps21
    go_wp2
    go_quiet ((first
      | (go_at_call 28; exact Calls.quiet_of_same (HPW.out _))
      | (go_at_call 26; exact Calls.quiet_of_same (HHS.out _))))
    go_wp2
    go_returns
    exact ⟨rfl, below_drewN (by go_grown) _⟩
  · obtain ⟨k, hk⟩ : ∃ k : Nat, (n : Int) - 12 = (k : Int) := ⟨n - 12, by omega⟩
    have HK : Hid (k < 8) := (by omega : k < 8)
    have HF : Hid (fbit p0 p1 p2 n = bs p2 k) := (by rw [hf]; congr 1; omega : fbit p0 p1 p2 n = bs p2 k)
    have a1 : ¬ (n : Int) < 4 := by omega
    have a2 : ¬ (n : Int) < 12 := by omega
    rw [HF.out]
    obtain ⟨P, hP⟩ : ∃ P, 2 ^ k = P := ⟨_, rfl⟩
    have HPW : Hid (∀ w, Calls Tryd.prog 28 #[.int .i64 (k : Int)] w fun e w' => e = .returned (.int .i64 (P : Int)) ∧ w' = w) := (fun w => hP ▸ pow k w (by omega) : ∀ w, Calls Tryd.prog 28 #[.int .i64 (k : Int)] w fun e w' => e = .returned (.int .i64 (P : Int)) ∧ w' = w)
    have HHS : Hid (∀ w, Calls Tryd.prog 26 #[.int .i64 (p2 : Int), .int .i64 (P : Int)] w fun e w' => e = .returned (.bool (bs p2 k)) ∧ w' = w) := (fun w => hP ▸ HasP p2 k w (by omega) (by omega) : ∀ w, Calls Tryd.prog 26 #[.int .i64 (p2 : Int), .int .i64 (P : Int)] w fun e w' => e = .returned (.bool (bs p2 k)) ∧ w' = w)
    clear hf a hP
    go_enter Tryd.func21, Tryd.ntmps21
    go_wp2
    go_quiet ((first
      | (go_at_call 28; exact Calls.quiet_of_same (HPW.out _))
      | (go_at_call 26; exact Calls.quiet_of_same (HHS.out _))))
    go_wp2
    go_returns
    exact ⟨rfl, below_drewN (by go_grown) _⟩

set_option maxRecDepth 100000 in
set_option maxHeartbeats 400000 in
theorem RLit_no (p0 p1 p2 : Nat) (c : Int) (x : Int) (w : World) (hx : x < 0 ∨ 159 < x) : Calls Tryd.prog 10 #[.agg #[.int .u8 (p0 : Int), .int .u8 (p1 : Int), .int .u8 (p2 : Int)], .int .i64 c, .int .i64 x] w fun e w' => e = .returned (.bool false) ∧ Below w.heap.size w w' := by
  rcases hx with h | h
  · go_enter Tryd.func10, Tryd.ntmps10
    go_wp2
    go_returns
    exact ⟨rfl, by go_grown⟩
  · have h0 : (0 : Int) ≤ x := by omega
    go_enter Tryd.func10, Tryd.ntmps10
    go_wp2
    go_returns
    exact ⟨rfl, by go_grown⟩

set_option maxRecDepth 100000 in
set_option maxHeartbeats 2000000 in
theorem RLit (p0 p1 p2 c x : Nat) (w : World) (h0 : p0 < 256) (h1 : p1 < 256) (h2 : p2 < 256) (hc : c < 256) (hx : x < 160) : Calls Tryd.prog 10 #[.agg #[.int .u8 (p0 : Int), .int .u8 (p1 : Int), .int .u8 (p2 : Int)], .int .i64 (c : Int), .int .i64 (x : Int)] w fun e w' => e = .returned (.bool (fbit p0 p1 p2 (at_ c x))) ∧ Below w.heap.size w w' := by
  obtain ⟨n, hn⟩ : ∃ n, at_ c x = n := ⟨_, rfl⟩
  have HN : Hid (at_ c x = n) := hn
  have ln : n ≤ 19 := (by rw [← hn]; exact at_le c hx)
  have HP : Hid (p0 < 256 ∧ p1 < 256 ∧ p2 < 256 ∧ n ≤ 19) := ⟨h0, h1, h2, ln⟩
  obtain ⟨m, hm⟩ : ∃ m : Nat, (x : Int) / 4 = (m : Int) := ⟨x / 4, by omega⟩
  have x0 : (0 : Int) ≤ (x : Int) := by omega
  have x1 : (x : Int) ≤ 159 := by omega
  have lm : m ≤ 39 := by omega
  have hway : (m < 20 ∧ n = m) ∨ (20 ≤ m ∧ c % 2 = 0 ∧ n + 20 = m) ∨ (20 ≤ m ∧ c % 2 = 1 ∧ n + m = 39) := by
    unfold at_ at hn
    by_cases hh : 80 ≤ x ∧ c % 2 = 1
    · rw [if_pos hh] at hn; omega
    · rw [if_neg hh] at hn; omega
  rw [HN.out]
  clear hn hx h0 h1 h2
  rcases hway with ⟨q, e⟩ | ⟨q, q2, e⟩ | ⟨q, q2, e⟩
  · subst e
    have q' : ¬ (20 : Int) ≤ (n : Int) := by omega
    clear q
    go_enter Tryd.func10, Tryd.ntmps10
    go_wp2_with (go_at_call 21; refine (RBit p0 p1 p2 n _ HP.out.1 HP.out.2.1 HP.out.2.2.1 HP.out.2.2.2).mono ?_; rintro e w1 ⟨rfl, hB⟩)
    go_returns
    exact ⟨rfl, Below.trans (by go_grown) (hB.mono (by simp))⟩
  · have q' : (20 : Int) ≤ (m : Int) := by omega
    have q3 : (m : Int) - 20 = (n : Int) := by omega
    have q4 : ((c : Int) % 2 == 1) = false := by simp; omega
    clear q q2 e
    go_enter Tryd.func10, Tryd.ntmps10
    go_wp2_with (go_at_call 21; refine (RBit p0 p1 p2 n _ HP.out.1 HP.out.2.1 HP.out.2.2.1 HP.out.2.2.2).mono ?_; rintro e w1 ⟨rfl, hB⟩)
    go_returns
    exact ⟨rfl, Below.trans (by go_grown) (hB.mono (by simp))⟩
  · have q' : (20 : Int) ≤ (m : Int) := by omega
    obtain ⟨d, hd⟩ : ∃ d : Nat, (m : Int) - 20 = (d : Int) := ⟨m - 20, by omega⟩
    have q3 : (19 : Int) - (d : Int) = (n : Int) := by omega
    have q4 : ((c : Int) % 2 == 1) = true := by simp; omega
    clear q q2 e
    go_enter Tryd.func10, Tryd.ntmps10
    go_wp2_with (go_at_call 21; refine (RBit p0 p1 p2 n _ HP.out.1 HP.out.2.1 HP.out.2.2.1 HP.out.2.2.2).mono ?_; rintro e w1 ⟨rfl, hB⟩)
    go_returns
    exact ⟨rfl, Below.trans (by go_grown) (hB.mono (by simp))⟩

end Go.Proofs.YtkondnlilkpdoaaDoor.Fi
