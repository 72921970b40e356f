/- By how much a strobe moves a thing: the program's answer. -/
import Derived.Test.YtkondnlilkpdoaaMot2
set_option linter.unusedVariables false
namespace Go.Proofs.Ytkondnlilkpdoaa.Mo
open Go.RowKit

/-- The clock of the first move behind a strobe. -/
def fm (s : Nat) : Nat := (s + 6) / 4 * 4
theorem fm_le {s : Nat} (h : s ≤ 227) : fm s ≤ 232 := by unfold fm; omega
/-- Below which clock it is dark, and how many clocks are lost. -/
def dkN (s : Nat) : Nat := if 1 ≤ s ∧ s ≤ 75 then 76 else 68
def lsN (s : Nat) : Nat := if 1 ≤ s ∧ s ≤ 75 then min (76 - s) 8 else 0
/-- Is the k-th of the clocks dark? -/
def dkB (s k : Nat) : Bool := decide ((fm s + 4 * k) % 228 < dkN s)
/-- How many of the first k clocks are dark. -/
def cnt (s : Nat) : Nat → Nat
  | 0 => 0
  | k + 1 => if dkB s k then cnt s k + 1 else cnt s k
theorem cnt_le (s : Nat) : ∀ k, cnt s k ≤ k
  | 0 => Nat.le_refl _
  | k + 1 => by have := cnt_le s k; unfold cnt; split <;> omega
/-- By how much a strobe moves a thing. -/
def shI (s n : Nat) : Int := (cnt s (mvN n) : Int) - (lsN s : Int)

set_option maxRecDepth 100000 in
set_option maxHeartbeats 400000 in
theorem firstMove (s : Nat) (w : World) (hs : s ≤ 227) : Calls Try.prog 32 #[.int .i64 (s : Int)] w fun e w' => e = .returned (.int .i64 (fm s : Int)) ∧ w' = w := by
  have HE : Hid (((s : Int) + 3 + 4 - 1) / 4 * 4 = (fm s : Int)) := (by unfold fm; omega : ((s : Int) + 3 + 4 - 1) / 4 * 4 = (fm s : Int))
  go_enter Try.func32, Try.ntmps32
  go_wp2
  go_returns
  exact ⟨by rw [← HE.out]; rfl, rfl⟩

set_option maxRecDepth 100000 in
set_option maxHeartbeats 400000 in
theorem Shift_no (s : Int) (n : Nat) (w : World) (hs : wi s 227 = false) : Calls Try.prog 22 #[.int .i64 s, .int .u8 (n : Int)] w fun e w' => e = .returned (.int .i64 0) ∧ w' = w := by
  have HS : Hid (wi s 227 = false) := hs
  clear hs
  go_enter Try.func22, Try.ntmps22
  go_wp2_with (go_at_call 31; refine (within s 227 _).mono ?_; rintro e w1 ⟨rfl, rfl⟩; rw [HS.out])
  go_returns
  exact ⟨rfl, rfl⟩

set_option maxRecDepth 100000 in
set_option maxHeartbeats 4000000 in
theorem Shift (s n : Nat) (w : World) (hs : s ≤ 227) (hn : n < 256) : Calls Try.prog 22 #[.int .i64 (s : Int), .int .u8 (n : Int)] w fun e w' => e = .returned (.int .i64 (shI s n)) ∧ w' = w := by
  have HS : Hid (wi (s : Int) 227 = true) := (by unfold wi; simp; omega : wi (s : Int) 227 = true)
  have HL : Hid (s ≤ 227) := hs
  have HN : Hid (n < 256) := hn
  obtain ⟨f, hf⟩ : ∃ f, f = fm s := ⟨_, rfl⟩
  have HF : Hid (f = fm s) := hf
  have lf : f ≤ 232 := (by rw [hf]; exact fm_le hs)
  obtain ⟨mv, hmv⟩ : ∃ mv, mv = mvN n := ⟨_, rfl⟩
  have HMV : Hid (mv = mvN n) := hmv
  have lmv : mv < 16 := (by rw [hmv]; exact mvN_lt n)
  clear hf hmv
  have hcase : (s = 0 ∧ dkN s = 68 ∧ lsN s = 0) ∨ (76 ≤ s ∧ dkN s = 68 ∧ lsN s = 0) ∨ (1 ≤ s ∧ s ≤ 67 ∧ dkN s = 76 ∧ lsN s = 8) ∨ (68 ≤ s ∧ s ≤ 75 ∧ dkN s = 76 ∧ lsN s = 76 - s) := by
    unfold dkN lsN
    rcases (show s = 0 ∨ 76 ≤ s ∨ (1 ≤ s ∧ s ≤ 67) ∨ (68 ≤ s ∧ s ≤ 75) by omega) with h | h | h | h
    · exact .inl ⟨h, by rw [if_neg (by omega)], by rw [if_neg (by omega)]⟩
    · exact .inr (.inl ⟨h, by rw [if_neg (by omega)], by rw [if_neg (by omega)]⟩)
    · exact .inr (.inr (.inl ⟨h.1, h.2, by rw [if_pos (by omega)], by rw [if_pos (by omega)]; omega⟩))
    · exact .inr (.inr (.inr ⟨h.1, h.2, by rw [if_pos (by omega)], by rw [if_pos (by omega)]; omega⟩))
  rcases hcase with ⟨h1, hd, hl⟩ | ⟨h1, hd, hl⟩ | ⟨h1, h2, hd, hl⟩ | ⟨h1, h2, hd, hl⟩
  · have g1 : ¬ (1 : Int) ≤ (s : Int) := by omega
    have HD : Hid (dkN s = 68 ∧ lsN s = 0) := ⟨hd, hl⟩
    clear hd hl h1 hs hn
    go_enter Try.func22, Try.ntmps22
    go_wp2_with (first
      | (go_at_call 31; refine (within (s : Int) 227 _).mono ?_; rintro e w1 ⟨rfl, rfl⟩; rw [HS.out])
      | (go_at_call 28; refine (moves n _ HN.out).mono ?_; rintro e w1 ⟨rfl, rfl⟩; rw [← HMV.out]))
    go_loopw [7, 23] (fun x y wr => ∃ k : Nat, k ≤ mv ∧ x = .int .i64 (cnt s k : Int) ∧ y = .int .i64 (k : Int) ∧ wr = w1) (fun _ y _ => 16 - (intOf y).toNat)
    case atStart => exact ⟨0, by omega, rfl, rfl, rfl⟩
    case round =>
      obtain ⟨k, hk, rfl, rfl, rfl⟩ := hrel
      have lc := cnt_le s k
      obtain ⟨c, hc⟩ : ∃ c, c = cnt s k := ⟨_, rfl⟩
      rw [← hc] at lc ⊢
      have HC : Hid (c = cnt s k) := hc
      clear hc
      by_cases hlt : k < mv
      · cases hB : dkB s k
        · have hq : ¬ ((f : Int) + 4 * (k : Int)) % 228 < 68 := by unfold dkB at hB; simp at hB; rw [HD.out.1, ← HF.out] at hB; omega
          have HB : Hid (cnt s (k + 1) = c) := (by rw [HC.out]; unfold cnt; rw [hB]; cases k <;> rfl : cnt s (k + 1) = c)
          clear hB
          go_wp2_with (go_at_call 32; refine (firstMove s _ HL.out).mono ?_; rintro e w2 ⟨rfl, rfl⟩; rw [← HF.out])
          go_roundw
          case rel => exact ⟨k + 1, by omega, by rw [HB.out], by go_num, by first | rfl | trivial⟩
          case measure => simp [intOf]; omega
        · have hq : ((f : Int) + 4 * (k : Int)) % 228 < 68 := by unfold dkB at hB; simp at hB; rw [HD.out.1, ← HF.out] at hB; omega
          have HB : Hid (cnt s (k + 1) = c + 1) := (by rw [HC.out]; unfold cnt; rw [hB]; cases k <;> rfl : cnt s (k + 1) = c + 1)
          clear hB
          go_wp2_with (go_at_call 32; refine (firstMove s _ HL.out).mono ?_; rintro e w2 ⟨rfl, rfl⟩; rw [← HF.out])
          go_roundw
          case rel => exact ⟨k + 1, by omega, by rw [HB.out]; go_num, by go_num, by first | rfl | trivial⟩
          case measure => simp [intOf]; omega
      · obtain rfl : k = mv := by omega
        have HE : Hid ((c : Int) - (lsN s : Int) = shI s n) := (by unfold shI; rw [← HMV.out, ← HC.out] : (c : Int) - (lsN s : Int) = shI s n)
        go_wp2
        go_returns
        exact ⟨by rw [← HE.out, HD.out.2]; first | rfl | simp; done | (simp; omega), rfl⟩
  · have g1 : (1 : Int) ≤ (s : Int) := by omega
    have g2 : ¬ (s : Int) < 76 := by omega
    have HD : Hid (dkN s = 68 ∧ lsN s = 0) := ⟨hd, hl⟩
    clear hd hl h1 hs hn
    go_enter Try.func22, Try.ntmps22
    go_wp2_with (first
      | (go_at_call 31; refine (within (s : Int) 227 _).mono ?_; rintro e w1 ⟨rfl, rfl⟩; rw [HS.out])
      | (go_at_call 28; refine (moves n _ HN.out).mono ?_; rintro e w1 ⟨rfl, rfl⟩; rw [← HMV.out]))
    go_loopw [7, 23] (fun x y wr => ∃ k : Nat, k ≤ mv ∧ x = .int .i64 (cnt s k : Int) ∧ y = .int .i64 (k : Int) ∧ wr = w1) (fun _ y _ => 16 - (intOf y).toNat)
    case atStart => exact ⟨0, by omega, rfl, rfl, rfl⟩
    case round =>
      obtain ⟨k, hk, rfl, rfl, rfl⟩ := hrel
      have lc := cnt_le s k
      obtain ⟨c, hc⟩ : ∃ c, c = cnt s k := ⟨_, rfl⟩
      rw [← hc] at lc ⊢
      have HC : Hid (c = cnt s k) := hc
      clear hc
      by_cases hlt : k < mv
      · cases hB : dkB s k
        · have hq : ¬ ((f : Int) + 4 * (k : Int)) % 228 < 68 := by unfold dkB at hB; simp at hB; rw [HD.out.1, ← HF.out] at hB; omega
          have HB : Hid (cnt s (k + 1) = c) := (by rw [HC.out]; unfold cnt; rw [hB]; cases k <;> rfl : cnt s (k + 1) = c)
          clear hB
          go_wp2_with (go_at_call 32; refine (firstMove s _ HL.out).mono ?_; rintro e w2 ⟨rfl, rfl⟩; rw [← HF.out])
          go_roundw
          case rel => exact ⟨k + 1, by omega, by rw [HB.out], by go_num, by first | rfl | trivial⟩
          case measure => simp [intOf]; omega
        · have hq : ((f : Int) + 4 * (k : Int)) % 228 < 68 := by unfold dkB at hB; simp at hB; rw [HD.out.1, ← HF.out] at hB; omega
          have HB : Hid (cnt s (k + 1) = c + 1) := (by rw [HC.out]; unfold cnt; rw [hB]; cases k <;> rfl : cnt s (k + 1) = c + 1)
          clear hB
          go_wp2_with (go_at_call 32; refine (firstMove s _ HL.out).mono ?_; rintro e w2 ⟨rfl, rfl⟩; rw [← HF.out])
          go_roundw
          case rel => exact ⟨k + 1, by omega, by rw [HB.out]; go_num, by go_num, by first | rfl | trivial⟩
          case measure => simp [intOf]; omega
      · obtain rfl : k = mv := by omega
        have HE : Hid ((c : Int) - (lsN s : Int) = shI s n) := (by unfold shI; rw [← HMV.out, ← HC.out] : (c : Int) - (lsN s : Int) = shI s n)
        go_wp2
        go_returns
        exact ⟨by rw [← HE.out, HD.out.2]; first | rfl | simp; done | (simp; omega), rfl⟩
  · have g1 : (1 : Int) ≤ (s : Int) := by omega
    have g2 : (s : Int) < 76 := by omega
    have g3 : min (76 - (s : Int)) 8 = 8 := by omega
    have g4 : ¬ 76 - (s : Int) ≤ 8 := by omega
    have HD : Hid (dkN s = 76 ∧ lsN s = 8) := ⟨hd, hl⟩
    clear hd hl h1 hs hn
    go_enter Try.func22, Try.ntmps22
    go_wp2_with (first
      | (go_at_call 31; refine (within (s : Int) 227 _).mono ?_; rintro e w1 ⟨rfl, rfl⟩; rw [HS.out])
      | (go_at_call 28; refine (moves n _ HN.out).mono ?_; rintro e w1 ⟨rfl, rfl⟩; rw [← HMV.out]))
    go_loopw [7, 23] (fun x y wr => ∃ k : Nat, k ≤ mv ∧ x = .int .i64 (cnt s k : Int) ∧ y = .int .i64 (k : Int) ∧ wr = w1) (fun _ y _ => 16 - (intOf y).toNat)
    case atStart => exact ⟨0, by omega, rfl, rfl, rfl⟩
    case round =>
      obtain ⟨k, hk, rfl, rfl, rfl⟩ := hrel
      have lc := cnt_le s k
      obtain ⟨c, hc⟩ : ∃ c, c = cnt s k := ⟨_, rfl⟩
      rw [← hc] at lc ⊢
      have HC : Hid (c = cnt s k) := hc
      clear hc
      by_cases hlt : k < mv
      · cases hB : dkB s k
        · have hq : ¬ ((f : Int) + 4 * (k : Int)) % 228 < 76 := by unfold dkB at hB; simp at hB; rw [HD.out.1, ← HF.out] at hB; omega
          have HB : Hid (cnt s (k + 1) = c) := (by rw [HC.out]; unfold cnt; rw [hB]; cases k <;> rfl : cnt s (k + 1) = c)
          clear hB
          go_wp2_with (go_at_call 32; refine (firstMove s _ HL.out).mono ?_; rintro e w2 ⟨rfl, rfl⟩; rw [← HF.out])
          go_roundw
          case rel => exact ⟨k + 1, by omega, by rw [HB.out], by go_num, by first | rfl | trivial⟩
          case measure => simp [intOf]; omega
        · have hq : ((f : Int) + 4 * (k : Int)) % 228 < 76 := by unfold dkB at hB; simp at hB; rw [HD.out.1, ← HF.out] at hB; omega
          have HB : Hid (cnt s (k + 1) = c + 1) := (by rw [HC.out]; unfold cnt; rw [hB]; cases k <;> rfl : cnt s (k + 1) = c + 1)
          clear hB
          go_wp2_with (go_at_call 32; refine (firstMove s _ HL.out).mono ?_; rintro e w2 ⟨rfl, rfl⟩; rw [← HF.out])
          go_roundw
          case rel => exact ⟨k + 1, by omega, by rw [HB.out]; go_num, by go_num, by first | rfl | trivial⟩
          case measure => simp [intOf]; omega
      · obtain rfl : k = mv := by omega
        have HE : Hid ((c : Int) - (lsN s : Int) = shI s n) := (by unfold shI; rw [← HMV.out, ← HC.out] : (c : Int) - (lsN s : Int) = shI s n)
        go_wp2
        go_returns
        exact ⟨by rw [← HE.out, HD.out.2]; first | rfl | simp; done | (simp; omega), rfl⟩
  · have g1 : (1 : Int) ≤ (s : Int) := by omega
    have g2 : (s : Int) < 76 := by omega
    have g3 : min (76 - (s : Int)) 8 = 76 - (s : Int) := by omega
    have g5 : 76 - (s : Int) ≤ 8 := by omega
    have HD : Hid (dkN s = 76 ∧ lsN s = 76 - s) := ⟨hd, hl⟩
    clear hd hl h1 hs hn
    go_enter Try.func22, Try.ntmps22
    go_wp2_with (first
      | (go_at_call 31; refine (within (s : Int) 227 _).mono ?_; rintro e w1 ⟨rfl, rfl⟩; rw [HS.out])
      | (go_at_call 28; refine (moves n _ HN.out).mono ?_; rintro e w1 ⟨rfl, rfl⟩; rw [← HMV.out]))
    go_loopw [7, 23] (fun x y wr => ∃ k : Nat, k ≤ mv ∧ x = .int .i64 (cnt s k : Int) ∧ y = .int .i64 (k : Int) ∧ wr = w1) (fun _ y _ => 16 - (intOf y).toNat)
    case atStart => exact ⟨0, by omega, rfl, rfl, rfl⟩
    case round =>
      obtain ⟨k, hk, rfl, rfl, rfl⟩ := hrel
      have lc := cnt_le s k
      obtain ⟨c, hc⟩ : ∃ c, c = cnt s k := ⟨_, rfl⟩
      rw [← hc] at lc ⊢
      have HC : Hid (c = cnt s k) := hc
      clear hc
      by_cases hlt : k < mv
      · cases hB : dkB s k
        · have hq : ¬ ((f : Int) + 4 * (k : Int)) % 228 < 76 := by unfold dkB at hB; simp at hB; rw [HD.out.1, ← HF.out] at hB; omega
          have HB : Hid (cnt s (k + 1) = c) := (by rw [HC.out]; unfold cnt; rw [hB]; cases k <;> rfl : cnt s (k + 1) = c)
          clear hB
          go_wp2_with (go_at_call 32; refine (firstMove s _ HL.out).mono ?_; rintro e w2 ⟨rfl, rfl⟩; rw [← HF.out])
          go_roundw
          case rel => exact ⟨k + 1, by omega, by rw [HB.out], by go_num, by first | rfl | trivial⟩
          case measure => simp [intOf]; omega
        · have hq : ((f : Int) + 4 * (k : Int)) % 228 < 76 := by unfold dkB at hB; simp at hB; rw [HD.out.1, ← HF.out] at hB; omega
          have HB : Hid (cnt s (k + 1) = c + 1) := (by rw [HC.out]; unfold cnt; rw [hB]; cases k <;> rfl : cnt s (k + 1) = c + 1)
          clear hB
          go_wp2_with (go_at_call 32; refine (firstMove s _ HL.out).mono ?_; rintro e w2 ⟨rfl, rfl⟩; rw [← HF.out])
          go_roundw
          case rel => exact ⟨k + 1, by omega, by rw [HB.out]; go_num, by go_num, by first | rfl | trivial⟩
          case measure => simp [intOf]; omega
      · obtain rfl : k = mv := by omega
        have HE : Hid ((c : Int) - (lsN s : Int) = shI s n) := (by unfold shI; rw [← HMV.out, ← HC.out] : (c : Int) - (lsN s : Int) = shI s n)
        go_wp2
        go_returns
        exact ⟨by rw [← HE.out, HD.out.2]; first | rfl | simp; done | (simp; omega), rfl⟩

end Go.Proofs.Ytkondnlilkpdoaa.Mo
