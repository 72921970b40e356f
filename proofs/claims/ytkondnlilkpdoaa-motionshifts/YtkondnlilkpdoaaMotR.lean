/- By how much a strobe moves a thing: the document's answer. -/
import Derived.Test.YtkondnlilkpdoaaMotS
set_option linter.unusedVariables false
namespace Go.Proofs.Ytkondnlilkpdoaa.Mo
open Go.RowKit

set_option maxRecDepth 100000 in
set_option maxHeartbeats 400000 in
theorem RStop (n : Nat) (w : World) (hn : n < 256) : Calls Try.prog 30 #[.int .i64 (n : Int)] w fun e w' => e = .returned (.int .i64 (mvN n : Int)) ∧ w' = w := by
  have HE : Hid (((n : Int) % 16 + 8) % 16 = (mvN n : Int)) := (by unfold mvN; omega : ((n : Int) % 16 + 8) % 16 = (mvN n : Int))
  go_enter Try.func30, Try.ntmps30
  go_wp2
  go_returns
  exact ⟨by rw [← HE.out]; rfl, rfl⟩

set_option maxRecDepth 100000 in
set_option maxHeartbeats 400000 in
theorem RShift_low (s : Int) (n : Nat) (w : World) (hs : s < 0) : Calls Try.prog 23 #[.int .i64 s, .int .i64 (n : Int)] w fun e w' => e = .returned (.int .i64 0) ∧ w' = w := by
  go_enter Try.func23, Try.ntmps23
  go_wp2
  go_returns
  exact ⟨rfl, rfl⟩

set_option maxRecDepth 100000 in
set_option maxHeartbeats 400000 in
theorem RShift_high (s : Int) (n : Nat) (w : World) (h0 : ¬ s < 0) (hs : 227 < s) : Calls Try.prog 23 #[.int .i64 s, .int .i64 (n : Int)] w fun e w' => e = .returned (.int .i64 0) ∧ w' = w := by
  go_enter Try.func23, Try.ntmps23
  go_wp2
  go_returns
  exact ⟨rfl, rfl⟩

set_option maxRecDepth 100000 in
set_option maxHeartbeats 8000000 in
theorem RShift (s n : Nat) (w : World) (hs : s ≤ 227) (hn : n < 256) : Calls Try.prog 23 #[.int .i64 (s : Int), .int .i64 (n : Int)] w fun e w' => e = .returned (.int .i64 (shI s n)) ∧ w' = w := by
  have HL : Hid (s ≤ 227) := hs
  have HN : Hid (n < 256) := hn
  have hs0 : ¬ (s : Int) < 0 := by omega
  have hs1 : ¬ (227 : Int) < (s : Int) := by omega
  obtain ⟨f, hf⟩ : ∃ f, f = fm s := ⟨_, rfl⟩
  have HF : Hid (f = fm s) := hf
  have HFF : Hid (f = (s + 6) / 4 * 4) := hf
  have lf : f ≤ 232 := (by rw [hf]; exact fm_le hs)
  obtain ⟨mv, hmv⟩ : ∃ mv, mv = mvN n := ⟨_, rfl⟩
  have HMV : Hid (mv = mvN n) := hmv
  have lmv : mv < 16 := (by rw [hmv]; exact mvN_lt n)
  clear hf hmv
  have hcase : (s = 0 ∧ dkN s = 68 ∧ lsN s = 0) ∨ (76 ≤ s ∧ dkN s = 68 ∧ lsN s = 0) ∨ (1 ≤ s ∧ s ≤ 67 ∧ dkN s = 76 ∧ lsN s = 8) ∨ (68 ≤ s ∧ s ≤ 75 ∧ dkN s = 76 ∧ lsN s = 76 - s) := by
    unfold dkN lsN
    rcases (show s = 0 ∨ 76 ≤ s ∨ (1 ≤ s ∧ s ≤ 67) ∨ (68 ≤ s ∧ s ≤ 75) by omega) with h | h | h | h
    · exact .inl ⟨h, by rw [if_neg (by omega)], by rw [if_neg (by omega)]⟩
    · exact .inr (.inl ⟨h, by rw [if_neg (by omega)], by rw [if_neg (by omega)]⟩)
    · exact .inr (.inr (.inl ⟨h.1, h.2, by rw [if_pos (by omega)], by rw [if_pos (by omega)]; omega⟩))
    · exact .inr (.inr (.inr ⟨h.1, h.2, by rw [if_pos (by omega)], by rw [if_pos (by omega)]; omega⟩))
  rcases hcase with ⟨h1, hd, hl⟩ | ⟨h1, hd, hl⟩ | ⟨h1, h2, hd, hl⟩ | ⟨h1, h2, hd, hl⟩
  · have g1 : ¬ (1 : Int) ≤ (s : Int) := by omega
    have HD : Hid (dkN s = 68 ∧ lsN s = 0) := ⟨hd, hl⟩
    clear hd hl hs hn
    go_enter Try.func23, Try.ntmps23
    go_wp2
    go_loopw [6] (fun x wr => ∃ k : Nat, s + 3 ≤ k ∧ k ≤ f ∧ x = .int .i64 (k : Int) ∧ wr = w) (fun x _ => 300 - (intOf x).toNat)
    case atStart => exact ⟨s + 3, by omega, by have := HFF.out; omega, by go_num, rfl⟩
    case round =>
      obtain ⟨k, hk1, hk2, rfl, rfl⟩ := hrel
      by_cases h4 : (k : Int) % 4 = 0
      rotate_left
      · have q : ((k : Int) % 4 != 0) = true := by simpa using h4
        have hk3 : k + 1 ≤ f := by have := HFF.out; omega
        clear h4
        go_wp2
        go_roundw
        case rel => exact ⟨k + 1, by omega, by omega, by go_num, by first | rfl | trivial⟩
        case measure => simp [intOf]; omega
      have q : ((k : Int) % 4 != 0) = false := by simp [h4]
      obtain rfl : k = f := by have := HFF.out; omega
      clear h4
      go_wp2
      go_loopw [7, 8] (fun x y wx => ∃ j : Nat, j ≤ mv ∧ x = .int .i64 (cnt s j : Int) ∧ y = .int .i64 (j : Int) ∧ wx = wr) (fun _ y _ => 16 - (intOf y).toNat)
      case atStart => exact ⟨0, by omega, rfl, rfl, rfl⟩
      case round =>
        obtain ⟨j, hj, rfl, rfl, rfl⟩ := hrel
        have lc := cnt_le s j
        obtain ⟨c, hc⟩ : ∃ c, c = cnt s j := ⟨_, rfl⟩
        rw [← hc] at lc ⊢
        have HC : Hid (c = cnt s j) := hc
        clear hc
        by_cases hlt : j < mv
        · cases hB : dkB s j
          · have hq := hB
            unfold dkB at hq; simp at hq; rw [HD.out.1, ← HF.out] at hq
            have q1 : ¬ ((k : Int) + 4 * (j : Int)) % 228 < 68 := by omega
            have HB : Hid (cnt s (j + 1) = c) := (by rw [HC.out]; unfold cnt; rw [hB]; cases j <;> rfl : cnt s (j + 1) = c)
            clear hB hq
            go_wp2_with (go_at_call 30; refine (RStop n _ HN.out).mono ?_; rintro e w2 ⟨rfl, rfl⟩; rw [← HMV.out])
            go_roundw
            case rel => exact ⟨j + 1, by omega, by rw [HB.out], by go_num, by first | rfl | trivial⟩
            case measure => simp [intOf]; omega
          · have hq := hB
            unfold dkB at hq; simp at hq; rw [HD.out.1, ← HF.out] at hq
            have q1 : ((k : Int) + 4 * (j : Int)) % 228 < 68 := by omega
            have HB : Hid (cnt s (j + 1) = c + 1) := (by rw [HC.out]; unfold cnt; rw [hB]; cases j <;> rfl : cnt s (j + 1) = c + 1)
            clear hB hq
            go_wp2_with (go_at_call 30; refine (RStop n _ HN.out).mono ?_; rintro e w2 ⟨rfl, rfl⟩; rw [← HMV.out])
            go_roundw
            case rel => exact ⟨j + 1, by omega, by rw [HB.out]; go_num, by go_num, by first | rfl | trivial⟩
            case measure => simp [intOf]; omega
        · obtain rfl : j = mv := by omega
          have HE : Hid ((c : Int) - (lsN s : Int) = shI s n) := (by unfold shI; rw [← HMV.out, ← HC.out] : (c : Int) - (lsN s : Int) = shI s n)
          go_wp2_with (go_at_call 30; refine (RStop n _ HN.out).mono ?_; rintro e w2 ⟨rfl, rfl⟩; rw [← HMV.out])
          go_returns
          exact ⟨by rw [← HE.out, HD.out.2]; first | rfl | simp; done | (simp; omega), rfl⟩
  · have g1 : (1 : Int) ≤ (s : Int) := by omega
    have g2 : ¬ (s : Int) ≤ 75 := by omega
    have HD : Hid (dkN s = 68 ∧ lsN s = 0) := ⟨hd, hl⟩
    clear hd hl hs hn
    go_enter Try.func23, Try.ntmps23
    go_wp2
    go_loopw [6] (fun x wr => ∃ k : Nat, s + 3 ≤ k ∧ k ≤ f ∧ x = .int .i64 (k : Int) ∧ wr = w) (fun x _ => 300 - (intOf x).toNat)
    case atStart => exact ⟨s + 3, by omega, by have := HFF.out; omega, by go_num, rfl⟩
    case round =>
      obtain ⟨k, hk1, hk2, rfl, rfl⟩ := hrel
      by_cases h4 : (k : Int) % 4 = 0
      rotate_left
      · have q : ((k : Int) % 4 != 0) = true := by simpa using h4
        have hk3 : k + 1 ≤ f := by have := HFF.out; omega
        clear h4
        go_wp2
        go_roundw
        case rel => exact ⟨k + 1, by omega, by omega, by go_num, by first | rfl | trivial⟩
        case measure => simp [intOf]; omega
      have q : ((k : Int) % 4 != 0) = false := by simp [h4]
      obtain rfl : k = f := by have := HFF.out; omega
      clear h4
      go_wp2
      go_loopw [7, 8] (fun x y wx => ∃ j : Nat, j ≤ mv ∧ x = .int .i64 (cnt s j : Int) ∧ y = .int .i64 (j : Int) ∧ wx = wr) (fun _ y _ => 16 - (intOf y).toNat)
      case atStart => exact ⟨0, by omega, rfl, rfl, rfl⟩
      case round =>
        obtain ⟨j, hj, rfl, rfl, rfl⟩ := hrel
        have lc := cnt_le s j
        obtain ⟨c, hc⟩ : ∃ c, c = cnt s j := ⟨_, rfl⟩
        rw [← hc] at lc ⊢
        have HC : Hid (c = cnt s j) := hc
        clear hc
        by_cases hlt : j < mv
        · cases hB : dkB s j
          · have hq := hB
            unfold dkB at hq; simp at hq; rw [HD.out.1, ← HF.out] at hq
            have q1 : ¬ ((k : Int) + 4 * (j : Int)) % 228 < 68 := by omega
            have HB : Hid (cnt s (j + 1) = c) := (by rw [HC.out]; unfold cnt; rw [hB]; cases j <;> rfl : cnt s (j + 1) = c)
            clear hB hq
            go_wp2_with (go_at_call 30; refine (RStop n _ HN.out).mono ?_; rintro e w2 ⟨rfl, rfl⟩; rw [← HMV.out])
            go_roundw
            case rel => exact ⟨j + 1, by omega, by rw [HB.out], by go_num, by first | rfl | trivial⟩
            case measure => simp [intOf]; omega
          · have hq := hB
            unfold dkB at hq; simp at hq; rw [HD.out.1, ← HF.out] at hq
            have q1 : ((k : Int) + 4 * (j : Int)) % 228 < 68 := by omega
            have HB : Hid (cnt s (j + 1) = c + 1) := (by rw [HC.out]; unfold cnt; rw [hB]; cases j <;> rfl : cnt s (j + 1) = c + 1)
            clear hB hq
            go_wp2_with (go_at_call 30; refine (RStop n _ HN.out).mono ?_; rintro e w2 ⟨rfl, rfl⟩; rw [← HMV.out])
            go_roundw
            case rel => exact ⟨j + 1, by omega, by rw [HB.out]; go_num, by go_num, by first | rfl | trivial⟩
            case measure => simp [intOf]; omega
        · obtain rfl : j = mv := by omega
          have HE : Hid ((c : Int) - (lsN s : Int) = shI s n) := (by unfold shI; rw [← HMV.out, ← HC.out] : (c : Int) - (lsN s : Int) = shI s n)
          go_wp2_with (go_at_call 30; refine (RStop n _ HN.out).mono ?_; rintro e w2 ⟨rfl, rfl⟩; rw [← HMV.out])
          go_returns
          exact ⟨by rw [← HE.out, HD.out.2]; first | rfl | simp; done | (simp; omega), rfl⟩
  · have g1 : (1 : Int) ≤ (s : Int) := by omega
    have g2 : (s : Int) ≤ 75 := by omega
    have g4 : (8 : Int) < 76 - (s : Int) := by omega
    have HD : Hid (dkN s = 76 ∧ lsN s = 8) := ⟨hd, hl⟩
    clear hd hl hs hn
    go_enter Try.func23, Try.ntmps23
    go_wp2
    go_loopw [6] (fun x wr => ∃ k : Nat, s + 3 ≤ k ∧ k ≤ f ∧ x = .int .i64 (k : Int) ∧ wr = w) (fun x _ => 300 - (intOf x).toNat)
    case atStart => exact ⟨s + 3, by omega, by have := HFF.out; omega, by go_num, rfl⟩
    case round =>
      obtain ⟨k, hk1, hk2, rfl, rfl⟩ := hrel
      by_cases h4 : (k : Int) % 4 = 0
      rotate_left
      · have q : ((k : Int) % 4 != 0) = true := by simpa using h4
        have hk3 : k + 1 ≤ f := by have := HFF.out; omega
        clear h4
        go_wp2
        go_roundw
        case rel => exact ⟨k + 1, by omega, by omega, by go_num, by first | rfl | trivial⟩
        case measure => simp [intOf]; omega
      have q : ((k : Int) % 4 != 0) = false := by simp [h4]
      obtain rfl : k = f := by have := HFF.out; omega
      clear h4
      go_wp2
      go_loopw [7, 8] (fun x y wx => ∃ j : Nat, j ≤ mv ∧ x = .int .i64 (cnt s j : Int) ∧ y = .int .i64 (j : Int) ∧ wx = wr) (fun _ y _ => 16 - (intOf y).toNat)
      case atStart => exact ⟨0, by omega, rfl, rfl, rfl⟩
      case round =>
        obtain ⟨j, hj, rfl, rfl, rfl⟩ := hrel
        have lc := cnt_le s j
        obtain ⟨c, hc⟩ : ∃ c, c = cnt s j := ⟨_, rfl⟩
        rw [← hc] at lc ⊢
        have HC : Hid (c = cnt s j) := hc
        clear hc
        by_cases hlt : j < mv
        · cases hB : dkB s j
          · have hq := hB
            unfold dkB at hq; simp at hq; rw [HD.out.1, ← HF.out] at hq
            have q1 : ¬ ((k : Int) + 4 * (j : Int)) % 228 < 68 := (by have := HFF.out; omega)
            have q2 : ¬ (k : Int) + 4 * (j : Int) < 76 := (by have := HFF.out; omega)
            have HB : Hid (cnt s (j + 1) = c) := (by rw [HC.out]; unfold cnt; rw [hB]; cases j <;> rfl : cnt s (j + 1) = c)
            clear hB hq
            go_wp2_with (go_at_call 30; refine (RStop n _ HN.out).mono ?_; rintro e w2 ⟨rfl, rfl⟩; rw [← HMV.out])
            go_roundw
            case rel => exact ⟨j + 1, by omega, by rw [HB.out], by go_num, by first | rfl | trivial⟩
            case measure => simp [intOf]; omega
          · have hq := hB
            unfold dkB at hq; simp at hq; rw [HD.out.1, ← HF.out] at hq
            have HB : Hid (cnt s (j + 1) = c + 1) := (by rw [HC.out]; unfold cnt; rw [hB]; cases j <;> rfl : cnt s (j + 1) = c + 1)
            clear hB
            by_cases h6 : (k : Int) + 4 * (j : Int) < 68
            · have q1 : ((k : Int) + 4 * (j : Int)) % 228 < 68 := by omega
              clear hq
              go_wp2_with (go_at_call 30; refine (RStop n _ HN.out).mono ?_; rintro e w2 ⟨rfl, rfl⟩; rw [← HMV.out])
              go_roundw
              case rel => exact ⟨j + 1, by omega, by rw [HB.out]; go_num, by go_num, by first | rfl | trivial⟩
              case measure => simp [intOf]; omega
            · have q1 : ¬ ((k : Int) + 4 * (j : Int)) % 228 < 68 := (by have := HFF.out; omega)
              have q2 : (k : Int) + 4 * (j : Int) < 76 := (by have := HFF.out; omega)
              clear hq
              go_wp2_with (go_at_call 30; refine (RStop n _ HN.out).mono ?_; rintro e w2 ⟨rfl, rfl⟩; rw [← HMV.out])
              go_roundw
              case rel => exact ⟨j + 1, by omega, by rw [HB.out]; go_num, by go_num, by first | rfl | trivial⟩
              case measure => simp [intOf]; omega
        · obtain rfl : j = mv := by omega
          have HE : Hid ((c : Int) - (lsN s : Int) = shI s n) := (by unfold shI; rw [← HMV.out, ← HC.out] : (c : Int) - (lsN s : Int) = shI s n)
          go_wp2_with (go_at_call 30; refine (RStop n _ HN.out).mono ?_; rintro e w2 ⟨rfl, rfl⟩; rw [← HMV.out])
          go_returns
          exact ⟨by rw [← HE.out, HD.out.2]; first | rfl | simp; done | (simp; omega), rfl⟩
  · have g1 : (1 : Int) ≤ (s : Int) := by omega
    have g2 : (s : Int) ≤ 75 := by omega
    have g4 : ¬ (8 : Int) < 76 - (s : Int) := by omega
    have HD : Hid (dkN s = 76 ∧ lsN s = 76 - s) := ⟨hd, hl⟩
    clear hd hl hs hn
    go_enter Try.func23, Try.ntmps23
    go_wp2
    go_loopw [6] (fun x wr => ∃ k : Nat, s + 3 ≤ k ∧ k ≤ f ∧ x = .int .i64 (k : Int) ∧ wr = w) (fun x _ => 300 - (intOf x).toNat)
    case atStart => exact ⟨s + 3, by omega, by have := HFF.out; omega, by go_num, rfl⟩
    case round =>
      obtain ⟨k, hk1, hk2, rfl, rfl⟩ := hrel
      by_cases h4 : (k : Int) % 4 = 0
      rotate_left
      · have q : ((k : Int) % 4 != 0) = true := by simpa using h4
        have hk3 : k + 1 ≤ f := by have := HFF.out; omega
        clear h4
        go_wp2
        go_roundw
        case rel => exact ⟨k + 1, by omega, by omega, by go_num, by first | rfl | trivial⟩
        case measure => simp [intOf]; omega
      have q : ((k : Int) % 4 != 0) = false := by simp [h4]
      obtain rfl : k = f := by have := HFF.out; omega
      clear h4
      go_wp2
      go_loopw [7, 8] (fun x y wx => ∃ j : Nat, j ≤ mv ∧ x = .int .i64 (cnt s j : Int) ∧ y = .int .i64 (j : Int) ∧ wx = wr) (fun _ y _ => 16 - (intOf y).toNat)
      case atStart => exact ⟨0, by omega, rfl, rfl, rfl⟩
      case round =>
        obtain ⟨j, hj, rfl, rfl, rfl⟩ := hrel
        have lc := cnt_le s j
        obtain ⟨c, hc⟩ : ∃ c, c = cnt s j := ⟨_, rfl⟩
        rw [← hc] at lc ⊢
        have HC : Hid (c = cnt s j) := hc
        clear hc
        by_cases hlt : j < mv
        · cases hB : dkB s j
          · have hq := hB
            unfold dkB at hq; simp at hq; rw [HD.out.1, ← HF.out] at hq
            have q1 : ¬ ((k : Int) + 4 * (j : Int)) % 228 < 68 := (by have := HFF.out; omega)
            have q2 : ¬ (k : Int) + 4 * (j : Int) < 76 := (by have := HFF.out; omega)
            have HB : Hid (cnt s (j + 1) = c) := (by rw [HC.out]; unfold cnt; rw [hB]; cases j <;> rfl : cnt s (j + 1) = c)
            clear hB hq
            go_wp2_with (go_at_call 30; refine (RStop n _ HN.out).mono ?_; rintro e w2 ⟨rfl, rfl⟩; rw [← HMV.out])
            go_roundw
            case rel => exact ⟨j + 1, by omega, by rw [HB.out], by go_num, by first | rfl | trivial⟩
            case measure => simp [intOf]; omega
          · have hq := hB
            unfold dkB at hq; simp at hq; rw [HD.out.1, ← HF.out] at hq
            have HB : Hid (cnt s (j + 1) = c + 1) := (by rw [HC.out]; unfold cnt; rw [hB]; cases j <;> rfl : cnt s (j + 1) = c + 1)
            clear hB
            by_cases h6 : (k : Int) + 4 * (j : Int) < 68
            · have q1 : ((k : Int) + 4 * (j : Int)) % 228 < 68 := by omega
              clear hq
              go_wp2_with (go_at_call 30; refine (RStop n _ HN.out).mono ?_; rintro e w2 ⟨rfl, rfl⟩; rw [← HMV.out])
              go_roundw
              case rel => exact ⟨j + 1, by omega, by rw [HB.out]; go_num, by go_num, by first | rfl | trivial⟩
              case measure => simp [intOf]; omega
            · have q1 : ¬ ((k : Int) + 4 * (j : Int)) % 228 < 68 := (by have := HFF.out; omega)
              have q2 : (k : Int) + 4 * (j : Int) < 76 := (by have := HFF.out; omega)
              clear hq
              go_wp2_with (go_at_call 30; refine (RStop n _ HN.out).mono ?_; rintro e w2 ⟨rfl, rfl⟩; rw [← HMV.out])
              go_roundw
              case rel => exact ⟨j + 1, by omega, by rw [HB.out]; go_num, by go_num, by first | rfl | trivial⟩
              case measure => simp [intOf]; omega
        · obtain rfl : j = mv := by omega
          have HE : Hid ((c : Int) - (lsN s : Int) = shI s n) := (by unfold shI; rw [← HMV.out, ← HC.out] : (c : Int) - (lsN s : Int) = shI s n)
          go_wp2_with (go_at_call 30; refine (RStop n _ HN.out).mono ?_; rintro e w2 ⟨rfl, rfl⟩; rw [← HMV.out])
          go_returns
          exact ⟨by rw [← HE.out, HD.out.2]; first | rfl | simp; done | (simp; omega), rfl⟩

end Go.Proofs.Ytkondnlilkpdoaa.Mo
