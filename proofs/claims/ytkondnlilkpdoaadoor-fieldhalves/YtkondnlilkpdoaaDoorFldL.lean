/- Where the field is lit: one contract. -/
import Derived.Test.YtkondnlilkpdoaaDoorFldM
set_option linter.unusedVariables false
namespace Go.Proofs.YtkondnlilkpdoaaDoor.Fi
open Go.RowKit

theorem and1 : ∀ c : Nat, c < 256 → (bits .and .u8 (c : Int) 1 != 0) = decide (c % 2 = 1) := by decide +kernel

set_option maxRecDepth 100000 in
set_option maxHeartbeats 4000000 in
theorem Lit (p0 p1 p2 c x : Nat) (w : World) (h0 : p0 < 256) (h1 : p1 < 256) (h2 : p2 < 256) (hc : c < 256) (hx : x < 160) : Calls Tryd.prog 9 #[.agg #[.int .u8 (p0 : Int), .int .u8 (p1 : Int), .int .u8 (p2 : Int)], .int .u8 (c : Int), .int .i64 (x : Int)] w fun e w' => e = .returned (.bool (fbit p0 p1 p2 (at_ c x))) ∧ Below w.heap.size w w' := by
  obtain ⟨n, hn⟩ : ∃ n, at_ c x = n := ⟨_, rfl⟩
  have HN : Hid (at_ c x = n) := hn
  have ln : n ≤ 19 := (by rw [← hn]; exact at_le c hx)
  have HP : Hid (p0 < 256 ∧ p1 < 256 ∧ p2 < 256) := ⟨h0, h1, h2⟩
  obtain ⟨m, hm⟩ : ∃ m : Nat, (x : Int) % 80 / 4 = (m : Int) := ⟨x % 80 / 4, by omega⟩
  have x0 : (0 : Int) ≤ (x : Int) := by omega
  have x1 : (x : Int) < 160 := by omega
  have lm : m ≤ 19 := by omega
  have hway : (x < 80 ∧ n = m) ∨ (80 ≤ x ∧ c % 2 = 0 ∧ n = m) ∨ (80 ≤ x ∧ c % 2 = 1 ∧ n + m = 19) := by
    unfold at_ at hn
    by_cases hh : 80 ≤ x ∧ c % 2 = 1
    · rw [if_pos hh] at hn; omega
    · rw [if_neg hh] at hn; omega
  rw [HN.out]
  have hf : (n < 4 ∧ fbit p0 p1 p2 n = bs p0 (4 + n)) ∨ (4 ≤ n ∧ n < 12 ∧ fbit p0 p1 p2 n = bs p1 (11 - n)) ∨ (12 ≤ n ∧ fbit p0 p1 p2 n = bs p2 (n - 12)) := by
    unfold fbit
    by_cases a : n < 4
    · exact .inl ⟨a, if_pos a⟩
    · by_cases b : n < 12
      · exact .inr (.inl ⟨by omega, b, by rw [if_neg a, if_pos b]⟩)
      · exact .inr (.inr ⟨by omega, by rw [if_neg a, if_neg b]⟩)
  clear hn hx h0 h1 h2
  rcases hf with ⟨a, hf⟩ | ⟨a, b, hf⟩ | ⟨a, hf⟩
  · obtain ⟨k, hk⟩ : ∃ k : Nat, (4 : Int) + (n : Int) = (k : Int) := ⟨4 + n, by omega⟩
    have HK : Hid (k < 8) := (by omega : k < 8)
    have HF : Hid (fbit p0 p1 p2 n = bs p0 k) := (by rw [hf]; congr 1; omega : fbit p0 p1 p2 n = bs p0 k)
    have a1 : (n : Int) < 4 := by omega
    rw [HF.out]
    clear hf a
    rcases hway with ⟨q, e⟩ | ⟨q, q2, e⟩ | ⟨q, q2, e⟩
    · subst e
      have q' : (x : Int) < 80 := by omega
      clear q
      go_enter Tryd.func9, Tryd.ntmps9
      go_wp2_with (go_at_call 20; refine (isSet p0 k _ HP.out.1 HK.out).mono ?_; rintro e w1 ⟨rfl, rfl⟩)
      go_returns
      exact ⟨rfl, by go_grown⟩
    · subst e
      have q' : ¬ (x : Int) < 80 := by omega
      have q3 : (80 : Int) ≤ (x : Int) := by omega
      have q2' : (bits .and .u8 (c : Int) 1 != 0) = false := by rw [and1 c hc, q2]; rfl
      clear q q2
      go_enter Tryd.func9, Tryd.ntmps9
      go_wp2_with (go_at_call 20; refine (isSet p0 k _ HP.out.1 HK.out).mono ?_; rintro e w1 ⟨rfl, rfl⟩)
      go_returns
      exact ⟨rfl, by go_grown⟩
    · have q' : ¬ (x : Int) < 80 := by omega
      have q4 : (80 : Int) ≤ (x : Int) := by omega
      have q2' : (bits .and .u8 (c : Int) 1 != 0) = true := by rw [and1 c hc, q2]; rfl
      have q3 : (19 : Int) - (m : Int) = (n : Int) := by omega
      clear q q2 e
      go_enter Tryd.func9, Tryd.ntmps9
      go_wp2_with (go_at_call 20; refine (isSet p0 k _ HP.out.1 HK.out).mono ?_; rintro e w1 ⟨rfl, rfl⟩)
      go_returns
      exact ⟨rfl, by go_grown⟩
  · obtain ⟨k, hk⟩ : ∃ k : Nat, (11 : Int) - (n : Int) = (k : Int) := ⟨11 - n, by omega⟩
    have HK : Hid (k < 8) := (by omega : k < 8)
    have HF : Hid (fbit p0 p1 p2 n = bs p1 k) := (by rw [hf]; congr 1; omega : fbit p0 p1 p2 n = bs p1 k)
    have a1 : ¬ (n : Int) < 4 := by omega
    have a2 : (n : Int) < 12 := by omega
    rw [HF.out]
    clear hf a
    clear b
    rcases hway with ⟨q, e⟩ | ⟨q, q2, e⟩ | ⟨q, q2, e⟩
    · subst e
      have q' : (x : Int) < 80 := by omega
      clear q
      go_enter Tryd.func9, Tryd.ntmps9
      go_wp2_with (go_at_call 20; refine (isSet p1 k _ HP.out.2.1 HK.out).mono ?_; rintro e w1 ⟨rfl, rfl⟩)
      go_returns
      exact ⟨rfl, by go_grown⟩
    · subst e
      have q' : ¬ (x : Int) < 80 := by omega
      have q3 : (80 : Int) ≤ (x : Int) := by omega
      have q2' : (bits .and .u8 (c : Int) 1 != 0) = false := by rw [and1 c hc, q2]; rfl
      clear q q2
      go_enter Tryd.func9, Tryd.ntmps9
      go_wp2_with (go_at_call 20; refine (isSet p1 k _ HP.out.2.1 HK.out).mono ?_; rintro e w1 ⟨rfl, rfl⟩)
      go_returns
      exact ⟨rfl, by go_grown⟩
    · have q' : ¬ (x : Int) < 80 := by omega
      have q4 : (80 : Int) ≤ (x : Int) := by omega
      have q2' : (bits .and .u8 (c : Int) 1 != 0) = true := by rw [and1 c hc, q2]; rfl
      have q3 : (19 : Int) - (m : Int) = (n : Int) := by omega
      clear q q2 e
      go_enter Tryd.func9, Tryd.ntmps9
      go_wp2_with (go_at_call 20; refine (isSet p1 k _ HP.out.2.1 HK.out).mono ?_; rintro e w1 ⟨rfl, rfl⟩)
      go_returns
      exact ⟨rfl, by go_grown⟩
  · obtain ⟨k, hk⟩ : ∃ k : Nat, (n : Int) - 12 = (k : Int) := ⟨n - 12, by omega⟩
    have HK : Hid (k < 8) := (by omega : k < 8)
    have HF : Hid (fbit p0 p1 p2 n = bs p2 k) := (by rw [hf]; congr 1; omega : fbit p0 p1 p2 n = bs p2 k)
    have a1 : ¬ (n : Int) < 4 := by omega
    have a2 : ¬ (n : Int) < 12 := by omega
    rw [HF.out]
    clear hf a
    rcases hway with ⟨q, e⟩ | ⟨q, q2, e⟩ | ⟨q, q2, e⟩
    · subst e
      have q' : (x : Int) < 80 := by omega
      clear q
      go_enter Tryd.func9, Tryd.ntmps9
      go_wp2_with (go_at_call 20; refine (isSet p2 k _ HP.out.2.2 HK.out).mono ?_; rintro e w1 ⟨rfl, rfl⟩)
      go_returns
      exact ⟨rfl, by go_grown⟩
    · subst e
      have q' : ¬ (x : Int) < 80 := by omega
      have q3 : (80 : Int) ≤ (x : Int) := by omega
      have q2' : (bits .and .u8 (c : Int) 1 != 0) = false := by rw [and1 c hc, q2]; rfl
      clear q q2
      go_enter Tryd.func9, Tryd.ntmps9
      go_wp2_with (go_at_call 20; refine (isSet p2 k _ HP.out.2.2 HK.out).mono ?_; rintro e w1 ⟨rfl, rfl⟩)
      go_returns
      exact ⟨rfl, by go_grown⟩
    · have q' : ¬ (x : Int) < 80 := by omega
      have q4 : (80 : Int) ≤ (x : Int) := by omega
      have q2' : (bits .and .u8 (c : Int) 1 != 0) = true := by rw [and1 c hc, q2]; rfl
      have q3 : (19 : Int) - (m : Int) = (n : Int) := by omega
      clear q q2 e
      go_enter Tryd.func9, Tryd.ntmps9
      go_wp2_with (go_at_call 20; refine (isSet p2 k _ HP.out.2.2 HK.out).mono ?_; rintro e w1 ⟨rfl, rfl⟩)
      go_returns
      exact ⟨rfl, by go_grown⟩

end Go.Proofs.YtkondnlilkpdoaaDoor.Fi
