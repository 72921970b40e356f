/- MotionTable, walked: whatever comes in, true comes out. -/
import Derived.Test.YtkondnlilkpdoaaAwakeM
import Derived.Test.YtkondnlilkpdoaaFrame
set_option linter.unusedVariables false
namespace Go.Proofs.Ytkondnlilkpdoaa.motionTable
open Go.RowKit Mo

/-- A nibble as a number from -8 to 7. -/
def sgn (m : Nat) : Int := if 7 < m then (m : Int) - 16 else m
theorem shI_mod (s n : Nat) : shI s n = shI s (n % 16) := by unfold shI mvN; rw [Nat.mod_mod]
theorem sh_all : ∀ s : Nat, s < 228 → ∀ m : Nat, m < 16 → -8 ≤ shI s m ∧ shI s m ≤ 15 := by decide +kernel
theorem sh_table : ∀ s : Nat, s < 13 → ∀ m : Nat, m < 16 → 1 ≤ s → shI s m = sgn m := by decide +kernel
theorem and15 : ∀ n : Nat, n < 256 → bits .and .u8 (n : Int) 15 = ((n % 16 : Nat) : Int) := by decide +kernel

set_option maxRecDepth 100000 in
set_option maxHeartbeats 2000000 in
theorem walk (a0 : Int) (w0 : (Lit.int .u8 a0).wf = true) (a1 : Int) (w1 : (Lit.int .u8 a1).wf = true) (W : World) :
    Calls Try.prog 6 #[.int .u8 a0, .int .u8 a1] W fun e w' => e = .returned (.bool true) ∧ Below W.heap.size W w' := by
  have hb := bounds_u8 w1
  have hb0 := bounds_u8 w0
  obtain ⟨n, rfl⟩ := Int.eq_ofNat_of_zero_le (show 0 ≤ a1 by omega)
  obtain ⟨s, rfl⟩ := Int.eq_ofNat_of_zero_le (show 0 ≤ a0 by omega)
  have hn : n < 256 := by omega
  have hs : s < 256 := by omega
  have HN : Hid (n < 256) := hn
  clear w0 w1 hb hb0
  obtain ⟨m, hm⟩ : ∃ m : Nat, (n : Int) % 16 = (m : Int) := ⟨n % 16, by omega⟩
  have HM : Hid (n % 16 = m) := (by omega : n % 16 = m)
  have lm : m < 16 := by omega
  by_cases hr : s ≤ 227
  · have HS : Hid (s ≤ 227) := hr
    obtain ⟨x, hx⟩ : ∃ x, shI s n = x := ⟨_, rfl⟩
    have HX : Hid (shI s n = x) := hx
    have hall := sh_all s (by omega) m lm
    rw [← HM.out, ← shI_mod, hx] at hall
    have x1 := hall.1
    have x2 := hall.2
    have HT : Hid (1 ≤ s → s ≤ 12 → x = sgn m) := (fun h1 h2 => by rw [← hx, shI_mod, HM.out]; exact sh_table s (by omega) m lm h1 : 1 ≤ s → s ≤ 12 → x = sgn m)
    clear hx hall hr
    by_cases h7 : (7 : Int) < (m : Int)
    · have hg : Hid (sgn m = (m : Int) - 16) := (if_pos (by omega) : sgn m = (m : Int) - 16)
      by_cases h1 : (1 : Int) ≤ (s : Int)
      · by_cases h2 : (s : Int) ≤ 12
        · have hne : (x != (m : Int) - 16) = false := by rw [HT.out (by omega) (by omega), hg.out]; simp
          go_enter Try.func6, Try.ntmps6
          go_wp2_with (first
            | (go_at_call 22; refine (Shift s n _ HS.out HN.out).mono ?_; rintro e w1 ⟨rfl, rfl⟩; rw [HX.out])
            | (go_at_call 21; refine (awake17 _).mono ?_; rintro e w2 ⟨rfl, hB⟩))
          go_returns
          exact ⟨rfl, hB⟩
        · go_enter Try.func6, Try.ntmps6
          go_wp2_with (first
            | (go_at_call 22; refine (Shift s n _ HS.out HN.out).mono ?_; rintro e w1 ⟨rfl, rfl⟩; rw [HX.out])
            | (go_at_call 21; refine (awake17 _).mono ?_; rintro e w2 ⟨rfl, hB⟩))
          go_returns
          exact ⟨rfl, hB⟩
      · go_enter Try.func6, Try.ntmps6
        go_wp2_with (first
          | (go_at_call 22; refine (Shift s n _ HS.out HN.out).mono ?_; rintro e w1 ⟨rfl, rfl⟩; rw [HX.out])
          | (go_at_call 21; refine (awake17 _).mono ?_; rintro e w2 ⟨rfl, hB⟩))
        go_returns
        exact ⟨rfl, hB⟩
    · have hg : Hid (sgn m = (m : Int)) := (if_neg (by omega) : sgn m = (m : Int))
      by_cases h1 : (1 : Int) ≤ (s : Int)
      · by_cases h2 : (s : Int) ≤ 12
        · have hne : (x != (m : Int)) = false := by rw [HT.out (by omega) (by omega), hg.out]; simp
          go_enter Try.func6, Try.ntmps6
          go_wp2_with (first
            | (go_at_call 22; refine (Shift s n _ HS.out HN.out).mono ?_; rintro e w1 ⟨rfl, rfl⟩; rw [HX.out])
            | (go_at_call 21; refine (awake17 _).mono ?_; rintro e w2 ⟨rfl, hB⟩))
          go_returns
          exact ⟨rfl, hB⟩
        · go_enter Try.func6, Try.ntmps6
          go_wp2_with (first
            | (go_at_call 22; refine (Shift s n _ HS.out HN.out).mono ?_; rintro e w1 ⟨rfl, rfl⟩; rw [HX.out])
            | (go_at_call 21; refine (awake17 _).mono ?_; rintro e w2 ⟨rfl, hB⟩))
          go_returns
          exact ⟨rfl, hB⟩
      · go_enter Try.func6, Try.ntmps6
        go_wp2_with (first
          | (go_at_call 22; refine (Shift s n _ HS.out HN.out).mono ?_; rintro e w1 ⟨rfl, rfl⟩; rw [HX.out])
          | (go_at_call 21; refine (awake17 _).mono ?_; rintro e w2 ⟨rfl, hB⟩))
        go_returns
        exact ⟨rfl, hB⟩
  · have HS : Hid (wi (s : Int) 227 = false) := (by unfold wi; simp; omega : wi (s : Int) 227 = false)
    have h1 : (1 : Int) ≤ (s : Int) := by omega
    have h2 : ¬ (s : Int) ≤ 12 := by omega
    clear hr
    by_cases h7 : (7 : Int) < (m : Int)
    all_goals
      go_enter Try.func6, Try.ntmps6
      go_wp2_with (first
        | (go_at_call 22; refine (Shift_no (s : Int) n _ HS.out).mono ?_; rintro e w1 ⟨rfl, rfl⟩)
        | (go_at_call 21; refine (awake17 _).mono ?_; rintro e w2 ⟨rfl, hB⟩))
      go_returns
      exact ⟨rfl, hB⟩

end Go.Proofs.Ytkondnlilkpdoaa.motionTable
