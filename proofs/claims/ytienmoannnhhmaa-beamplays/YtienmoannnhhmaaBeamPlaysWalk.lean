/- BeamPlays, walked: whatever comes in, true comes out. -/
import Derived.Test.YtienmoannnhhmaaBeamPlaysGood
set_option linter.unusedVariables false
namespace Go.Proofs.Ytienmoannnhhmaa.beamPlays
open Go.RowKit Count Bm

set_option maxRecDepth 100000 in
set_option maxHeartbeats 1000000 in
theorem big (n cap : Nat) (ao : Option Addr) (c : Int) (W : World) (hl : 20 < n) (hc : n ≤ cap) (hm : cap ≤ 9223372036854775807) :
    Calls Try.prog 3 #[.int .i64 c, .slice ao n cap] W fun e w' => e = .returned (.bool true) ∧ Below W.heap.size W w' := by
  have hl' : (20 : Int) < (n : Int) := by omega
  clear hl
  go_enter Try.func3, Try.ntmps3
  go_wp2
  go_returns
  exact ⟨rfl, Below.refl _ _⟩

theorem nil_below {w w' W : World} (h : Below W.heap.size W w) (hb : Below w.heap.size w w') : Below W.heap.size W w' := h.trans (hb.mono h.size)

set_option maxRecDepth 100000 in
set_option maxHeartbeats 4000000 in
theorem bad (n cap : Nat) (ao : Option Addr) (c : Int) (W : World) (hl : n ≤ 20) (hc : n ≤ cap) (hm : cap ≤ 9223372036854775807) (hn : ¬ (0 ≤ c ∧ c < 228)) :
    Calls Try.prog 3 #[.int .i64 c, .slice ao n cap] W fun e w' => e = .returned (.bool true) ∧ Below W.heap.size W w' := by
  have hl' : ¬ (20 : Int) < (n : Int) := by omega
  have HN : Hid (¬ (0 ≤ c ∧ c < 228)) := hn
  have heq : ∀ w, (Op.equalIn 10000 29 (.agg #[.int .i64 0, .int .i64 0]) (.agg #[.int .i64 0, .int .i64 0])).run Try.prog w = .ok true w := words_self 0 0
  have hcc : (decide (c < 0) || decide (227 < c)) = true := by simp; omega
  clear hl hn
  rcases (show c < 0 ∨ 227 < c by have := HN.out; omega) with hx | hx
  all_goals
    clear hcc
    go_enter Try.func3, Try.ntmps3
    go_wp2_with (go_at_call 5; fail)
    refine (New_no c W HN.out).mono ?_
    rintro e w1 ⟨rfl, hB1⟩
    have HB1 : Hid (Below W.heap.size W w1) := hB1
    clear hB1
    go_wp2_with (go_at_call 6; fail)
    have HB2 : Hid (Below W.heap.size W (w1.alloc (.cells #[.int .i64 c, .bool false] 26))) := HB1.out.alloc HB1.out.size _
    generalize w1.alloc _ = w2 at HB2 ⊢
    clear HB1
    refine (Next_nil _).mono ?_
    rintro e w3 ⟨rfl, rfl⟩
    go_wp2_with (go_at_call 7; fail)
    refine (Comb_nil _).mono ?_
    rintro e w4 ⟨rfl, rfl⟩
    go_wp2_with (go_at_call 8; fail)
    refine (Reset_nil _).mono ?_
    rintro e w5 ⟨rfl, rfl⟩
    go_wp2_with (first
      | (go_at_call 9; refine (Clock_nil _).mono ?_; rintro e w6 ⟨rfl, rfl⟩)
      | (go_at_call 10; refine (Begin_nil _).mono ?_; rintro e w6 ⟨rfl, rfl⟩)
      | (go_at_call 11; refine (Dark_nil _).mono ?_; rintro e w6 ⟨rfl, rfl⟩)
      | (go_at_call 12; refine (Pulse_nil _).mono ?_; rintro e w6 ⟨rfl, rfl⟩)
      | (go_at_call 13; refine (Words_nil _).mono ?_; rintro e w7 ⟨rfl, hB7⟩)
      | (go_at_call 14; refine (Set_nil 0 0 _).mono ?_; rintro e w8 ⟨rfl, hB8⟩)
      | (go_at_call 15; refine (awake15 _).mono ?_; rintro e w9 ⟨rfl, hB9⟩))
    go_returns
    exact ⟨rfl, nil_below (nil_below (nil_below HB2.out hB7) hB8) hB9⟩

theorem walk {L : List (List Go.Value)} {ao : Option Addr} {n cap b off : Nat} {W : World} (a0 : Int) (_ : (Lit.int .i64 a0).wf = true) (hS : SeenX W ao cap b off 4 L) (hn : n = L.length) (hL : ∀ r ∈ L, ∃ a : Act, r = a.row ∧ a.ok) :
    Calls Try.prog 3 #[.int .i64 a0, .slice ao n cap] W fun e w' => e = .returned (.bool true) ∧ Below W.heap.size W w' := by
  obtain ⟨A, rfl, hA⟩ := map_of hL
  rw [List.length_map] at hn
  subst hn
  have hle := hS.le
  rw [List.length_map] at hle
  by_cases h : A.length ≤ 20
  · by_cases hc : 0 ≤ a0 ∧ a0 < 228
    · obtain ⟨c, rfl⟩ := Int.eq_ofNat_of_zero_le hc.1
      exact good A ao cap b off c W (by omega) hA h hS
    · exact bad _ _ _ _ _ h hle hS.max hc
  · exact big _ _ _ _ _ (by omega) hle hS.max

end Go.Proofs.Ytienmoannnhhmaa.beamPlays
