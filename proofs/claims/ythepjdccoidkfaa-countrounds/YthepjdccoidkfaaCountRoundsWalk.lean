/- CountRounds, walked: whatever comes in, true comes out. -/
import Derived.Test.YthepjdccoidkfaaAwakeTwo
namespace Go.Proofs.Ythepjdccoidkfaa.countRounds
open Go.RowKit Count

theorem turn {a k n : Nat} : rndN ((a + k) % n) n = (a + (k + 1)) % n ∧ rndB ((a + k) % n) n = decide ((a + (k + 1)) % n = 0) := by
  have e : ((a + k) % n + 1) % n = (a + (k + 1)) % n := by rw [Nat.mod_add_mod]; rfl
  exact ⟨e, by unfold rndB; rw [e]⟩
theorem times {x n : Nat} : (x + 1) / n = x / n + if (x + 1) % n = 0 then 1 else 0 := by
  rw [Nat.succ_div]
  congr 1
  simp only [Nat.dvd_iff_mod_eq_zero]

set_option maxRecDepth 100000 in
set_option maxHeartbeats 1000000 in
theorem good (n a : Nat) (W : World) (h1 : 1 ≤ n) (h2 : n ≤ 2000) (ha : a < n) :
    Calls Try.prog 12 #[.int .i64 (n : Int), .int .i64 (a : Int)] W fun e w' => e = .returned (.bool true) ∧ Below W.heap.size W w' := by
  have hE : cntE n (a : Int) = 0 := if_pos (by omega)
  have HS : Hid (cntS n 0 (a : Int) = a) := by show (if _ then _ else _) = _; rw [if_pos (by omega)]; omega
  go_enter Try.func12, Try.ntmps12
  go_wp2_with (go_at_call 33; fail)
  refine (By_yes n _ h1 (by omega)).mono ?_
  rintro e w1 ⟨b, rfl, hb, hD1, hB1⟩
  go_wp2_with (go_at_call 34; fail)
  refine (DSet b 0 0 n a _ hD1).mono ?_
  rintro e w2 ⟨rfl, hD2, hT2⟩
  rw [HS.out] at hD2
  have HD2 : Hid (DAt w2 b 0 a n) := hD2
  have HB2 : Hid (Below W.heap.size W w2) := hB1.trans (hT2.below hb hB1.size)
  clear hD1 hB1 hD2 hT2
  go_wp2
  go_loopw [6, 7] (fun t v wr => ∃ k : Nat, k ≤ n ∧ v = .int .i64 (k : Int) ∧ t = .int .i64 (((a + k) / n : Nat) : Int) ∧ DAt wr b 0 ((a + k) % n) n ∧ Below W.heap.size W wr) (fun _ v _ => n - (intOf v).toNat)
  case atStart => exact ⟨0, by omega, rfl, by rw [Nat.add_zero, Nat.div_eq_of_lt ha]; rfl, by rw [Nat.add_zero, Nat.mod_eq_of_lt ha]; exact HD2.out, HB2.out⟩
  case round =>
    obtain ⟨k, hk, rfl, rfl, hDr, hBr⟩ := hrel
    obtain ⟨t, ht⟩ : ∃ t, t = (a + k) / n := ⟨_, rfl⟩
    rw [← ht]
    have HT : Hid (t = (a + k) / n) := ht
    have htl : t ≤ 10000 := by rw [ht]; exact Nat.le_trans (Nat.div_le_self _ _) (by omega)
    have HD : Hid (DAt wr b 0 ((a + k) % n) n) := hDr
    have HB : Hid (Below W.heap.size W wr) := hBr
    clear hDr hBr HD2 HB2 ht
    by_cases hl : k < n
    · have e := turn (a := a) (k := k) (n := n)
      have f := times (x := a + k) (n := n)
      by_cases hz : (a + (k + 1)) % n = 0
      · have hB : rndB ((a + k) % n) n = true := by rw [e.2]; exact decide_eq_true hz
        have HN : Hid (rndN ((a + k) % n) n = (a + (k + 1)) % n ∧ (a + (k + 1)) / n = t + 1) := ⟨e.1, by rw [HT.out]; rw [show a + k + 1 = a + (k + 1) from rfl, if_pos hz] at f; exact f⟩
        clear e f hz
        go_wp2_with (go_at_call 35; refine (DTick b 0 ((a + k) % n) n _ (Nat.mod_lt _ (by omega)) (by omega) HD.out).mono ?_; rintro e w3 ⟨rfl, hD3, hT3⟩)
        go_roundw
        case rel => exact ⟨k + 1, hl, by go_num, by rw [HN.out.2]; go_num, by rw [← HN.out.1]; exact hD3, HB.out.trans (hT3.below hb HB.out.size)⟩
        case measure => simp [intOf]; omega
      · have hB : rndB ((a + k) % n) n = false := by rw [e.2]; exact decide_eq_false hz
        have HN : Hid (rndN ((a + k) % n) n = (a + (k + 1)) % n ∧ (a + (k + 1)) / n = t) := ⟨e.1, by rw [HT.out]; rw [show a + k + 1 = a + (k + 1) from rfl, if_neg hz] at f; exact f⟩
        clear e f hz
        go_wp2_with (go_at_call 35; refine (DTick b 0 ((a + k) % n) n _ (Nat.mod_lt _ (by omega)) (by omega) HD.out).mono ?_; rintro e w3 ⟨rfl, hD3, hT3⟩)
        go_roundw
        case rel => exact ⟨k + 1, hl, by go_num, by rw [HN.out.2], by rw [← HN.out.1]; exact hD3, HB.out.trans (hT3.below hb HB.out.size)⟩
        case measure => simp [intOf]; omega
    · have hkn : k = n := by omega
      subst hkn
      have h1t : t = 1 := by rw [HT.out, Nat.add_div_right _ (by omega), Nat.div_eq_of_lt ha]
      have HDa : Hid (DAt wr b 0 a k) := by have := HD.out; rwa [Nat.add_mod_right, Nat.mod_eq_of_lt ha] at this
      subst h1t
      clear HD HT
      go_wp2_with (first
        | (go_at_call 36; refine (DCount b 0 a k _ HDa.out).mono ?_; rintro e w3 ⟨rfl, rfl⟩)
        | (go_at_call 38; refine (awake2 _).mono ?_; rintro e w4 ⟨rfl, hb4⟩))
      go_ret
      exact ⟨rfl, HB.out.trans (hb4.mono HB.out.size)⟩

set_option maxRecDepth 100000 in
set_option maxHeartbeats 1000000 in
theorem walk (a0 : Int) (_ : (Lit.int .i64 a0).wf = true) (a1 : Int) (_ : (Lit.int .i64 a1).wf = true) (W : World) :
    Calls Try.prog 12 #[.int .i64 a0, .int .i64 a1] W fun e w' => e = .returned (.bool true) ∧ Below W.heap.size W w' := by
  by_cases hg : 2000 < a0
  · go_enter Try.func12, Try.ntmps12
    go_wp2
    go_ret
    exact ⟨rfl, Below.refl _ _⟩
  by_cases hn : a0 < 1
  · go_enter Try.func12, Try.ntmps12
    go_wp2_with (first
      | (go_at_call 33; refine (By_no a0 _ (by omega)).mono ?_; rintro e w1 ⟨rfl, rfl⟩)
      | (go_at_call 38; refine (awake2 _).mono ?_; rintro e w4 ⟨rfl, hb4⟩))
    go_ret
    exact ⟨rfl, hb4⟩
  obtain ⟨n, rfl⟩ := Int.eq_ofNat_of_zero_le (show 0 ≤ a0 by omega)
  by_cases ha : 0 ≤ a1 ∧ a1 < n
  · obtain ⟨a, rfl⟩ := Int.eq_ofNat_of_zero_le ha.1
    exact good n a W (by omega) (by omega) (by omega)
  · have hE : cntE n a1 = 6 := if_neg ha
    have hn' : (1 : Int) ≤ (n : Int) := by omega
    clear ha
    go_enter Try.func12, Try.ntmps12
    go_wp2_with (go_at_call 33; fail)
    refine (By_yes n _ (by omega) (by omega)).mono ?_
    rintro e w1 ⟨b, rfl, hb, hD1, hB1⟩
    go_wp2_with (go_at_call 34; fail)
    refine (DSet b 0 0 n a1 _ hD1).mono ?_
    rintro e w2 ⟨rfl, hD2, hT2⟩
    have HB2 : Hid (Below W.heap.size W w2) := hB1.trans (hT2.below hb hB1.size)
    clear hD1 hB1 hD2 hT2
    go_wp2_with (go_at_call 38; refine (awake2 _).mono ?_; rintro e w4 ⟨rfl, hb4⟩)
    go_ret
    exact ⟨ret_bool (by rw [decide_eq_false (by omega)]; rfl), HB2.out.trans (hb4.mono HB2.out.size)⟩

end Go.Proofs.Ythepjdccoidkfaa.countRounds
