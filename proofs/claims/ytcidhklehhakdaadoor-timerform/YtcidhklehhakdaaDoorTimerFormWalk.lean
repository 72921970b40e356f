/- TimerForm, walked: whatever comes in, true comes out. -/
import Derived.Test.YtcidhklehhakdaaDoorAwake6
namespace Go.Proofs.YtcidhklehhakdaaDoor.timerForm
open Go.RowKit Tm

theorem at4u (w : World) (i : Nat) (v : Go.Value) (hi : i < 4) (hv : (#[.int .i64 1, .int .i64 8, .int .i64 64, .int .i64 1024] : Array Go.Value)[i]? = some v) :
    (Instr.index 26 (.agg #[.int .i64 1, .int .i64 8, .int .i64 64, .int .i64 1024]) (.int .u8 (i : Int))).run Tryd.prog w = .ok v w :=
  run_index_array w 26 3 4 _ .u8 i v Tryd.underlying26 sizeInt aggInt hi hv

set_option maxRecDepth 100000 in
set_option maxHeartbeats 2000000 in
theorem good (v n k m p : Nat) (W : World) (hv : v ≤ 255) (hn : n ≤ 255) (hk : k ≤ 65535) (ht : Tab W) (hm : ((n : Int) % 4) = (m : Int)) (hm4 : m < 4) (hp : ivl (n : Int) = p) (hpm : (#[.int .i64 1, .int .i64 8, .int .i64 64, .int .i64 1024] : Array Go.Value)[m]? = some (.int .i64 (p : Int))) (hp4 : p = 1 ∨ p = 8 ∨ p = 64 ∨ p = 1024) :
    Calls Tryd.prog 3 #[.int .u8 (v : Int), .int .u8 (n : Int), .int .u16 (k : Int)] W fun e w' => e = .returned (.bool true) ∧ Below W.heap.size W w' := by
  have h0 := ht.lt
  have HT : Hid (Tab W) := ht
  have HW : Hid (wr v (n : Int) = ⟨v, p, 1, false, false⟩) := by show St.mk _ _ _ _ _ = _; rw [hp]
  have HP : Hid (p = 1 ∨ p = 8 ∨ p = 64 ∨ p = 1024) := hp4
  have hp1 : 1 ≤ p := by omega
  have hp2 : p ≤ 1024 := by omega
  have hp0 : ¬ (p : Int) = 0 := by omega
  have hn64 : IntKind.i64.wrap (n : Int) = n := by rw [IntKind.wrap_i64]; omega
  have hk64 : IntKind.i64.wrap (k : Int) = k := by rw [IntKind.wrap_i64]; omega
  have hv64 : IntKind.i64.wrap (v : Int) = v := by rw [IntKind.wrap_i64]; omega
  have hix := fun w => at4u w m _ hm4 hpm
  clear ht hp hpm hp4
  go_enter Tryd.func3, Tryd.ntmps3
  go_wp2_with (go_at_call 6; fail)
  refine (New W HT.out).mono ?_
  rintro e w1 ⟨b, rfl, hb, hA1, hB1⟩
  have HB1 : Hid (Below W.heap.size W w1) := hB1
  have HA1 : Hid (TAt w1 b 0 (wr 255 3)) := hA1
  clear hA1 hB1
  go_wp2_with (go_at_call 7; fail)
  refine (Write b 0 _ v n _ (HT.out.below HB1.out h0) HA1.out).mono ?_
  rintro e w2 ⟨rfl, hA2, hT2⟩
  have HB2 : Hid (Below W.heap.size W w2) := HB1.out.trans (hT2.below hb HB1.out.size)
  have HA2 : Hid (TAt w2 b 0 (wr v n)) := hA2
  clear hA2 hT2 HA1 HB1
  go_wp2_with (go_at_call 8; fail)
  refine (ticked b 0 k _ _ (by omega) (wr_ok hv _) HA2.out).mono ?_
  rintro e w3 ⟨rfl, hA3, hT3⟩
  rw [HW.out] at hA3
  have HB3 : Hid (Below W.heap.size W w3) := HB2.out.trans (hT3.below hb HB2.out.size)
  have HT3 : Hid (Tab w3) := HT.out.below HB3.out h0
  clear hT3 HA2 HB2
  by_cases hk0 : k = 0
  · subst hk0
    have HA3 : Hid (TAt w3 b 0 ⟨v, p, 1, false, false⟩) := hA3
    clear hA3
    go_wp2_with (first
      | (go_at_call 9; refine (Tm.Value b 0 _ _ HA3.out).mono ?_; rintro e w6 ⟨rfl, hw6⟩; rw [hw6]; clear hw6 w6; (try simp only))
      | (go_at_call 10; refine (Flag b 0 _ _ HA3.out).mono ?_; rintro e w6 ⟨rfl, hw6⟩; rw [hw6]; clear hw6 w6; (try simp only))
      | (go_at_call 11; refine (awake6 _ HT3.out).mono ?_; rintro e w4 ⟨rfl, hB4⟩))
    go_returns
    exact ⟨rfl, HB3.out.trans (hB4.mono HB3.out.size)⟩
  · obtain ⟨j, rfl⟩ : ∃ j, k = j + 1 := ⟨k - 1, by omega⟩
    rw [ticks_form hv HP.out j] at hA3
    have hvp0 : (0 : Int) ≤ (v : Int) * (p : Int) := Int.mul_nonneg (by omega) (by omega)
    have hvp1 : (v : Int) * (p : Int) ≤ 261120 := by
      have := Nat.mul_le_mul hv hp2
      have e : ((v * p : Nat) : Int) = (v : Int) * (p : Int) := by simp
      omega
    have hjp0 : (0 : Int) ≤ (j : Int) / (p : Int) := Int.ediv_nonneg (by omega) (by omega)
    have hjp1 : (j : Int) / (p : Int) ≤ (j : Int) := Int.ediv_le_self _ (by omega)
    by_cases hu : j < v * p
    · rw [if_pos hu] at hA3
      have hu' : (j : Int) < (v : Int) * (p : Int) := by have := Int.ofNat_lt.2 hu; simpa using this
      have hx0 : v - 1 - j / p + j / p + 1 = v := by
        have : j / p < v := (Nat.div_lt_iff_lt_mul hp1).2 hu
        omega
      obtain ⟨x, hx⟩ : ∃ x, x = v - 1 - j / p := ⟨_, rfl⟩
      have hx1 : (v : Int) - 1 - (j : Int) / (p : Int) = (x : Int) := by
        have e : ((j / p : Nat) : Int) = (j : Int) / (p : Int) := by simp
        omega
      have hx64 : IntKind.i64.wrap (x : Int) = x := by rw [IntKind.wrap_i64]; omega
      rw [← hx] at hA3
      have HA3 : Hid (TAt w3 b 0 ⟨x, p, p - j % p, false, false⟩) := hA3
      clear hA3 hx0 hx hu
      go_wp2_with (first
        | (go_at_call 9; refine (Tm.Value b 0 _ _ HA3.out).mono ?_; rintro e w6 ⟨rfl, hw6⟩; rw [hw6]; clear hw6 w6; (try simp only))
        | (go_at_call 10; refine (Flag b 0 _ _ HA3.out).mono ?_; rintro e w6 ⟨rfl, hw6⟩; rw [hw6]; clear hw6 w6; (try simp only))
        | (go_at_call 12; refine (Fast b 0 _ _ HA3.out).mono ?_; rintro e w6 ⟨rfl, hw6⟩; rw [hw6]; clear hw6 w6; (try simp only))
        | (go_at_call 11; refine (awake6 _ HT3.out).mono ?_; rintro e w4 ⟨rfl, hB4⟩))
      go_returns
      exact ⟨ret_bool (by rw [decide_eq_false (by omega)]; rfl), HB3.out.trans (hB4.mono HB3.out.size)⟩
    · rw [if_neg hu] at hA3
      have hu' : (v : Int) * (p : Int) ≤ (j : Int) := by have := Int.ofNat_le.2 (Nat.le_of_not_lt hu); simpa using this
      obtain ⟨x, hx⟩ : ∃ x, x = 255 - (j - v * p) % 256 := ⟨_, rfl⟩
      have hx1 : 255 - ((j : Int) - (v : Int) * (p : Int)) % 256 = (x : Int) := by
        have e : ((v * p : Nat) : Int) = (v : Int) * (p : Int) := by simp
        rw [← e]
        rw [← e] at hu'
        omega
      have hx64 : IntKind.i64.wrap (x : Int) = x := by rw [IntKind.wrap_i64]; omega
      rw [← hx] at hA3
      have HA3 : Hid (TAt w3 b 0 ⟨x, p, p, true, true⟩) := hA3
      clear hA3 hx hu
      go_wp2_with (first
        | (go_at_call 9; refine (Tm.Value b 0 _ _ HA3.out).mono ?_; rintro e w6 ⟨rfl, hw6⟩; rw [hw6]; clear hw6 w6; (try simp only))
        | (go_at_call 10; refine (Flag b 0 _ _ HA3.out).mono ?_; rintro e w6 ⟨rfl, hw6⟩; rw [hw6]; clear hw6 w6; (try simp only))
        | (go_at_call 12; refine (Fast b 0 _ _ HA3.out).mono ?_; rintro e w6 ⟨rfl, hw6⟩; rw [hw6]; clear hw6 w6; (try simp only))
        | (go_at_call 11; refine (awake6 _ HT3.out).mono ?_; rintro e w4 ⟨rfl, hB4⟩))
      go_returns
      exact ⟨rfl, HB3.out.trans (hB4.mono HB3.out.size)⟩

theorem walk (a0 : Int) (w0 : (Lit.int .u8 a0).wf = true) (a1 : Int) (w1 : (Lit.int .u8 a1).wf = true) (a2 : Int) (w2 : (Lit.int .u16 a2).wf = true) (W : World) (ht : Tab W) :
    Calls Tryd.prog 3 #[.int .u8 a0, .int .u8 a1, .int .u16 a2] W fun e w' => e = .returned (.bool true) ∧ Below W.heap.size W w' := by
  obtain ⟨x0, y0⟩ : 0 ≤ a0 ∧ a0 ≤ 255 := by have := bounds_u8 w0; omega
  obtain ⟨x1, y1⟩ : 0 ≤ a1 ∧ a1 ≤ 255 := by have := bounds_u8 w1; omega
  obtain ⟨x2, y2⟩ : 0 ≤ a2 ∧ a2 ≤ 65535 := by have := bounds_u16 w2; omega
  obtain ⟨v, rfl⟩ := Int.eq_ofNat_of_zero_le x0
  obtain ⟨n, rfl⟩ := Int.eq_ofNat_of_zero_le x1
  obtain ⟨k, rfl⟩ := Int.eq_ofNat_of_zero_le x2
  have h4 : (n : Int) % 4 = 0 ∨ (n : Int) % 4 = 1 ∨ (n : Int) % 4 = 2 ∨ (n : Int) % 4 = 3 := by omega
  rcases h4 with e | e | e | e
  · exact good v n k 0 1 W (by omega) (by omega) (by omega) ht e (by decide) (by unfold ivl; rw [e]; rfl) rfl (by decide)
  · exact good v n k 1 8 W (by omega) (by omega) (by omega) ht e (by decide) (by unfold ivl; rw [e]; rfl) rfl (by decide)
  · exact good v n k 2 64 W (by omega) (by omega) (by omega) ht e (by decide) (by unfold ivl; rw [e]; rfl) rfl (by decide)
  · exact good v n k 3 1024 W (by omega) (by omega) (by omega) ht e (by decide) (by unfold ivl; rw [e]; rfl) rfl (by decide)

end Go.Proofs.YtcidhklehhakdaaDoor.timerForm
