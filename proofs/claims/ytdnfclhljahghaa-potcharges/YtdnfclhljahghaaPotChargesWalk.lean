/- PotCharges, walked. -/
import Derived.Test.YtdnfclhljahghaaPot4
set_option linter.unusedVariables false
namespace Go.Proofs.Ytdnfclhljahghaa.potCharges
open Go.RowKit Po

/-- Ports with one paddle's value, a charge, dumped or not. -/
def pc (k v c : Nat) (d : Bool) : Pt := { Pt.new.in_ k v with c := c, d := d }
theorem pc_in (k v : Nat) (hk : k < 4) : Pt.new.in_ k v = pc k v 0 false := by
  rcases (show k = 0 ∨ k = 1 ∨ k = 2 ∨ k = 3 by omega) with rfl | rfl | rfl | rfl <;> rfl
theorem pc_on (k v c : Nat) (d : Bool) : (pc k v c d).dump true = pc k v 0 true := rfl
theorem pc_off (k v c : Nat) (d : Bool) : (pc k v c d).dump false = pc k v c false := rfl
theorem pc_stay (k v c : Nat) : (pc k v c true).line = pc k v c true := rfl
theorem pc_line (k v c : Nat) (h : c < 511) : (pc k v c false).line = pc k v (c + 1) false := by
  unfold Pt.line pc
  rw [if_neg (by simp)]
  simp only [show min (c + 1) 511 = c + 1 by omega]
theorem pc_high (k v c : Nat) (d : Bool) (hk : k < 4) : (pc k v c d).high k = (!d && decide (v < c)) := by
  rcases (show k = 0 ∨ k = 1 ∨ k = 2 ∨ k = 3 by omega) with rfl | rfl | rfl | rfl <;> rfl

set_option maxRecDepth 100000 in
set_option maxHeartbeats 2000000 in
theorem walk' (n v l : Nat) (hn : n < 256) (hv : v < 256) (hl : l < 65536) (W : World) :
    Calls Try.prog 9 #[.int .u8 (n : Int), .int .u8 (v : Int), .int .u16 (l : Int)] W fun e w' => e = .returned (.bool true) ∧ Below W.heap.size W w' := by
  obtain ⟨k, hk⟩ : ∃ k : Nat, (n : Int) % 4 = (k : Int) := ⟨n % 4, by omega⟩
  obtain ⟨N, hN⟩ : ∃ N : Nat, (l : Int) % 300 = (N : Int) := ⟨l % 300, by omega⟩
  have hk4 : k < 4 := by omega
  have hN3 : N < 300 := by omega
  have en : IntKind.i64.wrap (n : Int) = (n : Int) := IntWalk.i64_in _ (by omega)
  have el : IntKind.i64.wrap (l : Int) = (l : Int) := IntWalk.i64_in _ (by omega)
  have ev : IntKind.i64.wrap (v : Int) = (v : Int) := IntWalk.i64_in _ (by omega)
  go_enter Try.func9, Try.ntmps9
  go_wp2_with (go_at_call 26; fail)
  refine (NewB W).mono ?_
  rintro e w1 ⟨b, rfl, h⟩
  have H1 : Hid (Pb W b Pt.new w1) := h
  clear h
  go_wp2_with (go_at_call 28; fail)
  refine (InB k v hv H1.out).mono ?_
  rintro e w2 ⟨rfl, h⟩
  have H2 : Hid (Pb W b (pc k v 0 false) w2) := pc_in k v hk4 ▸ h
  clear h H1
  go_wp2_with (go_at_call 32; fail)
  refine (DumpB true H2.out).mono ?_
  rintro e w3 ⟨rfl, h⟩
  have H3 : Hid (Pb W b (pc k v 0 true) w3) := h
  clear h H2
  go_wp2_with (fail)
  go_loopw [9] (fun u wr => ∃ i : Nat, i ≤ N ∧ u = .int .i64 (i : Int) ∧ Pb W b (pc k v 0 true) wr) (fun u _ => N - (intOf u).toNat)
  case atStart => exact ⟨0, by omega, rfl, H3.out⟩
  case round =>
    obtain ⟨i, hi, rfl, hR⟩ := hrel
    have HR : Hid (Pb W b (pc k v 0 true) wr) := hR
    clear hR H3
    by_cases hiN : i < N
    · go_wp2_with (go_at_call 30; fail)
      refine (LineB HR.out).mono ?_
      rintro e w4 ⟨rfl, h⟩
      have H4 : Hid (Pb W b (pc k v 0 true) w4) := h
      clear h HR
      go_wp2_with (go_at_call 39; fail)
      refine (HighB k false (by rw [pc_high k v 0 true hk4]; rfl) H4.out).mono ?_
      rintro e w5 ⟨rfl, h⟩
      have H5 : Hid (Pb W b (pc k v 0 true) w5) := h
      clear h H4
      go_wp2_with (fail)
      go_roundw
      case rel => exact ⟨i + 1, by omega, by go_num, H5.out⟩
      case measure => simp [intOf]; omega
    · have hiN' : i = N := by omega
      subst hiN'
      go_wp2_with (go_at_call 32; fail)
      refine (DumpB false HR.out).mono ?_
      rintro e w6 ⟨rfl, h⟩
      have H6 : Hid (Pb W b (pc k v 0 false) w6) := h
      clear h HR
      go_wp2_with (fail)
      go_loopw [10] (fun u wr => ∃ j : Nat, j ≤ i ∧ u = .int .i64 (j : Int) ∧ Pb W b (pc k v j false) wr) (fun u _ => i - (intOf u).toNat)
      case atStart => exact ⟨0, by omega, rfl, H6.out⟩
      case round =>
        obtain ⟨j, hj, rfl, hR⟩ := hrel
        have HR : Hid (Pb W b (pc k v j false) wr) := hR
        clear hR H6
        by_cases hji : j < i
        · have hc : decide ((v : Int) < (j : Int)) = decide (v < j) := by simp
          go_wp2_with (go_at_call 39; fail)
          refine (HighB k (decide (v < j)) (by rw [pc_high k v j false hk4]; rfl) HR.out).mono ?_
          rintro e w5 ⟨rfl, h⟩
          have H5 : Hid (Pb W b (pc k v j false) w5) := h
          clear h HR
          go_wp2_with (go_at_call 30; fail)
          refine (LineB H5.out).mono ?_
          rintro e w7 ⟨rfl, h⟩
          have H7 : Hid (Pb W b (pc k v (j + 1) false) w7) := pc_line k v j (by omega) ▸ h
          clear h H5
          go_wp2_with (fail)
          go_roundw
          case rel => exact ⟨j + 1, by omega, by go_num, H7.out⟩
          case measure => simp [intOf]; omega
        · have hji' : j = i := by omega
          subst hji'
          go_wp2_with (go_at_call 43; refine (awake20 _).mono ?_; rintro e w8 ⟨rfl, hB8⟩)
          go_returns
          exact ⟨rfl, HR.out.old.trans (hB8.mono HR.out.old.size)⟩

theorem walk (a0 : Int) (h0 : (Lit.int .u8 a0).wf = true) (a1 : Int) (h1 : (Lit.int .u8 a1).wf = true) (a2 : Int) (h2 : (Lit.int .u16 a2).wf = true) (W : World) :
    Calls Try.prog 9 #[.int .u8 a0, .int .u8 a1, .int .u16 a2] W fun e w' => e = .returned (.bool true) ∧ Below W.heap.size W w' := by
  have b0 := bounds_u8 h0
  have b1 := bounds_u8 h1
  have b2 := bounds_u16 h2
  obtain ⟨n, rfl⟩ := Int.eq_ofNat_of_zero_le b0.1
  obtain ⟨v, rfl⟩ := Int.eq_ofNat_of_zero_le b1.1
  obtain ⟨l, rfl⟩ := Int.eq_ofNat_of_zero_le b2.1
  exact walk' n v l (by omega) (by omega) (by omega) W

end Go.Proofs.Ytdnfclhljahghaa.potCharges
