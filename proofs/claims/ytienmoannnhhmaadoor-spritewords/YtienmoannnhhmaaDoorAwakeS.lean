/- What the chapter's examples come to. -/
import Derived.Test.YtienmoannnhhmaaDoorSpr8
import Derived.Test.YtienmoannnhhmaaDoorSpr6
import Derived.Test.YtienmoannnhhmaaDoorSame3
set_option linter.unusedVariables false
namespace Go.Proofs.YtienmoannnhhmaaDoor.Sp
open Go.RowKit Count

theorem StartsS (c : Nat) (w : World) (hc : c < 256) : Calls Tryd.prog 23 #[.int .u8 (c : Int)] w fun e w' => ∃ g cap, e = .returned (.slice (some ⟨g, 0, none⟩) (stI c).length cap) ∧ Seen (fun x => .int .i64 x) w' (some ⟨g, 0, none⟩) cap g 0 (stI c) ∧ Below w.heap.size w w' :=
  (Starts c w hc).mono fun _ _ ⟨g, cap, he, _, hm, hl, hcell, hB⟩ => ⟨g, cap, he, ⟨hl, hm, fun _ => rfl, fun i x hx => by rw [Nat.zero_add]; exact hcell i x hx⟩, hB⟩

theorem ag_zero : ag 0 = (255, 255) := by decide +kernel
theorem ag_1 : ag (stp 0 true) = (0, 255) := by rw [ag_stp, ag_zero]; rfl
theorem ag_2 : ag (stp (stp 0 true) false) = (1, 255) := by rw [ag_stp, ag_1]; rfl
theorem ag_3 : ag (stp (stp (stp 0 true) false) false) = (2, 255) := by rw [ag_stp, ag_2]; rfl
theorem ag_4 : ag (stp (stp (stp (stp 0 true) false) false) false) = (3, 255) := by rw [ag_stp, ag_3]; rfl
theorem ag_5 : ag (stp (stp (stp (stp (stp 0 true) false) false) false) false) = (4, 255) := by rw [ag_stp, ag_4]; rfl
theorem stI_3 : stI 3 = [0, 16, 32] := by decide

/-- The thing of awake, behind k ticks. -/
def awX : Nat → Nat
  | 0 => stp 0 true
  | k + 1 => stp (awX k) false
theorem aw_ag (k : Nat) (h : k ≤ 4) : ag (awX k) = (k, 255) := by
  rcases (show k = 0 ∨ k = 1 ∨ k = 2 ∨ k = 3 ∨ k = 4 by omega) with rfl | rfl | rfl | rfl | rfl
  · exact ag_1
  · exact ag_2
  · exact ag_3
  · exact ag_4
  · exact ag_5

theorem s2_back {W w w' : World} {b pb : Nat} (hS : ∀ k, S2 b pb k → W.heap.size ≤ k) (hB : Below W.heap.size W w) (hT : Tn (S2 b pb) w w') : Below W.heap.size W w' := hB.trans (hT.below hS hB.size)
theorem b_keep {W w w' : World} (hB : Below W.heap.size W w) (h : Below w.heap.size w w') : Below W.heap.size W w' := hB.trans (h.mono hB.size)

set_option maxRecDepth 100000 in
set_option maxHeartbeats 4000000 in
theorem awake16 (w : World) (hT : Tb w) : Calls Tryd.prog 21 #[] w fun e w' => e = .returned (.bool true) ∧ Below w.heap.size w w' := by
  have HT : Hid (Tb w) := hT
  clear hT
  go_enter Tryd.func21, Tryd.ntmps21
  go_wp2_with (go_at_call 8; fail)
  refine (New w).mono ?_
  rintro e w1 ⟨b, pb, rfl, hb, hpb, hA1, hB1⟩
  have HS : Hid (∀ k, S2 b pb k → w.heap.size ≤ k) := (by rintro k (rfl | rfl) <;> omega)
  have HA1 : Hid (TAt w1 b pb 0 0) := hA1
  have HB1 : Hid (Below w.heap.size w w1) := hB1
  clear hA1 hB1 hb hpb
  go_wp2_with (go_at_call 10; fail)
  refine (Put b pb 0 0 159 _ HA1.out).mono ?_
  rintro e w2 ⟨rfl, hA2, hT2⟩
  have HA2 : Hid (TAt w2 b pb 159 0) := hA2
  have HB2 : Hid (Below w.heap.size w w2) := s2_back HS.out HB1.out hT2
  rw [show cntE 160 159 = 0 by decide]
  clear hA2 hT2 HA1 HB1
  go_wp2_with (go_at_call 14; fail)
  refine (Tick b pb 159 0 1 _ (by decide) HA2.out).mono ?_
  rintro e w3 ⟨rfl, hA3, hT3⟩
  have HA3 : Hid (TAt w3 b pb 0 (awX 0)) := hA3
  have HB3 : Hid (Below w.heap.size w w3) := s2_back HS.out HB2.out hT3
  clear hA3 hT3 HA2 HB2
  go_wp2_with (go_at_call 20; fail)
  refine (Sp.Count b pb 0 (awX 0) _ HA3.out).mono ?_
  rintro e w4 ⟨rfl, hB4⟩
  have HA4 : Hid (TAt w4 b pb 0 (awX 0)) := HA3.out.below hB4
  have HB4 : Hid (Below w.heap.size w w4) := b_keep HB3.out hB4
  clear hB4 HA3 HB3
  go_wp2_with (go_at_call 16; fail)
  refine (Dot b pb 0 (awX 0) 4 _ (by decide) (HT.out.below HB4.out) HA4.out).mono ?_
  rintro e w5 ⟨rfl, hB5⟩
  have HA5 : Hid (TAt w5 b pb 0 (awX 0)) := HA4.out.below hB5
  have HB5 : Hid (Below w.heap.size w w5) := b_keep HB4.out hB5
  rw [aw_ag 0 (by decide), show dotI 0 255 (ldN 4) = 251 by decide]
  clear hB5 HA4 HB4
  go_wp2
  go_loopw [5] (fun v wr => ∃ k : Nat, k ≤ 4 ∧ v = .int .i64 (k : Int) ∧ TAt wr b pb k (awX k) ∧ Below w.heap.size w wr) (fun v _ => 4 - (intOf v).toNat)
  case atStart => exact ⟨0, by omega, rfl, HA5.out, HB5.out⟩
  case round =>
    obtain ⟨k, hk, rfl, hA, hB⟩ := hrel
    have HA : Hid (TAt wr b pb k (awX k)) := hA
    have HB : Hid (Below w.heap.size w wr) := hB
    clear hA hB HA5 HB5
    by_cases hl : k < 4
    · have hm : k + 1 = rndN k 160 := ((rnd_not (i := k) (n := 160) (by omega)).1).symm
      have hs : stB (k + 1) 1 = false := stB_not (by omega)
      go_wp2_with (go_at_call 14; fail)
      refine (TickA b pb k (k + 1) (awX k) 1 _ hm (by decide) HA.out).mono ?_
      rintro e w6 ⟨rfl, hA6, hT6⟩
      rw [hs] at hA6
      have HA6 : Hid (TAt w6 b pb (k + 1) (awX (k + 1))) := hA6
      have HB6 : Hid (Below w.heap.size w w6) := s2_back HS.out HB.out hT6
      clear hA6 hT6 hs hm
      go_wp2
      go_roundw
      case rel => exact ⟨k + 1, by omega, by go_num, HA6.out, HB6.out⟩
      case measure => simp [intOf]; omega
    · have hk4 : k = 4 := by omega
      subst hk4
      go_wp2_with (go_at_call 16; fail)
      refine (Dot b pb 4 (awX 4) 4 _ (by decide) (HT.out.below HB.out) HA.out).mono ?_
      rintro e w6 ⟨rfl, hB6⟩
      have HB6 : Hid (Below w.heap.size w w6) := b_keep HB.out hB6
      rw [aw_ag 4 (by decide), show dotI 4 255 (ldN 4) = 0 by decide]
      clear hB6 HA HB
      go_wp2_with (go_at_call 23; fail)
      refine (StartsS 3 _ (by decide)).mono ?_
      rintro e w7 ⟨g, cap, rfl, hSn, hB7⟩
      rw [stI_3] at hSn ⊢
      have HB7 : Hid (Below w.heap.size w w7) := b_keep HB6.out hB7
      have HSn : Hid (Seen (fun x => .int .i64 x) w7 (some ⟨g, 0, none⟩) cap g 0 [0, 16, 32]) := hSn
      clear hB7 HB6 hSn
      go_wp2_with (go_at_call 22; fail)
      have hh := heap_alloc_new w7 (.cells #[.int .i64 0, .int .i64 16, .int .i64 32] 3)
      have hBn : Below w7.heap.size w7 (w7.alloc (.cells #[.int .i64 0, .int .i64 16, .int .i64 32] 3)) := (Below.refl _ w7).alloc (Nat.le_refl _) _
      have hS2 : Seen (fun x => .int .i64 x) (w7.alloc (.cells #[.int .i64 0, .int .i64 16, .int .i64 32] 3)) (some ⟨w7.heap.size, 0, none⟩) 3 w7.heap.size 0 [0, 16, 32] := ⟨by decide, by decide, fun _ => rfl, fun i x hx => by
        rw [Nat.zero_add]
        have hi : i < 3 := (List.getElem?_eq_some_iff.1 hx).1
        rcases (show i = 0 ∨ i = 1 ∨ i = 2 by omega) with rfl | rfl | rfl
        all_goals
          simp at hx
          subst hx
          exact cell_of_row _ _ _ _ _ _ hh⟩
      have HB8 : Hid (Below w.heap.size w (w7.alloc (.cells #[.int .i64 0, .int .i64 16, .int .i64 32] 3))) := b_keep HB7.out hBn
      refine (Same [0, 16, 32] 3 3 _ _ cap 3 g _ 0 0 _ (HSn.out.below hBn) hS2 rfl rfl).mono ?_
      rintro e w9 ⟨rfl, q, rfl⟩
      go_wp2
      go_returns
      exact ⟨rfl, below_drewN HB8.out q⟩

end Go.Proofs.YtienmoannnhhmaaDoor.Sp
