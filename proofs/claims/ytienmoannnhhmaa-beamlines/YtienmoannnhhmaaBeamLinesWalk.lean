/- BeamLines, walked: whatever comes in, true comes out. -/
import Derived.Test.YtienmoannnhhmaaAwakeB
set_option linter.unusedVariables false
namespace Go.Proofs.Ytienmoannnhhmaa.beamLines
open Go.RowKit Count Bm

theorem back {W w w' : World} {b cb db : Nat} (hS : ∀ k, S3 b cb db k → W.heap.size ≤ k) (hB : Below W.heap.size W w) (hT : Tn (S3 b cb db) w w') : Below W.heap.size W w' := hB.trans (hT.below hS hB.size)
theorem keep {W w w' : World} (hB : Below W.heap.size W w) (h : Below w.heap.size w w') : Below W.heap.size W w' := hB.trans (h.mono hB.size)

/-- How many of the first k clocks are a pulse, are dark. -/
def pus (k : Nat) : Nat := min k 36 - min k 20
def dks (c : Bool) (k : Nat) : Nat := min k (if c then 76 else 68)
theorem pus_yes {k : Nat} (h : pulse k = true) : pus (k + 1) = pus k + 1 := by
  unfold pulse at h; simp at h; unfold pus; omega
theorem pus_no {k : Nat} (h : pulse k = false) : pus (k + 1) = pus k := by
  unfold pulse at h; simp at h; unfold pus; omega
theorem dks_yes {c : Bool} {k : Nat} (h : dark k (c && decide (10 ≤ k)) = true) : dks c (k + 1) = dks c k + 1 := by
  unfold dark at h; unfold dks; cases c <;> simp at h ⊢ <;> omega
theorem dks_no {c : Bool} {k : Nat} (h : dark k (c && decide (10 ≤ k)) = false) : dks c (k + 1) = dks c k := by
  unfold dark at h; unfold dks; cases c <;> simp at h ⊢ <;> omega
theorem late_at {c : Bool} {k : Nat} (h : k ≠ 10) : (c && decide (10 < k)) = (c && decide (10 ≤ k)) := by
  cases c <;> simp; omega
theorem late_behind {c : Bool} {k : Nat} : (c && decide (10 < k + 1)) = (c && decide (10 ≤ k)) := by
  cases c <;> simp; omega
theorem nx_k {k : Nat} (h : k < 228) : nx k = (k + 1) % 228 := rfl

/-- The second loop's state. -/
structure St (W : World) (b cb db : Nat) (comb : Bool) (k : Nat) (w : World) : Prop where
  p : BAt w b cb db (k % 228) (comb && decide (10 < k))
  old : Below W.heap.size W w

set_option maxRecDepth 100000 in
set_option maxHeartbeats 4000000 in
theorem good (c : Nat) (comb : Bool) (W : World) (hc : c < 228) :
    Calls Try.prog 4 #[.int .u8 (c : Int), .bool comb] W fun e w' => e = .returned (.bool true) ∧ Below W.heap.size W w' := by
  go_enter Try.func4, Try.ntmps4
  go_wp2_with (go_at_call 5; fail)
  refine (New_yes c W hc).mono ?_
  rintro e w1 ⟨b, cb, db, rfl, hb, hcb, hdb, hA1, hB1⟩
  have HA1 : Hid (BAt w1 b cb db c false) := hA1
  have HB1 : Hid (Below W.heap.size W w1) := hB1
  have HS : Hid (∀ k, S3 b cb db k → W.heap.size ≤ k) := (by rintro k (rfl | rfl | rfl) <;> omega)
  clear hA1 hB1 hb hcb hdb
  go_wp2
  go_loopw [6] (fun v wr => ∃ k : Nat, k ≤ 228 ∧ v = .int .i64 (k : Int) ∧ (∀ j, j < k → (c + j) % 228 ≠ 0) ∧ BAt wr b cb db ((c + k) % 228) false ∧ Below W.heap.size W wr) (fun v _ => 228 - (intOf v).toNat)
  case atStart => exact ⟨0, by omega, rfl, fun j hj => by omega, by rw [Nat.add_zero, Nat.mod_eq_of_lt hc]; exact HA1.out, HB1.out⟩
  case round =>
    obtain ⟨k, hk, rfl, hnz, hAr, hBr⟩ := hrel
    have HZ : Hid (∀ j, j < k → (c + j) % 228 ≠ 0) := hnz
    obtain ⟨t, ht⟩ : ∃ t, t = (c + k) % 228 := ⟨_, rfl⟩
    have HT : Hid (t = (c + k) % 228) := ht
    rw [← ht] at hAr
    have HA : Hid (BAt wr b cb db t false) := hAr
    have HB : Hid (Below W.heap.size W wr) := hBr
    clear hAr hBr hnz ht HA1 HB1
    have hlt : k < 228 := by
      by_cases hh : k < 228
      · exact hh
      · exfalso
        have h0 := HZ.out 0 (by omega)
        have h1 := HZ.out (228 - c) (by omega)
        rw [show c + (228 - c) = 228 by omega] at h1
        exact h1 (by decide)
    by_cases hz : t = 0
    · subst hz
      go_wp2_with (go_at_call 9; fail)
      refine (Clock b cb db 0 false _ HA.out).mono ?_
      rintro e w2 ⟨rfl, hB2⟩
      have H0 : Hid (St W b cb db comb 0 w2) := ⟨by simpa using HA.out.below hB2, keep HB.out hB2⟩
      clear hB2 HA HB HT HZ hlt hk
      go_wp2
      go_loopw [7, 8, 9, 10] (fun bg pu dk i wr => ∃ k : Nat, k ≤ 228 ∧ i = .int .i64 (k : Int) ∧ bg = .int .i64 ((min k 1 : Nat) : Int) ∧ pu = .int .i64 (pus k : Int) ∧ dk = .int .i64 (dks comb k : Int) ∧ St W b cb db comb k wr) (fun _ _ _ i _ => 228 - (intOf i).toNat)
      case atStart => exact ⟨0, by omega, rfl, rfl, rfl, (by cases comb <;> rfl), H0.out⟩
      case round =>
        obtain ⟨k, hk, rfl, rfl, rfl, rfl, hSt⟩ := hrel
        have H : Hid (St W b cb db comb k wr) := hSt
        clear hSt H0
        obtain ⟨bg, hbg⟩ : ∃ bg, bg = min k 1 := ⟨_, rfl⟩
        obtain ⟨pu, hpu⟩ : ∃ pu, pu = pus k := ⟨_, rfl⟩
        obtain ⟨dk, hdk⟩ : ∃ dk, dk = dks comb k := ⟨_, rfl⟩
        rw [← hbg, ← hpu, ← hdk]
        have HBG : Hid (bg = min k 1) := hbg
        have HPU : Hid (pu = pus k) := hpu
        have HDK : Hid (dk = dks comb k) := hdk
        have l1 : bg ≤ 1 := by omega
        have l2 : pu ≤ 228 := by unfold pus at hpu; omega
        have l3 : dk ≤ 228 := by unfold dks at hdk; split at hdk <;> omega
        clear hbg hpu hdk
        by_cases hlt : k < 228
        · have HO : Hid (Below W.heap.size W wr) := H.out.old
          have HA : Hid (BAt wr b cb db k (comb && decide (10 < k))) := by have := H.out.p; rwa [Nat.mod_eq_of_lt hlt] at this
          clear H
          obtain ⟨P, hp⟩ : ∃ P, pulse k = P := ⟨_, rfl⟩
          obtain ⟨D, hd⟩ : ∃ D, dark k (comb && decide (10 ≤ k)) = D := ⟨_, rfl⟩
          have HPP : Hid (pulse k = P) := hp
          have HDD : Hid (dark k (comb && decide (10 ≤ k)) = D) := hd
          clear hp hd
          by_cases h0 : k = 0
          · subst h0
            obtain rfl : bg = 0 := HBG.out
            obtain rfl : P = false := HPP.out.symm.trans (by decide)
            obtain rfl : D = true := HDD.out.symm.trans (by cases comb <;> decide)
            cases comb
            · skip
              go_wp2_with (go_at_call 10; fail)
              refine (Begin_yes b cb db _ _ HA.out).mono ?_
              rintro e w3 ⟨rfl, hA3, hT3⟩
              have HX : Hid (BAt w3 b cb db 0 (false && decide (10 ≤ 0))) := (by show BAt w3 b cb db 0 (false && decide (10 ≤ 0)); have := hA3; simpa using this)
              have HY : Hid (Below W.heap.size W w3) := back HS.out HO.out hT3
              clear hA3 hT3 HA HO
              go_wp2_with (go_at_call 12; fail)
              refine (Pulse b cb db 0 _ _ HX.out).mono ?_
              rintro e wp ⟨rfl, hBp⟩
              have HP : Hid (BAt wp b cb db 0 (false && decide (10 ≤ 0))) := HX.out.below hBp
              have HPO : Hid (Below W.heap.size W wp) := keep HY.out hBp
              clear hBp HX HY
              rw [HPP.out]
              go_wp2_with (go_at_call 11; fail)
              refine (Dark b cb db 0 _ _ HP.out).mono ?_
              rintro e wd ⟨rfl, hBd⟩
              have HD : Hid (BAt wd b cb db 0 (false && decide (10 ≤ 0))) := HP.out.below hBd
              have HDO : Hid (Below W.heap.size W wd) := keep HPO.out hBd
              clear hBd HP HPO
              rw [HDD.out]
              go_wp2_with (go_at_call 6; fail)
              refine (Bm.Next b cb db 0 _ _ HD.out).mono ?_
              rintro e wn ⟨rfl, hAn, hTn⟩
              have HN : Hid (BAt wn b cb db (nx 0) (false && decide (10 ≤ 0))) := hAn
              have HNO : Hid (Below W.heap.size W wn) := back HS.out HDO.out hTn
              clear hAn hTn HD HDO
              go_wp2
              go_roundw
              case rel =>
                have q1 := HBG.out
                try have q2 := HK0.out
                refine ⟨0 + 1, by omega, by first | rfl | go_num, ?_, ?_, ?_, ⟨?_, HNO.out⟩⟩
                · rfl
                · first | (rw [pus_yes HPP.out, ← HPU.out]; done) | (rw [pus_yes HPP.out, ← HPU.out]; go_num; done) | (rw [pus_no HPP.out, ← HPU.out]; done)
                · first | (rw [dks_yes HDD.out, ← HDK.out]; done) | (rw [dks_yes HDD.out, ← HDK.out]; go_num; done) | (rw [dks_no HDD.out, ← HDK.out]; done)
                · rw [late_behind]; exact HN.out
              case measure => first | (simp [intOf]; done) | (simp [intOf]; omega)
            · skip
              go_wp2_with (go_at_call 10; fail)
              refine (Begin_yes b cb db _ _ HA.out).mono ?_
              rintro e w3 ⟨rfl, hA3, hT3⟩
              have HX : Hid (BAt w3 b cb db 0 (true && decide (10 ≤ 0))) := (by show BAt w3 b cb db 0 (true && decide (10 ≤ 0)); have := hA3; simpa using this)
              have HY : Hid (Below W.heap.size W w3) := back HS.out HO.out hT3
              clear hA3 hT3 HA HO
              go_wp2_with (go_at_call 12; fail)
              refine (Pulse b cb db 0 _ _ HX.out).mono ?_
              rintro e wp ⟨rfl, hBp⟩
              have HP : Hid (BAt wp b cb db 0 (true && decide (10 ≤ 0))) := HX.out.below hBp
              have HPO : Hid (Below W.heap.size W wp) := keep HY.out hBp
              clear hBp HX HY
              rw [HPP.out]
              go_wp2_with (go_at_call 11; fail)
              refine (Dark b cb db 0 _ _ HP.out).mono ?_
              rintro e wd ⟨rfl, hBd⟩
              have HD : Hid (BAt wd b cb db 0 (true && decide (10 ≤ 0))) := HP.out.below hBd
              have HDO : Hid (Below W.heap.size W wd) := keep HPO.out hBd
              clear hBd HP HPO
              rw [HDD.out]
              go_wp2_with (go_at_call 6; fail)
              refine (Bm.Next b cb db 0 _ _ HD.out).mono ?_
              rintro e wn ⟨rfl, hAn, hTn⟩
              have HN : Hid (BAt wn b cb db (nx 0) (true && decide (10 ≤ 0))) := hAn
              have HNO : Hid (Below W.heap.size W wn) := back HS.out HDO.out hTn
              clear hAn hTn HD HDO
              go_wp2
              go_roundw
              case rel =>
                have q1 := HBG.out
                try have q2 := HK0.out
                refine ⟨0 + 1, by omega, by first | rfl | go_num, ?_, ?_, ?_, ⟨?_, HNO.out⟩⟩
                · rfl
                · first | (rw [pus_yes HPP.out, ← HPU.out]; done) | (rw [pus_yes HPP.out, ← HPU.out]; go_num; done) | (rw [pus_no HPP.out, ← HPU.out]; done)
                · first | (rw [dks_yes HDD.out, ← HDK.out]; done) | (rw [dks_yes HDD.out, ← HDK.out]; go_num; done) | (rw [dks_no HDD.out, ← HDK.out]; done)
                · rw [late_behind]; exact HN.out
              case measure => first | (simp [intOf]; done) | (simp [intOf]; omega)
          · have HK0 : Hid (k ≠ 0) := h0
            cases comb
            · cases P <;> cases D
              all_goals
                have h10 : True := trivial
                go_wp2_with (go_at_call 10; fail)
                refine (Begin_no b cb db k _ _ (by omega) HA.out).mono ?_
                rintro e w3 ⟨rfl, hB3⟩
                have HX0 : Hid (BAt w3 b cb db k (false && decide (10 < k))) := HA.out.below hB3
                have HY0 : Hid (Below W.heap.size W w3) := keep HO.out hB3
                clear hB3 HA HO
                have HX : Hid (BAt w3 b cb db k (false && decide (10 ≤ k))) := (by show BAt w3 b cb db k (false && decide (10 ≤ k)); have := HX0.out; simpa using this)
                have HY : Hid (Below W.heap.size W w3) := HY0.out
                clear HX0 HY0
                go_wp2_with (go_at_call 12; fail)
                refine (Pulse b cb db k _ _ HX.out).mono ?_
                rintro e wp ⟨rfl, hBp⟩
                have HP : Hid (BAt wp b cb db k (false && decide (10 ≤ k))) := HX.out.below hBp
                have HPO : Hid (Below W.heap.size W wp) := keep HY.out hBp
                clear hBp HX HY
                rw [HPP.out]
                go_wp2_with (go_at_call 11; fail)
                refine (Dark b cb db k _ _ HP.out).mono ?_
                rintro e wd ⟨rfl, hBd⟩
                have HD : Hid (BAt wd b cb db k (false && decide (10 ≤ k))) := HP.out.below hBd
                have HDO : Hid (Below W.heap.size W wd) := keep HPO.out hBd
                clear hBd HP HPO
                rw [HDD.out]
                go_wp2_with (go_at_call 6; fail)
                refine (Bm.Next b cb db k _ _ HD.out).mono ?_
                rintro e wn ⟨rfl, hAn, hTn⟩
                have HN : Hid (BAt wn b cb db (nx k) (false && decide (10 ≤ k))) := hAn
                have HNO : Hid (Below W.heap.size W wn) := back HS.out HDO.out hTn
                clear hAn hTn HD HDO
                go_wp2
                go_roundw
                case rel =>
                  have q1 := HBG.out
                  try have q2 := HK0.out
                  refine ⟨k + 1, by omega, by first | rfl | go_num, ?_, ?_, ?_, ⟨?_, HNO.out⟩⟩
                  · rw [show min (k + 1) 1 = 1 by omega, show bg = 1 by omega]; try rfl
                  · first | (rw [pus_yes HPP.out, ← HPU.out]; done) | (rw [pus_yes HPP.out, ← HPU.out]; go_num; done) | (rw [pus_no HPP.out, ← HPU.out]; done)
                  · first | (rw [dks_yes HDD.out, ← HDK.out]; done) | (rw [dks_yes HDD.out, ← HDK.out]; go_num; done) | (rw [dks_no HDD.out, ← HDK.out]; done)
                  · rw [late_behind]; exact HN.out
                case measure => first | (simp [intOf]; done) | (simp [intOf]; omega)
            · by_cases h10 : k = 10
              · subst h10
                obtain rfl : P = false := HPP.out.symm.trans (by decide)
                obtain rfl : D = true := HDD.out.symm.trans (by decide)
                go_wp2_with (go_at_call 10; fail)
                refine (Begin_no b cb db 10 _ _ (by omega) HA.out).mono ?_
                rintro e w3 ⟨rfl, hB3⟩
                have HX0 : Hid (BAt w3 b cb db 10 (true && decide (10 < 10))) := HA.out.below hB3
                have HY0 : Hid (Below W.heap.size W w3) := keep HO.out hB3
                clear hB3 HA HO
                go_wp2_with (go_at_call 7; fail)
                refine (Comb b cb db 10 _ _ HX0.out).mono ?_
                rintro e w4 ⟨rfl, hA4, hT4⟩
                have HX : Hid (BAt w4 b cb db 10 (true && decide (10 ≤ 10))) := (by show BAt w4 b cb db 10 (true && decide (10 ≤ 10)); have := hA4; simpa using this)
                have HY : Hid (Below W.heap.size W w4) := back HS.out HY0.out hT4
                clear hA4 hT4 HX0 HY0
                go_wp2_with (go_at_call 12; fail)
                refine (Pulse b cb db 10 _ _ HX.out).mono ?_
                rintro e wp ⟨rfl, hBp⟩
                have HP : Hid (BAt wp b cb db 10 (true && decide (10 ≤ 10))) := HX.out.below hBp
                have HPO : Hid (Below W.heap.size W wp) := keep HY.out hBp
                clear hBp HX HY
                rw [HPP.out]
                go_wp2_with (go_at_call 11; fail)
                refine (Dark b cb db 10 _ _ HP.out).mono ?_
                rintro e wd ⟨rfl, hBd⟩
                have HD : Hid (BAt wd b cb db 10 (true && decide (10 ≤ 10))) := HP.out.below hBd
                have HDO : Hid (Below W.heap.size W wd) := keep HPO.out hBd
                clear hBd HP HPO
                rw [HDD.out]
                go_wp2_with (go_at_call 6; fail)
                refine (Bm.Next b cb db 10 _ _ HD.out).mono ?_
                rintro e wn ⟨rfl, hAn, hTn⟩
                have HN : Hid (BAt wn b cb db (nx 10) (true && decide (10 ≤ 10))) := hAn
                have HNO : Hid (Below W.heap.size W wn) := back HS.out HDO.out hTn
                clear hAn hTn HD HDO
                go_wp2
                go_roundw
                case rel =>
                  have q1 := HBG.out
                  try have q2 := HK0.out
                  refine ⟨10 + 1, by omega, by first | rfl | go_num, ?_, ?_, ?_, ⟨?_, HNO.out⟩⟩
                  · rw [show min (10 + 1) 1 = 1 by omega, show bg = 1 by omega]; try rfl
                  · first | (rw [pus_yes HPP.out, ← HPU.out]; done) | (rw [pus_yes HPP.out, ← HPU.out]; go_num; done) | (rw [pus_no HPP.out, ← HPU.out]; done)
                  · first | (rw [dks_yes HDD.out, ← HDK.out]; done) | (rw [dks_yes HDD.out, ← HDK.out]; go_num; done) | (rw [dks_no HDD.out, ← HDK.out]; done)
                  · rw [late_behind]; exact HN.out
                case measure => first | (simp [intOf]; done) | (simp [intOf]; omega)
              · have e10 : ((k : Int) == 10) = false := beq_eq_false_iff_ne.2 (by omega)
                cases P <;> cases D
                all_goals
                  go_wp2_with (go_at_call 10; fail)
                  refine (Begin_no b cb db k _ _ (by omega) HA.out).mono ?_
                  rintro e w3 ⟨rfl, hB3⟩
                  have HX0 : Hid (BAt w3 b cb db k (true && decide (10 < k))) := HA.out.below hB3
                  have HY0 : Hid (Below W.heap.size W w3) := keep HO.out hB3
                  clear hB3 HA HO
                  have HX : Hid (BAt w3 b cb db k (true && decide (10 ≤ k))) := (by show BAt w3 b cb db k (true && decide (10 ≤ k)); have := HX0.out; rwa [late_at h10] at this)
                  have HY : Hid (Below W.heap.size W w3) := HY0.out
                  clear HX0 HY0
                  go_wp2_with (go_at_call 12; fail)
                  refine (Pulse b cb db k _ _ HX.out).mono ?_
                  rintro e wp ⟨rfl, hBp⟩
                  have HP : Hid (BAt wp b cb db k (true && decide (10 ≤ k))) := HX.out.below hBp
                  have HPO : Hid (Below W.heap.size W wp) := keep HY.out hBp
                  clear hBp HX HY
                  rw [HPP.out]
                  go_wp2_with (go_at_call 11; fail)
                  refine (Dark b cb db k _ _ HP.out).mono ?_
                  rintro e wd ⟨rfl, hBd⟩
                  have HD : Hid (BAt wd b cb db k (true && decide (10 ≤ k))) := HP.out.below hBd
                  have HDO : Hid (Below W.heap.size W wd) := keep HPO.out hBd
                  clear hBd HP HPO
                  rw [HDD.out]
                  go_wp2_with (go_at_call 6; fail)
                  refine (Bm.Next b cb db k _ _ HD.out).mono ?_
                  rintro e wn ⟨rfl, hAn, hTn⟩
                  have HN : Hid (BAt wn b cb db (nx k) (true && decide (10 ≤ k))) := hAn
                  have HNO : Hid (Below W.heap.size W wn) := back HS.out HDO.out hTn
                  clear hAn hTn HD HDO
                  go_wp2
                  go_roundw
                  case rel =>
                    have q1 := HBG.out
                    try have q2 := HK0.out
                    refine ⟨k + 1, by omega, by first | rfl | go_num, ?_, ?_, ?_, ⟨?_, HNO.out⟩⟩
                    · rw [show min (k + 1) 1 = 1 by omega, show bg = 1 by omega]; try rfl
                    · first | (rw [pus_yes HPP.out, ← HPU.out]; done) | (rw [pus_yes HPP.out, ← HPU.out]; go_num; done) | (rw [pus_no HPP.out, ← HPU.out]; done)
                    · first | (rw [dks_yes HDD.out, ← HDK.out]; done) | (rw [dks_yes HDD.out, ← HDK.out]; go_num; done) | (rw [dks_no HDD.out, ← HDK.out]; done)
                    · rw [late_behind]; exact HN.out
                  case measure => first | (simp [intOf]; done) | (simp [intOf]; omega)
        · have hkn : k = 228 := by omega
          subst hkn
          have HO : Hid (Below W.heap.size W wr) := H.out.old
          have HA : Hid (BAt wr b cb db 0 (comb && decide (10 < 228))) := H.out.p
          clear H
          obtain rfl : bg = 1 := HBG.out
          obtain rfl : pu = 16 := HPU.out
          cases comb
          · obtain rfl : dk = 68 := HDK.out
            go_wp2_with (first
              | (go_at_call 9; refine (Clock b cb db 0 _ _ HA.out).mono ?_; rintro e w5 ⟨rfl, hB5⟩)
              | (go_at_call 15; refine (awake15 _).mono ?_; rintro e w6 ⟨rfl, hB6⟩))
            go_returns
            exact ⟨rfl, keep (keep HO.out hB5) hB6⟩
          · obtain rfl : dk = 76 := HDK.out
            go_wp2_with (first
              | (go_at_call 9; refine (Clock b cb db 0 _ _ HA.out).mono ?_; rintro e w5 ⟨rfl, hB5⟩)
              | (go_at_call 15; refine (awake15 _).mono ?_; rintro e w6 ⟨rfl, hB6⟩))
            go_returns
            exact ⟨rfl, keep (keep HO.out hB5) hB6⟩
    · have hz' : ((t : Int) != 0) = true := bne_iff_ne.2 (by omega)
      go_wp2_with (go_at_call 9; fail)
      refine (Clock b cb db t false _ HA.out).mono ?_
      rintro e w2 ⟨rfl, hB2⟩
      have HA2 : Hid (BAt w2 b cb db t false) := HA.out.below hB2
      have HB2 : Hid (Below W.heap.size W w2) := keep HB.out hB2
      clear hB2 HA HB
      go_wp2_with (go_at_call 6; fail)
      refine (Bm.Next b cb db t false _ HA2.out).mono ?_
      rintro e w3 ⟨rfl, hA3, hT3⟩
      have HA3 : Hid (BAt w3 b cb db (nx t) false) := hA3
      have HB3 : Hid (Below W.heap.size W w3) := back HS.out HB2.out hT3
      clear hA3 hT3 HA2 HB2
      go_wp2
      go_roundw
      case rel =>
        have e1 := HT.out
        refine ⟨k + 1, by omega, by go_num, fun j hj => ?_, ?_, HB3.out⟩
        · by_cases hjk : j = k
          · subst hjk; omega
          · exact HZ.out j (by omega)
        · have := HA3.out
          rwa [show nx t = (c + (k + 1)) % 228 by unfold nx; omega] at this
      case measure => simp [intOf]; omega

set_option maxRecDepth 100000 in
set_option maxHeartbeats 1000000 in
theorem walk (a0 : Int) (w0 : (Lit.int .u8 a0).wf = true) (a1 : Bool) (W : World) :
    Calls Try.prog 4 #[.int .u8 a0, .bool a1] W fun e w' => e = .returned (.bool true) ∧ Below W.heap.size W w' := by
  have hb := bounds_u8 w0
  obtain ⟨c, rfl⟩ := Int.eq_ofNat_of_zero_le (show 0 ≤ a0 by omega)
  by_cases h : c < 228
  · exact good c a1 W h
  · have hg : (227 : Int) < (c : Int) := by omega
    go_enter Try.func4, Try.ntmps4
    go_wp2_with (first
      | (go_at_call 5; refine (New_no (c : Int) _ (by omega)).mono ?_; rintro e w1 ⟨rfl, hB1⟩)
      | (go_at_call 15; refine (awake15 _).mono ?_; rintro e w6 ⟨rfl, hB6⟩))
    go_returns
    exact ⟨rfl, keep hB1 hB6⟩

end Go.Proofs.Ytienmoannnhhmaa.beamLines
