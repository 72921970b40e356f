/- PolySteps, walked: whatever comes in, true comes out. -/
import Derived.Test.YthepjdccoidkfaaPoly8
import Derived.Test.YthepjdccoidkfaaAwakeOne
import Derived.Test.YthepjdccoidkfaaRefState
namespace Go.Proofs.Ythepjdccoidkfaa.polySteps
open Go.RowKit

theorem row_any {w : World} {base n : Nat} {e : TypeId} {v : Value} {xs : List Value} (h : w.ownsRow base e 1 v n xs) : ∃ p cap, v = .slice p n cap ∧ (1 ≤ n → ∃ g, p = some ⟨g, 0, none⟩) := by
  rcases h.2 with ⟨hv, h0⟩ | ⟨g, cap, _, hv, _⟩
  · exact ⟨_, _, by rw [hv, h0], fun h => by omega⟩
  · exact ⟨_, _, hv, fun _ => ⟨g, rfl⟩⟩

theorem stepK (b s size tap c : Nat) (w : World) (hc : c = s % 2) (hg : Poly8.Good size tap s) (h : Poly8.At w b 0 s size tap) :
    Calls Try.prog 17 #[.pointer (some ⟨b, 0, none⟩)] w fun e w' => e = .returned (.int .u8 (c : Int)) ∧ Poly8.At w' b 0 (nxt size tap s) size tap ∧ Only b w w' := by
  subst hc
  exact Poly8.Step' b 0 s size tap w hg h

theorem fits (c : Bool) (size s : Nat) (w : World) (h : size ≤ 40) (hc : decide (s < 2 ^ size) = c) :
    Calls Try.prog 21 #[.int .i64 (size : Int), .int .i64 (s : Int)] w fun e w' => e = .returned (.bool c) ∧ w' = w := by
  subst hc
  exact Ref1.Fits size s w h
theorem state0 (b size tap : Nat) (w : World) (h : Poly8.At w b 0 0 size tap) :
    Calls Try.prog 18 #[.pointer (some ⟨b, 0, none⟩)] w fun e w' => e = .returned (.int .u8 0) ∧ w' = w := Poly8.State b 0 0 w h.c0

set_option maxRecDepth 100000 in
set_option maxHeartbeats 1000000 in
theorem bad (size tap s t : Int) (W : World) (hv : ¬ (2 ≤ size ∧ size ≤ 8 ∧ 1 ≤ tap ∧ tap < size)) :
    Calls Try.prog 3 #[.agg #[.int .i64 size, .int .i64 tap, .int .u8 s, .int .u8 t]] W fun e w' => e = .returned (.bool true) ∧ Below W.heap.size W w' := by
  go_enter Try.func3, Try.ntmps3
  go_wp2_with (first
    | (go_at_call 15; refine (Poly8.New_no size tap _ hv).mono ?_; rintro e w1 ⟨rfl, rfl⟩)
    | (go_at_call 16; refine (Ref1.Right_no 8 size tap _ (by omega) hv).mono ?_; rintro e w1 ⟨rfl, rfl⟩)
    | (go_at_call 17; refine (Poly8.Step_nil _).mono ?_; rintro e w1 ⟨rfl, rfl⟩)
    | (go_at_call 18; refine (Poly8.State_nil _).mono ?_; rintro e w1 ⟨rfl, rfl⟩)
    | (go_at_call 19; refine (Poly8.Set_nil _ _).mono ?_; rintro e w1 ⟨rfl, rfl⟩)
    | (go_at_call 20; refine (awake1 _).mono ?_; rintro e w1 ⟨rfl, hb⟩))
  go_ret
  exact ⟨rfl, ((Below.refl _ W).alloc (Nat.le_refl _) _).trans (hb.mono (by simp))⟩

set_option maxRecDepth 100000 in
set_option maxHeartbeats 1000000 in
theorem wide (size tap s t : Nat) (W : World) (h0 : size ≤ 8) (h1 : 1 ≤ tap) (h2 : tap < size) (hs : 2 ^ size ≤ s) (hs8 : s ≤ 255) :
    Calls Try.prog 3 #[.agg #[.int .i64 (size : Int), .int .i64 (tap : Int), .int .u8 (s : Int), .int .u8 (t : Int)]] W fun e w' => e = .returned (.bool true) ∧ Below W.heap.size W w' := by
  have X0 : Hid ((W.alloc (.cells #[.int .i64 (size : Int), .int .i64 (tap : Int), .int .u8 (s : Int), .int .u8 (t : Int)] 23)).heap[W.heap.size]? = some (.cells #[.int .i64 (size : Int), .int .i64 (tap : Int), .int .u8 (s : Int), .int .u8 (t : Int)] 23 (0, 0))) := heap_alloc_new W _
  have HS : Hid (2 ^ size ≤ s) := hs
  clear hs
  go_enter Try.func3, Try.ntmps3
  go_wp2_with (go_at_call 15; fail)
  refine (Poly8.New size tap _ h1 h2 (by omega)).mono ?_
  rintro e w1 ⟨b, rfl, hbl, hA, hB⟩
  have X1 := (hB.block W.heap.size (by simp)).trans X0.out
  obtain ⟨x0, x1, x2, x3⟩ := cell4 X1
  have hbW : W.heap.size < b := by simp at hbl; omega
  have HA : Hid (Poly8.At w1 b 0 0 size tap) := hA
  have HB : Hid (Below W.heap.size W w1) := ((Below.refl _ W).alloc (Nat.le_refl _) _).trans (hB.mono (by simp))
  clear hA hB hbl X1
  go_wp2_with (first
    | (go_at_call 16; refine (Ref1.Right_yes 8 size tap _ (by omega) (by omega) (by omega) (by omega) (by omega)).mono ?_; rintro e w1 ⟨rfl, rfl⟩)
    | (go_at_call 19; fail))
  refine (Poly8.Set_no b 0 0 size tap s _ (by omega) HS.out HA.out).mono ?_
  rintro e w2 ⟨rfl, rfl⟩
  go_wp2_with (go_at_call 21; fail)
  refine (fits false size s _ (by omega) (decide_eq_false (by have := HS.out; omega))).mono ?_
  rintro e w2 ⟨rfl, rfl⟩
  go_wp2_with (go_at_call 18; fail)
  refine (state0 b size tap _ HA.out).mono ?_
  rintro e w2 ⟨rfl, rfl⟩
  go_wp2_with (go_at_call 20; refine (awake1 _).mono ?_; rintro e w3 ⟨rfl, hb⟩)
  go_ret
  exact ⟨rfl, HB.out.trans (hb.mono HB.out.size)⟩

set_option maxRecDepth 100000 in
set_option maxHeartbeats 2000000 in
theorem good (size tap s t : Nat) (W : World) (h0 : size ≤ 8) (h1 : 1 ≤ tap) (h2 : tap < size) (hs : s < 2 ^ size) (hs8 : s ≤ 255) (ht : t ≤ 255) :
    Calls Try.prog 3 #[.agg #[.int .i64 (size : Int), .int .i64 (tap : Int), .int .u8 (s : Int), .int .u8 (t : Int)]] W fun e w' => e = .returned (.bool true) ∧ Below W.heap.size W w' := by
  have hG : Hid (Poly8.Good size tap s) := ⟨h1, h2, by omega, hs⟩
  have X0 : Hid ((W.alloc (.cells #[.int .i64 (size : Int), .int .i64 (tap : Int), .int .u8 (s : Int), .int .u8 (t : Int)] 23)).heap[W.heap.size]? = some (.cells #[.int .i64 (size : Int), .int .i64 (tap : Int), .int .u8 (s : Int), .int .u8 (t : Int)] 23 (0, 0))) := heap_alloc_new W _
  obtain ⟨m, hm⟩ : ∃ m, m = t + 1 := ⟨_, rfl⟩
  have e0 : IntKind.i64.wrap ((t : Int) + 1) = (m : Int) := by rw [IntWalk.i64_in _ (by omega)]; omega
  have HM : Hid (m = t + 1) := hm
  have hm1 : m ≤ 256 := by omega
  clear hm
  have HS : Hid (s < 2 ^ size) := hs
  clear hs
  go_enter Try.func3, Try.ntmps3
  go_wp2_with (go_at_call 15; fail)
  refine (Poly8.New size tap _ h1 h2 (by omega)).mono ?_
  rintro e w1 ⟨b, rfl, hbl, hA, hB⟩
  have X1 : Hid (w1.heap[W.heap.size]? = some (.cells #[.int .i64 (size : Int), .int .i64 (tap : Int), .int .u8 (s : Int), .int .u8 (t : Int)] 23 (0, 0))) := (hB.block W.heap.size (by simp)).trans X0.out
  obtain ⟨x0, x1, x2, x3⟩ := cell4 X1.out
  have hbW : W.heap.size < b := by simp at hbl; omega
  have HA : Hid (Poly8.At w1 b 0 0 size tap) := hA
  have HB : Hid (Below W.heap.size W w1) := ((Below.refl _ W).alloc (Nat.le_refl _) _).trans (hB.mono (by simp))
  clear hA hB hbl X0
  go_wp2_with (first
    | (go_at_call 16; refine (Ref1.Right_yes 8 size tap _ (by omega) (by omega) (by omega) (by omega) (by omega)).mono ?_; rintro e w1 ⟨rfl, rfl⟩)
    | (go_at_call 19; fail))
  refine (Poly8.Set b 0 0 size tap s _ h1 h2 (by omega) HA.out).mono ?_
  rintro e w2 ⟨rfl, hA2, hO2⟩
  have hE : setE size s = 0 := setE_yes HS.out
  rw [setS_yes HS.out] at hA2
  have HA2 : Hid (Poly8.At w2 b 0 s size tap) := hA2
  have X2 : Hid (w2.heap[W.heap.size]? = some (.cells #[.int .i64 (size : Int), .int .i64 (tap : Int), .int .u8 (s : Int), .int .u8 (t : Int)] 23 (0, 0))) := (hO2.block _ (by omega)).trans X1.out
  have HB2 : Hid (Below W.heap.size W w2) := HB.out.trans (hO2.below (by omega))
  clear hA2 hO2 X1 HB HA x0 x1 x2 x3
  obtain ⟨x0, x1, x2, x3⟩ := cell4 X2.out
  go_wp2_with (first
    | (go_at_call 21; refine (fits true size s _ (by omega) (decide_eq_true HS.out)).mono ?_; rintro e w2 ⟨rfl, rfl⟩)
    | (go_at_call 22; fail))
  refine (Ref1.Row size tap s t _ h1 h2 (by omega) HS.out (by omega)).mono ?_
  rintro e w3 ⟨v, rfl, hR, hB3⟩
  obtain ⟨p, cap, rfl, hp⟩ := row_any hR
  have HR3 : Hid (w3.ownsRow w2.heap.size 5 1 (.slice p t cap) t (Ref1.bitRow size tap s t)) := hR
  have HP : Hid (1 ≤ t → ∃ g, p = some ⟨g, 0, none⟩) := hp
  have HA3 : Hid (Poly8.At w3 b 0 s size tap) := HA2.out.below hB3 HA2.out.lt
  have X3 : Hid (w3.heap[W.heap.size]? = some (.cells #[.int .i64 (size : Int), .int .i64 (tap : Int), .int .u8 (s : Int), .int .u8 (t : Int)] 23 (0, 0))) := (hB3.block _ (lt_of_block X2.out)).trans X2.out
  have HB3 : Hid (Below W.heap.size W w3) := HB2.out.trans (hB3.mono HB2.out.size)
  have hbl2 : b < w2.heap.size := HA2.out.lt
  clear hR hp hB3 HA2 X2 HB2 x0 x1 x2 x3
  obtain ⟨x0, x1, x2, x3⟩ := cell4 X3.out
  go_wp2_with (go_at_call 23; fail)
  refine (Ref1.States size tap s m _ h1 h2 (by omega) HS.out (by omega)).mono ?_
  rintro e w4 ⟨v, rfl, hR, hB4⟩
  obtain ⟨g2, cap2, rfl⟩ := Ref1.row_form hR (by have := HM.out; omega)
  have HR4 : Hid (w4.ownsRow w3.heap.size 3 1 (.slice (some ⟨g2, 0, none⟩) m cap2) m (Ref1.stRow size tap s m)) := hR
  have HQ4 : Hid (∀ i, i < t → ∃ g, p = some ⟨g, 0, none⟩ ∧ b < g ∧ w4.cell? ⟨g, i, none⟩ = some (.int .u8 (Ref1.bitAt size tap s i))) := by
    intro i hi
    obtain ⟨g, rfl⟩ := HP.out (by omega)
    have hl := HR3.out.lt g rfl
    refine ⟨g, rfl, by omega, ?_⟩
    rw [hB4.cell (p := ⟨g, i, none⟩) hl.2, HR3.out.cellAt i (by omega)]
    simp [Ref1.bitRow, hi]
  have hbg2 : b < g2 := by have := (hR.lt g2 rfl).1; have := HA3.out.lt; omega
  have HA4 : Hid (Poly8.At w4 b 0 s size tap) := HA3.out.below hB4 HA3.out.lt
  have HB4 : Hid (Below W.heap.size W w4) := HB3.out.trans (hB4.mono HB3.out.size)
  clear hR hB4 HA3 X3 HB3 x0 x1 x2 x3 HR3 HP
  go_wp2
  go_loopw [7] (fun v wr => ∃ k : Nat, k ≤ t ∧ v = .int .i64 (k : Int) ∧ Poly8.At wr b 0 (orb size tap k s) size tap ∧ Only b w4 wr) (fun v _ => t - (intOf v).toNat)
  case atStart => exact ⟨0, by omega, rfl, HA4.out, Only.refl _ _⟩
  case round =>
    obtain ⟨k, hk, rfl, hAr, hOr⟩ := hrel
    obtain ⟨a, ha⟩ : ∃ a, a = orb size tap k s := ⟨_, rfl⟩
    have HAr : Hid (Poly8.At wr b 0 a size tap) := by rw [ha]; exact hAr
    have HOr : Hid (Only b w4 wr) := hOr
    have HGa : Hid (Poly8.Good size tap a) := by rw [ha]; exact hG.out.orb k
    have hal := HGa.out.lt
    have Ha : Hid (a = orb size tap k s) := ha
    have c2 : wr.cell? ⟨g2, k, none⟩ = some (.int .i64 (a : Int)) := by
      rw [hOr.cell (p := ⟨g2, k, none⟩) (by simp; omega), HR4.out.cellAt k (by have := HM.out; omega)]
      have hkm : k < m := by have := HM.out; omega
      simp [Ref1.stRow, hkm, ha]
    have ea : IntKind.i64.wrap (a : Int) = (a : Int) := IntWalk.i64_in _ (by omega)
    have na : ((a : Int) != (a : Int)) = false := by simp
    have n0 : (0 : Int) ≤ (k : Int) := by omega
    have n1 : (k : Int) < (m : Int) := by have := HM.out; omega
    have b0 := HAr.out.c0
    clear hAr hOr ha HA4
    by_cases hl : k < t
    · obtain ⟨g, rfl, hbg, hcell⟩ := HQ4.out k hl
      obtain ⟨c, hc⟩ : ∃ c, c = a % 2 := ⟨_, rfl⟩
      have c1 : wr.cell? ⟨g, k, none⟩ = some (.int .u8 (c : Int)) := by
        rw [HOr.out.cell (p := ⟨g, k, none⟩) (by simp; omega), hcell]
        unfold Ref1.bitAt
        rw [hc, Ha.out]
      have HC : Hid (c = a % 2) := hc
      have nc : ((c : Int) != (c : Int)) = false := by simp
      have n2 : (k : Int) < (t : Int) := by omega
      clear hc hcell
      go_wp2
      go_region_held3 (fun w' => w'.cell? ⟨g2, k, none⟩ = some (.int .i64 (a : Int)) ∧ w'.cell? ⟨g, k, none⟩ = some (.int .u8 (c : Int))) (go_keep) (first
        | (go_at_call 18; refine (Poly8.State b 0 a _ ?_).mono ?_; (exact HAr.out.c0); rintro e w5 ⟨rfl, rfl⟩)
        | (go_at_call 17; refine (stepK b a size tap c _ HC.out HGa.out ?_).mono ?_; (exact ⟨HAr.out.c0, HAr.out.c1, HAr.out.c2, HAr.out.fz⟩); rintro e w6 ⟨rfl, hA6, hO6⟩; have c62 : w6.cell? ⟨g2, k, none⟩ = some (.int .i64 (a : Int)) := (hO6.cell (p := ⟨g2, k, none⟩) (by simp; omega)).trans c2; have c61 : w6.cell? ⟨g, k, none⟩ = some (.int .u8 (c : Int)) := (hO6.cell (p := ⟨g, k, none⟩) (by simp; omega)).trans c1; have HA6 : Hid (Poly8.At w6 b 0 (nxt size tap a) size tap) := hA6; have HO6 : Hid (Only b wr w6) := ⟨hO6.os, hO6.tape, hO6.output, hO6.size, hO6.block⟩; clear hA6 hO6))
      go_wp2
      go_roundw
      case rel => exact ⟨k + 1, hl, by go_num, by have := HA6.out; rw [Ha.out] at this; exact this, HOr.out.trans HO6.out⟩
      case measure => simp [intOf]; omega
    · have hkt : k = t := by omega
      subst hkt
      have HBr : Hid (Below W.heap.size W wr) := HB4.out.trans (HOr.out.below (by omega))
      have hg2 : g2 < wr.heap.size := by rw [HOr.out.size]; exact (HR4.out.lt g2 rfl).2
      go_wp2
      go_region_held3 (fun w' => w'.cell? ⟨g2, k, none⟩ = some (.int .i64 (a : Int))) (go_keep) (first
        | (go_at_call 18; refine (Poly8.State b 0 a _ ?_).mono ?_; (exact HAr.out.c0); rintro e w5 ⟨rfl, rfl⟩)
        | (go_at_call 20; refine (awake1 _).mono ?_; rintro e w9 ⟨rfl, hb⟩; have hc9 : w9.cell? ⟨g2, k, none⟩ = some (.int .i64 (a : Int)) := (hb.cell (p := ⟨g2, k, none⟩) (by simpa using hg2)).trans c2))
      go_wp2
      go_ret
      exact ⟨rfl, HBr.out.drew.trans (hb.mono (by have := HBr.out.size; simpa using this))⟩

theorem walk (a0_0 a0_1 a0_2 a0_3 : Int) (_ : (Lit.int .i64 a0_0).wf = true) (_ : (Lit.int .i64 a0_1).wf = true) (w2 : (Lit.int .u8 a0_2).wf = true) (w3 : (Lit.int .u8 a0_3).wf = true) (W : World) :
    Calls Try.prog 3 #[.agg #[.int .i64 a0_0, .int .i64 a0_1, .int .u8 a0_2, .int .u8 a0_3]] W fun e w' => e = .returned (.bool true) ∧ Below W.heap.size W w' := by
  by_cases hv : 2 ≤ a0_0 ∧ a0_0 ≤ 8 ∧ 1 ≤ a0_1 ∧ a0_1 < a0_0
  · have hb := bounds_u8 w2
    have hb3 := bounds_u8 w3
    obtain ⟨k, rfl⟩ := Int.eq_ofNat_of_zero_le (show 0 ≤ a0_0 by omega)
    obtain ⟨t, rfl⟩ := Int.eq_ofNat_of_zero_le (show 0 ≤ a0_1 by omega)
    obtain ⟨s, rfl⟩ := Int.eq_ofNat_of_zero_le (show 0 ≤ a0_2 by omega)
    obtain ⟨n, rfl⟩ := Int.eq_ofNat_of_zero_le (show 0 ≤ a0_3 by omega)
    by_cases hs : s < 2 ^ k
    · exact good k t s n W (by omega) (by omega) (by omega) hs (by omega) (by omega)
    · exact wide k t s n W (by omega) (by omega) (by omega) (by omega) (by omega)
  · exact bad _ _ _ _ W hv

end Go.Proofs.Ythepjdccoidkfaa.polySteps
