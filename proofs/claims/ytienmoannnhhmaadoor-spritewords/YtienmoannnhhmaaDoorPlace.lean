/- What the calls of package count about places do. -/
import Derived.Test.YtienmoannnhhmaaDoorCount
namespace Go.Proofs.YtienmoannnhhmaaDoor.Count
open Go.RowKit

/-! ### Places -/

/-- A place at n is block b. -/
structure PlAt (w : World) (b n : Nat) : Prop where
  c : CAt w b 0 (n / 4) 40
  d : DAt w b 4 (n % 4) 4
  n1 : n < 160

theorem PlAt.below {w w' : World} {b n m : Nat} (h : PlAt w b n) (hb : Below m w w') (hm : b < m) : PlAt w' b n := ⟨h.c.below hb hm, h.d.below hb hm, h.n1⟩
theorem PlAt.lt {w : World} {b n : Nat} (h : PlAt w b n) : b < w.heap.size := h.c.lt

set_option maxRecDepth 100000 in
set_option maxHeartbeats 1000000 in
theorem Begin (w : World) : Calls Tryd.prog 26 #[] w fun e w' => ∃ b, e = .returned (.pointer (some ⟨b, 0, none⟩)) ∧ w.heap.size ≤ b ∧ PlAt w' b 0 ∧ Below w.heap.size w w' := by
  go_enter Tryd.func26, Tryd.ntmps26
  go_wp2
  go_region_with (first
    | (go_at_call 41; refine (Of_yes 40 _ (by decide) (by decide)).mono ?_; rintro e w1 ⟨b1, rfl, hb1, hC1, hB1⟩; have g0 := hC1.p.c0; have g1 := hC1.p.c1; have g2 := hC1.p.c2; have g3 := hC1.l)
    | (go_at_call 42; refine (By_yes 4 _ (by decide) (by decide)).mono ?_; rintro e w2 ⟨b2, rfl, hb2, hD2, hB2⟩; have k0 := hD2.c0; have k1 := hD2.c1; have hC2 := hC1.below hB2 hC1.lt; have j0 := hC2.p.c0; have j1 := hC2.p.c1; have j2 := hC2.p.c2; have j3 := hC2.l))
  all_goals
    go_wp2
    go_ret
    refine ⟨_, rfl, ?_, ?_, ?_⟩
    · have := hB1.size; have := hB2.size; simp at *; omega
    · have hh := heap_alloc_new w2 (.cells #[.int .u8 (mark 0 : Int), .int .u8 6, .int .u8 1, .int .u8 (mark 39 : Int), .int .i64 0, .int .i64 4] 81)
      exact ⟨⟨⟨cell_of_row _ _ _ _ _ _ hh, cell_of_row _ _ _ _ _ _ hh, cell_of_row _ _ _ _ _ _ hh, frozen_of_row _ _ _ _ _ hh⟩, cell_of_row _ _ _ _ _ _ hh, by decide, by decide⟩, ⟨cell_of_row _ _ _ _ _ _ hh, cell_of_row _ _ _ _ _ _ hh, frozen_of_row _ _ _ _ _ hh⟩, by decide⟩
    · have hB : Below w.heap.size w w2 := (Below.refl _ w).drew.trans (hB1.trans (hB2.mono (by simpa using hB1.size)))
      exact hB.alloc hB.size _

set_option maxRecDepth 100000 in
set_option maxHeartbeats 400000 in
theorem PlTick_nil (w : World) : Calls Tryd.prog 30 #[.pointer none] w fun e w' => e = .returned (.bool false) ∧ w' = w := by
  go_enter Tryd.func30, Tryd.ntmps30
  go_wp2
  go_ret
  exact ⟨rfl, rfl⟩

set_option maxRecDepth 100000 in
set_option maxHeartbeats 400000 in
theorem PlCount_nil (w : World) : Calls Tryd.prog 33 #[.pointer none] w fun e w' => e = .returned (.int .i64 0) ∧ w' = w := by
  go_enter Tryd.func33, Tryd.ntmps33
  go_wp2
  go_ret
  exact ⟨rfl, rfl⟩

set_option maxRecDepth 100000 in
set_option maxHeartbeats 400000 in
theorem PlSet_nil (j : Int) (w : World) : Calls Tryd.prog 27 #[.pointer none, .int .i64 j] w fun e w' => e = .returned (.int .i64 1) ∧ w' = w := by
  go_enter Tryd.func27, Tryd.ntmps27
  go_wp2
  go_ret
  exact ⟨rfl, rfl⟩

set_option maxRecDepth 100000 in
set_option maxHeartbeats 400000 in
theorem PlCopy_nil (w : World) : Calls Tryd.prog 40 #[.pointer none] w fun e w' => e = .returned (.pointer none) ∧ w' = w := by
  go_enter Tryd.func40, Tryd.ntmps40
  go_wp2
  go_ret
  exact ⟨rfl, rfl⟩

set_option maxRecDepth 100000 in
set_option maxHeartbeats 1000000 in
theorem PlTick (b n : Nat) (w : World) (h : PlAt w b n) : Calls Tryd.prog 30 #[.pointer (some ⟨b, 0, none⟩)] w fun e w' =>
    e = .returned (.bool (rndB n 160)) ∧ PlAt w' b (rndN n 160) ∧ Touch b 0 6 w w' := by
  have hn := h.n1
  have H : Hid (PlAt w b n) := h
  clear h
  by_cases h4 : n % 4 = 3
  · have HD : Hid (rndN (n % 4) 4 = 0 ∧ rndB (n % 4) 4 = true) := rnd_last (by omega)
    have hD := HD.out.2
    go_enter Tryd.func30, Tryd.ntmps30
    go_wp2_with (go_at_call 45; fail)
    refine (DTick b 4 (n % 4) 4 _ (by omega) (by decide) H.out.d).mono ?_
    rintro e w1 ⟨rfl, hD1, hT1⟩
    have HD1 : Hid (DAt w1 b 4 0 4) := by have := hD1; rwa [HD.out.1] at this
    have HT1 : Hid (Touch b 4 5 w w1) := hT1
    clear hD1 hT1
    go_wp2_with (go_at_call 46; fail)
    refine (CTick b 0 (n / 4) 40 _ (H.out.c.touch HT1.out (by omega))).mono ?_
    rintro e w2 ⟨rfl, hC2, hT2⟩
    go_wp2
    go_ret
    have e1 : rndN (n / 4) 40 = rndN n 160 / 4 ∧ rndB (n / 4) 40 = rndB n 160 ∧ rndN n 160 % 4 = 0 := by
      by_cases hl : n = 159
      · subst hl; decide
      · have a := rnd_not (i := n / 4) (n := 40) (by omega)
        have b := rnd_not (i := n) (n := 160) (by omega)
        rw [a.1, a.2, b.1, b.2]; refine ⟨by omega, rfl, by omega⟩
    refine ⟨ret_bool e1.2.1, ⟨?_, ?_, rndN_lt (by decide)⟩, (HT1.out.mono (by omega) (by omega)).trans (hT2.mono (by omega) (by omega))⟩
    · rw [← e1.1]; exact hC2
    · rw [e1.2.2]; exact HD1.out.touch hT2 (by omega)
  · have HD : Hid (rndN (n % 4) 4 = n % 4 + 1 ∧ rndB (n % 4) 4 = false) := rnd_not (by omega)
    have hD := HD.out.2
    go_enter Tryd.func30, Tryd.ntmps30
    go_wp2_with (go_at_call 45; fail)
    refine (DTick b 4 (n % 4) 4 _ (by omega) (by decide) H.out.d).mono ?_
    rintro e w1 ⟨rfl, hD1, hT1⟩
    go_wp2
    go_ret
    have b := rnd_not (i := n) (n := 160) (by omega)
    rw [b.1, b.2]
    rw [HD.out.1] at hD1
    refine ⟨rfl, ⟨?_, ?_, by omega⟩, hT1.mono (by omega) (by omega)⟩
    · rw [show (n + 1) / 4 = n / 4 from by omega]; exact H.out.c.touch hT1 (by omega)
    · rw [show (n + 1) % 4 = n % 4 + 1 from by omega]; exact hD1

set_option maxRecDepth 100000 in
set_option maxHeartbeats 1000000 in
theorem PlCount (b n : Nat) (w : World) (h : PlAt w b n) : Calls Tryd.prog 33 #[.pointer (some ⟨b, 0, none⟩)] w fun e w' => e = .returned (.int .i64 (n : Int)) ∧ Below w.heap.size w w' := by
  have hn := h.n1
  have H : Hid (PlAt w b n) := h
  clear h
  obtain ⟨q, hq⟩ : ∃ q, q = n / 4 := ⟨_, rfl⟩
  obtain ⟨r, hr⟩ : ∃ r, r = n % 4 := ⟨_, rfl⟩
  have HC : Hid (CAt w b 0 q 40) := by have := H.out.c; rwa [← hq] at this
  have HD : Hid (DAt w b 4 r 4) := by have := H.out.d; rwa [← hr] at this
  have HQ : Hid (4 * q + r = n) := by show _ = _; omega
  have b1 : q < 40 := by omega
  have b2 : r < 4 := by omega
  have e1 : IntKind.i64.wrap ((q : Int) * 4) = (q : Int) * 4 := IntWalk.i64_in _ (by omega)
  have e2 : IntKind.i64.wrap ((q : Int) * 4 + (r : Int)) = (n : Int) := by rw [IntWalk.i64_in _ (by omega)]; omega
  clear hq hr
  go_enter Tryd.func33, Tryd.ntmps33
  go_wp2
  go_region_with (first
    | (go_at_call 47; refine (CCount b 0 q 40 _ HC.out.drew).mono ?_; rintro e w1 ⟨rfl, hb⟩)
    | (go_at_call 48; refine (DCount b 4 r 4 _ (HD.out.drew.below hb HD.out.lt)).mono ?_; rintro e w2 ⟨rfl, rfl⟩))
  all_goals
    go_wp2
    go_ret
    exact ⟨rfl, (Below.refl _ w).drew.trans hb⟩

set_option maxRecDepth 100000 in
set_option maxHeartbeats 1000000 in
theorem PlSet (b n : Nat) (j : Int) (w : World) (h : PlAt w b n) : Calls Tryd.prog 27 #[.pointer (some ⟨b, 0, none⟩), .int .i64 j] w fun e w' =>
    e = .returned (.int .i64 (cntE 160 j)) ∧ PlAt w' b (cntS 160 n j) ∧ Touch b 0 6 w w' := by
  have H : Hid (PlAt w b n) := h
  clear h
  by_cases hj0 : j < 0
  · have HE : Hid (cntE 160 j = 6 ∧ cntS 160 n j = n) := ⟨if_neg (by omega), if_neg (by omega)⟩
    go_enter Tryd.func27, Tryd.ntmps27
    go_wp2
    go_ret
    rw [HE.out.1, HE.out.2]
    exact ⟨rfl, H.out, Touch.refl _ _ _ _⟩
  by_cases hj1 : 160 ≤ j
  · have HE : Hid (cntE 160 j = 6 ∧ cntS 160 n j = n) := ⟨if_neg (by omega), if_neg (by omega)⟩
    go_enter Tryd.func27, Tryd.ntmps27
    go_wp2
    go_ret
    rw [HE.out.1, HE.out.2]
    exact ⟨rfl, H.out, Touch.refl _ _ _ _⟩
  · obtain ⟨k, rfl⟩ := Int.eq_ofNat_of_zero_le (show 0 ≤ j by omega)
    have HE : Hid (cntE 160 (k : Int) = 0 ∧ cntS 160 n (k : Int) = k) := ⟨if_pos (by omega), if_pos (by omega)⟩
    have HC : Hid (cntS 40 (n / 4) ((k : Int) / 4) = k / 4) := by show (if _ then _ else _) = _; rw [if_pos (by omega)]; omega
    have HD : Hid (cntS 4 (n % 4) ((k : Int) % 4) = k % 4) := by show (if _ then _ else _) = _; rw [if_pos (by omega)]; omega
    go_enter Tryd.func27, Tryd.ntmps27
    go_wp2_with (go_at_call 43; fail)
    refine (CSet b 0 (n / 4) 40 ((k : Int) / 4) _ H.out.c).mono ?_
    rintro e w1 ⟨rfl, hC1, hT1⟩
    go_wp2_with (go_at_call 44; fail)
    refine (DSet b 4 (n % 4) 4 ((k : Int) % 4) _ (H.out.d.touch hT1 (by omega))).mono ?_
    rintro e w2 ⟨rfl, hD2, hT2⟩
    go_wp2
    go_ret
    rw [HE.out.1, HE.out.2]
    rw [HC.out] at hC1
    rw [HD.out] at hD2
    exact ⟨rfl, ⟨hC1.touch hT2 (by omega), hD2, by omega⟩, (hT1.mono (by omega) (by omega)).trans (hT2.mono (by omega) (by omega))⟩

set_option maxRecDepth 100000 in
set_option maxHeartbeats 1000000 in
theorem PlCopy (b n : Nat) (w : World) (h : PlAt w b n) : Calls Tryd.prog 40 #[.pointer (some ⟨b, 0, none⟩)] w fun e w' =>
    ∃ c, e = .returned (.pointer (some ⟨c, 0, none⟩)) ∧ w.heap.size ≤ c ∧ PlAt w' c n ∧ Below w.heap.size w w' := by
  have H : Hid (PlAt w b n) := h
  obtain ⟨⟨⟨g0, g1, g2, _⟩, g3, _, _⟩, ⟨k0, k1, _⟩, hn⟩ := h
  obtain ⟨r, hr⟩ : ∃ r, r = n % 4 := ⟨_, rfl⟩
  rw [← hr] at k0
  have HR : Hid (r = n % 4) := hr
  clear hr
  go_enter Tryd.func40, Tryd.ntmps40
  go_wp2
  go_ret
  have hh := heap_alloc_new w (.cells #[.int .u8 (mark (n / 4) : Int), .int .u8 6, .int .u8 1, .int .u8 (mark 39 : Int), .int .i64 (r : Int), .int .i64 4] 81)
  refine ⟨_, rfl, Nat.le_refl _, ⟨⟨⟨cell_of_row _ _ _ _ _ _ hh, cell_of_row _ _ _ _ _ _ hh, cell_of_row _ _ _ _ _ _ hh, frozen_of_row _ _ _ _ _ hh⟩, cell_of_row _ _ _ _ _ _ hh, by omega, by omega⟩, ⟨?_, cell_of_row _ _ _ _ _ _ hh, frozen_of_row _ _ _ _ _ hh⟩, hn⟩, (Below.refl _ w).alloc (Nat.le_refl _) _⟩
  rw [← HR.out]
  exact cell_of_row _ _ _ _ _ _ hh

end Go.Proofs.YtienmoannnhhmaaDoor.Count
