/- What each call of package count does: one contract a function. -/
import Derived.Test.YtienmoannnhhmaaDoorRing8
import Derived.Deep.RegionHeld3
import Derived.BigQuiet
import Derived.Deep.QuietTactic
namespace Go.Proofs.YtienmoannnhhmaaDoor.Count
open Go.RowKit

/-! ### Dividers -/

/-- A divider by n at 'at' lies at block b from cell off on. -/
structure DAt (w : World) (b off i n : Nat) : Prop where
  c0 : w.cell? ⟨b, off, none⟩ = some (.int .i64 (i : Int))
  c1 : w.cell? ⟨b, off + 1, none⟩ = some (.int .i64 (n : Int))
  fz : w.frozen? ⟨b, off, none⟩ = false

theorem DAt.below {w w' : World} {b off i n m : Nat} (h : DAt w b off i n) (hb : Below m w w') (hm : b < m) : DAt w' b off i n :=
  ⟨(hb.cell (p := ⟨b, off, none⟩) hm).trans h.c0, (hb.cell (p := ⟨b, off + 1, none⟩) hm).trans h.c1, (hb.frozen (p := ⟨b, off, none⟩) hm).trans h.fz⟩
theorem DAt.touch {w w' : World} {b off i n lo hi : Nat} (h : DAt w b off i n) (ht : Touch b lo hi w w') (hd : off + 2 ≤ lo ∨ hi ≤ off) : DAt w' b off i n :=
  ⟨(ht.cell off (by omega)).trans h.c0, (ht.cell (off + 1) (by omega)).trans h.c1, (ht.fz off).trans h.fz⟩
theorem DAt.put {w : World} {b off i n : Nat} (h : DAt w b off i n) (j : Nat) : DAt (w.setCell ⟨b, off, none⟩ (.int .i64 (j : Int))) b off j n :=
  ⟨World.cell?_setCell_same' _ _ _ (by rw [h.c0]; rfl), (World.cell?_setCell_other _ _ _ _ (by simp)).trans h.c1, by rw [World.frozen?_setCell]; exact h.fz⟩
theorem DAt.drew {w : World} {b off i n : Nat} (h : DAt w b off i n) : DAt w.drew b off i n := ⟨h.c0, h.c1, h.fz⟩
theorem DAt.draws {w : World} {b off i n : Nat} (h : DAt w b off i n) (q : Nat) : DAt (w.drewN q) b off i n := ⟨h.c0, h.c1, h.fz⟩
theorem touch_draws {b lo hi q : Nat} {w w' : World} (h : Touch b lo hi (w.drewN q) w') : Touch b lo hi w w' := ⟨h.os, h.tape, h.output, h.size, h.block, h.cell, h.fz⟩
theorem at_draws {w : World} {b off s size tap : Nat} (h : Poly8.At w b off s size tap) (q : Nat) : Poly8.At (w.drewN q) b off s size tap := ⟨h.c0, h.c1, h.c2, h.fz⟩
theorem DAt.lt {w : World} {b off i n : Nat} (h : DAt w b off i n) : b < w.heap.size := by
  have := h.c0
  by_cases hb : b < w.heap.size
  · exact hb
  · simp [World.cell?, Array.getElem?_eq_none (Nat.le_of_not_lt hb)] at this

set_option maxHeartbeats 400000 in
theorem By_yes (n : Nat) (w : World) (h1 : 1 ≤ n) (h2 : n ≤ 65536) :
    Calls Tryd.prog 42 #[.int .i64 (n : Int)] w fun e w' => ∃ b, e = .returned (.pointer (some ⟨b, 0, none⟩)) ∧ w.heap.size ≤ b ∧ DAt w' b 0 0 n ∧ Below w.heap.size w w' := by
  go_enter Tryd.func42, Tryd.ntmps42
  go_wp2
  go_ret
  have hh := heap_alloc_new w (.cells #[.int .i64 0, .int .i64 (n : Int)] 77)
  exact ⟨_, rfl, Nat.le_refl _, ⟨cell_of_row _ _ _ _ _ _ hh, cell_of_row _ _ _ _ _ _ hh, frozen_of_row _ _ _ _ _ hh⟩, (Below.refl _ w).alloc (Nat.le_refl _) _⟩

set_option maxHeartbeats 400000 in
theorem By_no (n : Int) (w : World) (h : ¬ (1 ≤ n ∧ n ≤ 65536)) :
    Calls Tryd.prog 42 #[.int .i64 n] w fun e w' => e = .returned (.pointer none) ∧ w' = w := by
  by_cases h1 : n < 1
  · go_enter Tryd.func42, Tryd.ntmps42
    go_wp2
    go_ret
    exact ⟨rfl, rfl⟩
  · have h2 : 65536 < n := by omega
    go_enter Tryd.func42, Tryd.ntmps42
    go_wp2
    go_ret
    exact ⟨rfl, rfl⟩

set_option maxHeartbeats 400000 in
theorem goRoundI_yes (i n : Int) (w : World) : Calls Tryd.prog 56 #[.int .i64 i, .int .i64 i, .int .i64 n] w fun e w' => e = .returned (.tuple #[.int .i64 0, .bool true]) ∧ w' = w := by
  go_enter Tryd.func56, Tryd.ntmps56
  go_wp2
  go_ret2
  exact ⟨rfl, rfl⟩

set_option maxHeartbeats 400000 in
theorem goRoundI_no (i l n : Int) (w : World) (h : (i == l) = false) : Calls Tryd.prog 56 #[.int .i64 i, .int .i64 l, .int .i64 n] w fun e w' => e = .returned (.tuple #[.int .i64 n, .bool false]) ∧ w' = w := by
  go_enter Tryd.func56, Tryd.ntmps56
  go_wp2
  go_ret2
  exact ⟨rfl, rfl⟩

set_option maxHeartbeats 400000 in
theorem goRoundB_yes (i n : Int) (w : World) : Calls Tryd.prog 58 #[.int .u8 i, .int .u8 i, .int .u8 n] w fun e w' => e = .returned (.tuple #[.int .u8 0, .bool true]) ∧ w' = w := by
  go_enter Tryd.func58, Tryd.ntmps58
  go_wp2
  go_ret2
  exact ⟨rfl, rfl⟩

set_option maxHeartbeats 400000 in
theorem goRoundB_no (i l n : Int) (w : World) (h : (i == l) = false) : Calls Tryd.prog 58 #[.int .u8 i, .int .u8 l, .int .u8 n] w fun e w' => e = .returned (.tuple #[.int .u8 n, .bool false]) ∧ w' = w := by
  go_enter Tryd.func58, Tryd.ntmps58
  go_wp2
  go_ret2
  exact ⟨rfl, rfl⟩

set_option maxHeartbeats 400000 in
theorem DCount_nil (w : World) : Calls Tryd.prog 48 #[.pointer none] w fun e w' => e = .returned (.int .i64 0) ∧ w' = w := by
  go_enter Tryd.func48, Tryd.ntmps48
  go_wp2
  go_ret
  exact ⟨rfl, rfl⟩

set_option maxHeartbeats 400000 in
theorem DTick_nil (w : World) : Calls Tryd.prog 45 #[.pointer none] w fun e w' => e = .returned (.bool false) ∧ w' = w := by
  go_enter Tryd.func45, Tryd.ntmps45
  go_wp2
  go_ret
  exact ⟨rfl, rfl⟩

set_option maxHeartbeats 400000 in
theorem DSet_nil (n : Int) (w : World) : Calls Tryd.prog 44 #[.pointer none, .int .i64 n] w fun e w' => e = .returned (.int .i64 1) ∧ w' = w := by
  go_enter Tryd.func44, Tryd.ntmps44
  go_wp2
  go_ret
  exact ⟨rfl, rfl⟩

set_option maxHeartbeats 400000 in
theorem DCount (b off i n : Nat) (w : World) (h : DAt w b off i n) : Calls Tryd.prog 48 #[.pointer (some ⟨b, off, none⟩)] w fun e w' => e = .returned (.int .i64 (i : Int)) ∧ w' = w := by
  obtain ⟨h0, h1, hf⟩ := h
  go_enter Tryd.func48, Tryd.ntmps48
  go_wp2
  go_ret
  exact ⟨rfl, rfl⟩

set_option maxHeartbeats 400000 in
theorem DSet (b off i n : Nat) (j : Int) (w : World) (h : DAt w b off i n) : Calls Tryd.prog 44 #[.pointer (some ⟨b, off, none⟩), .int .i64 j] w fun e w' =>
    e = .returned (.int .i64 (cntE n j)) ∧ DAt w' b off (cntS n i j) n ∧ Touch b off (off + 1) w w' := by
  have hD := h
  obtain ⟨h0, h1, hf⟩ := h
  by_cases hj0 : j < 0
  · have HE : Hid (cntE n j = 6 ∧ cntS n i j = i) := ⟨if_neg (by omega), if_neg (by omega)⟩
    go_enter Tryd.func44, Tryd.ntmps44
    go_wp2
    go_ret
    rw [HE.out.1, HE.out.2]
    exact ⟨rfl, hD, Touch.refl _ _ _ _⟩
  by_cases hj1 : (n : Int) ≤ j
  · have HE : Hid (cntE n j = 6 ∧ cntS n i j = i) := ⟨if_neg (by omega), if_neg (by omega)⟩
    go_enter Tryd.func44, Tryd.ntmps44
    go_wp2
    go_ret
    rw [HE.out.1, HE.out.2]
    exact ⟨rfl, hD, Touch.refl _ _ _ _⟩
  · obtain ⟨k, rfl⟩ := Int.eq_ofNat_of_zero_le (show 0 ≤ j by omega)
    have HE : Hid (cntE n (k : Int) = 0 ∧ cntS n i (k : Int) = k) := ⟨if_pos (by omega), if_pos (by omega)⟩
    go_enter Tryd.func44, Tryd.ntmps44
    go_wp2
    go_ret
    rw [HE.out.1, HE.out.2]
    exact ⟨rfl, hD.put k, Touch.setCell _ _ (by omega) (by omega)⟩

set_option maxRecDepth 100000 in
set_option maxHeartbeats 1000000 in
theorem DTick (b off i n : Nat) (w : World) (hi : i < n) (hn : n ≤ 65536) (h : DAt w b off i n) : Calls Tryd.prog 45 #[.pointer (some ⟨b, off, none⟩)] w fun e w' =>
    e = .returned (.bool (rndB i n)) ∧ DAt w' b off (rndN i n) n ∧ Touch b off (off + 1) w w' := by
  have HD : Hid (DAt w b off i n) := h
  obtain ⟨h0, h1, hf⟩ := h
  by_cases hl : i + 1 = n
  · have HR : Hid (rndN i n = 0 ∧ rndB i n = true) := rnd_last hl
    subst hl
    go_enter Tryd.func45, Tryd.ntmps45
    go_wp2
    go_quiet ((go_at_call 56; exact Calls.quiet_of_same (goRoundI_yes _ _ _)))
    go_wp2
    go_ret
    rw [HR.out.1, HR.out.2]
    exact ⟨rfl, (HD.out.draws nq).put 0, touch_draws (q := nq) (Touch.setCell _ _ (by omega) (by omega))⟩
  · have HR : Hid (rndN i n = i + 1 ∧ rndB i n = false) := rnd_not (by omega)
    have hb : ((i : Int) == (n : Int) - 1) = false := beq_eq_false_iff_ne.2 (by omega)
    go_enter Tryd.func45, Tryd.ntmps45
    go_wp2
    go_quiet ((go_at_call 56; exact Calls.quiet_of_same (goRoundI_no _ _ _ _ hb)))
    go_wp2
    go_ret
    rw [HR.out.1, HR.out.2]
    exact ⟨rfl, (HD.out.draws nq).put (i + 1), touch_draws (q := nq) (Touch.setCell _ _ (by omega) (by omega))⟩

/-! ### Counters -/

theorem good6 (i : Nat) : Poly8.Good 6 1 (orb 6 1 i 0) := Poly8.Good.orb ⟨by decide, by decide, by decide, by decide⟩ i

/-- The mark at i. -/
def mark (i : Nat) : Nat := orb 6 1 i 0
theorem mark_lt (i : Nat) : mark i < 64 := (good6 i).st
theorem mark_ne {i j : Nat} (hi : i < 63) (hj : j < 63) (h : i ≠ j) : mark i ≠ mark j := by
  rcases Nat.lt_or_gt_of_ne h with hl | hl
  · exact chip6.1.apart (by decide) (by decide) (by decide) hl hj
  · exact fun e => chip6.1.apart (by decide) (by decide) (by decide) hl hi e.symm
theorem mark_succ (i : Nat) : nxt 6 1 (mark i) = mark (i + 1) := rfl
theorem place_mark {i : Nat} (hi : i < 63) : plN 6 1 63 (mark i) = i := (place_first hi rfl (fun _ hj => chip6.1.apart (by decide) (by decide) (by decide) hj hi)).1

/-- A counter of n states at i lies at block b from cell off on. -/
structure CAt (w : World) (b off i n : Nat) : Prop where
  p : Poly8.At w b off (mark i) 6 1
  l : w.cell? ⟨b, off + 3, none⟩ = some (.int .u8 (mark (n - 1) : Int))
  i1 : i < n
  n1 : n ≤ 63

theorem CAt.below {w w' : World} {b off i n m : Nat} (h : CAt w b off i n) (hb : Below m w w') (hm : b < m) : CAt w' b off i n :=
  ⟨h.p.below hb hm, (hb.cell (p := ⟨b, off + 3, none⟩) hm).trans h.l, h.i1, h.n1⟩
theorem CAt.touch {w w' : World} {b off i n lo hi : Nat} (h : CAt w b off i n) (ht : Touch b lo hi w w') (hd : off + 4 ≤ lo ∨ hi ≤ off) : CAt w' b off i n :=
  ⟨h.p.touch ht (by omega), (ht.cell (off + 3) (by omega)).trans h.l, h.i1, h.n1⟩
theorem CAt.drew {w : World} {b off i n : Nat} (h : CAt w b off i n) : CAt w.drew b off i n := ⟨h.p.drew, h.l, h.i1, h.n1⟩
theorem CAt.lt {w : World} {b off i n : Nat} (h : CAt w b off i n) : b < w.heap.size := h.p.lt

set_option maxRecDepth 100000 in
set_option maxHeartbeats 1000000 in
/-- walk: from wherever its poly is. -/
theorem Walk (b off s i : Nat) (w : World) (hi : i ≤ 100) (h : Poly8.At w b off s 6 1) : Calls Tryd.prog 53 #[.pointer (some ⟨b, off, none⟩), .int .i64 (i : Int)] w fun e w' =>
    e = .returned (.tuple #[]) ∧ Poly8.At w' b off (mark i) 6 1 ∧ Touch b off (off + 1) w w' := by
  go_enter Tryd.func53, Tryd.ntmps53
  go_wp2_with (go_at_call 59; fail)
  refine (Poly8.SetT b off s 6 1 0 _ (good6 0) h).mono ?_
  rintro e w1 ⟨rfl, hA1, hT1⟩
  clear h
  go_wp2
  go_loopw [9] (fun v wr => ∃ k : Nat, k ≤ i ∧ v = .int .i64 (k : Int) ∧ Poly8.At wr b off (mark k) 6 1 ∧ Touch b off (off + 1) w wr) (fun v _ => i - (intOf v).toNat)
  case atStart => exact ⟨0, by omega, rfl, hA1, hT1⟩
  case round =>
    obtain ⟨k, hk, rfl, hAr, hTr⟩ := hrel
    have HA : Hid (Poly8.At wr b off (mark k) 6 1) := hAr
    have HT : Hid (Touch b off (off + 1) w wr) := hTr
    clear hAr hTr hA1 hT1
    by_cases hl : k < i
    · go_wp2_with (go_at_call 57; refine (Poly8.StepT b off (mark k) 6 1 _ (good6 k) HA.out).mono ?_; rintro e w2 ⟨rfl, hA2, hT2⟩)
      go_roundw
      case rel => exact ⟨k + 1, hl, by go_num, hA2, HT.out.trans hT2⟩
      case measure => simp [intOf]; omega
    · have hki : k = i := by omega
      subst hki
      go_wp2
      go_end0
      exact ⟨rfl, HA.out, HT.out⟩

set_option maxRecDepth 100000 in
set_option maxHeartbeats 1000000 in
theorem CountOf (b off s i : Nat) (w : World) (hi : i < 63) (h : Poly8.At w b off s 6 1) : Calls Tryd.prog 55 #[.pointer (some ⟨b, off, none⟩), .int .u8 (mark i : Int)] w fun e w' =>
    e = .returned (.int .i64 (i : Int)) ∧ Below w.heap.size w w' := by
  have hp := place_mark hi
  go_enter Tryd.func55, Tryd.ntmps55
  go_wp2_with (go_at_call 74; refine (Poly8.Place b off s 6 1 63 (mark i) _ (good6 0) chip6.1 h).mono ?_; rintro e w1 ⟨rfl, hb⟩)
  go_ret
  exact ⟨rfl, hb⟩

set_option maxRecDepth 100000 in
set_option maxHeartbeats 1000000 in
theorem CCount (b off i n : Nat) (w : World) (h : CAt w b off i n) : Calls Tryd.prog 47 #[.pointer (some ⟨b, off, none⟩)] w fun e w' => e = .returned (.int .i64 (i : Int)) ∧ Below w.heap.size w w' := by
  have hi : i < 63 := by have := h.i1; have := h.n1; omega
  have h0 := h.p.c0
  have H : Hid (CAt w b off i n) := h
  clear h
  go_enter Tryd.func47, Tryd.ntmps47
  go_wp2_with (first
    | (go_at_call 54; refine (Poly8.State b off (mark i) _ h0).mono ?_; rintro e w1 ⟨rfl, rfl⟩)
    | (go_at_call 55; refine (CountOf b off (mark i) i _ hi H.out.p).mono ?_; rintro e w1 ⟨rfl, hb⟩))
  go_ret
  exact ⟨rfl, hb⟩

set_option maxRecDepth 100000 in
set_option maxHeartbeats 1000000 in
theorem CSet (b off i n : Nat) (j : Int) (w : World) (h : CAt w b off i n) : Calls Tryd.prog 43 #[.pointer (some ⟨b, off, none⟩), .int .i64 j] w fun e w' =>
    e = .returned (.int .i64 (cntE n j)) ∧ CAt w' b off (cntS n i j) n ∧ Touch b off (off + 1) w w' := by
  have hi := h.i1
  have hn := h.n1
  have hl := h.l
  have H : Hid (CAt w b off i n) := h
  have hc : ((n - 1 : Nat) : Int) = (n : Int) - 1 := by omega
  clear h
  by_cases hj0 : j < 0
  · have HE : Hid (cntE n j = 6 ∧ cntS n i j = i) := ⟨if_neg (by omega), if_neg (by omega)⟩
    go_enter Tryd.func43, Tryd.ntmps43
    go_wp2
    go_ret
    rw [HE.out.1, HE.out.2]
    exact ⟨rfl, H.out, Touch.refl _ _ _ _⟩
  by_cases hj1 : (n : Int) - 1 < j
  · have HE : Hid (cntE n j = 6 ∧ cntS n i j = i) := ⟨if_neg (by omega), if_neg (by omega)⟩
    go_enter Tryd.func43, Tryd.ntmps43
    go_wp2_with (go_at_call 55; refine (CountOf b off (mark i) (n - 1) _ (by omega) H.out.p).mono ?_; rintro e w1 ⟨rfl, hb⟩)
    go_ret
    rw [HE.out.1, HE.out.2]
    exact ⟨rfl, H.out.below hb H.out.lt, Touch.of_below hb H.out.lt⟩
  · obtain ⟨k, rfl⟩ := Int.eq_ofNat_of_zero_le (show 0 ≤ j by omega)
    have HE : Hid (cntE n (k : Int) = 0 ∧ cntS n i (k : Int) = k) := ⟨if_pos (by omega), if_pos (by omega)⟩
    go_enter Tryd.func43, Tryd.ntmps43
    go_wp2_with (go_at_call 55; refine (CountOf b off (mark i) (n - 1) _ (by omega) H.out.p).mono ?_; rintro e w1 ⟨rfl, hb⟩)
    go_wp2_with (go_at_call 53; refine (Walk b off (mark i) k _ (by omega) (H.out.p.below hb H.out.lt)).mono ?_; rintro e w2 ⟨rfl, hA2, hT2⟩)
    go_ret
    rw [HE.out.1, HE.out.2]
    have hT : Touch b off (off + 1) w w2 := (Touch.of_below hb H.out.lt).trans hT2
    exact ⟨rfl, ⟨hA2, (hT.cell (off + 3) (by omega)).trans H.out.l, by omega, hn⟩, hT⟩

set_option maxRecDepth 100000 in
set_option maxHeartbeats 1000000 in
theorem CTick (b off i n : Nat) (w : World) (h : CAt w b off i n) : Calls Tryd.prog 46 #[.pointer (some ⟨b, off, none⟩)] w fun e w' =>
    e = .returned (.bool (rndB i n)) ∧ CAt w' b off (rndN i n) n ∧ Touch b off (off + 1) w w' := by
  have hi := h.i1
  have hn := h.n1
  have h0 := h.p.c0
  have H : Hid (CAt w b off i n) := h
  clear h
  go_enter Tryd.func46, Tryd.ntmps46
  go_wp2_with (first
    | (go_at_call 54; refine (Poly8.State b off (mark i) _ h0).mono ?_; rintro e w1 ⟨rfl, rfl⟩)
    | (go_at_call 57; refine (Poly8.StepT b off (mark i) 6 1 _ (good6 i) H.out.p).mono ?_; rintro e w2 ⟨rfl, hA2, hT2⟩))
  have s2 := hA2.c0
  have l2 : w2.cell? ⟨b, off + 3, none⟩ = some (.int .u8 (mark (n - 1) : Int)) := (hT2.cell (off + 3) (by omega)).trans H.out.l
  have HA2 : Hid (Poly8.At w2 b off (mark (i + 1)) 6 1) := hA2
  have HT2 : Hid (Touch b off (off + 1) _ w2) := hT2
  clear hA2 hT2 h0
  rw [mark_succ] at s2
  by_cases hl : i + 1 = n
  · have HR : Hid (rndN i n = 0 ∧ rndB i n = true) := rnd_last hl
    have l3 : w2.cell? ⟨b, off + 3, none⟩ = some (.int .u8 (mark i : Int)) := by rw [l2, show n - 1 = i from by omega]
    clear l2
    go_quiet ((first
      | (go_at_call 54; exact Calls.quiet_of_same (Poly8.State b off (mark (i + 1)) _ s2))
      | (go_at_call 58; exact Calls.quiet_of_same (goRoundB_yes _ _ _))))
    go_wp2_with (go_at_call 59; fail)
    refine (Poly8.SetT b off (mark (i + 1)) 6 1 0 _ (good6 0) (at_draws HA2.out nq)).mono ?_
    rintro e w3 ⟨rfl, hA3, hT3⟩
    go_wp2
    go_ret
    rw [HR.out.1, HR.out.2]
    have hT : Touch b off (off + 1) _ w3 := HT2.out.trans (touch_draws hT3)
    exact ⟨rfl, ⟨hA3, (hT.cell (off + 3) (by omega)).trans H.out.l, by omega, hn⟩, hT⟩
  · have HR : Hid (rndN i n = i + 1 ∧ rndB i n = false) := rnd_not (by omega)
    have hb : ((mark i : Int) == (mark (n - 1) : Int)) = false := beq_eq_false_iff_ne.2 (by have := mark_ne (i := i) (j := n - 1) (by omega) (by omega) (by omega); omega)
    go_quiet ((first
      | (go_at_call 54; exact Calls.quiet_of_same (Poly8.State b off (mark (i + 1)) _ s2))
      | (go_at_call 58; exact Calls.quiet_of_same (goRoundB_no _ _ _ _ hb))))
    go_wp2_with (go_at_call 59; fail)
    refine (Poly8.SetT b off (mark (i + 1)) 6 1 (mark (i + 1)) _ (good6 (i + 1)) (at_draws HA2.out nq)).mono ?_
    rintro e w3 ⟨rfl, hA3, hT3⟩
    go_wp2
    go_ret
    rw [HR.out.1, HR.out.2]
    have hT : Touch b off (off + 1) _ w3 := HT2.out.trans (touch_draws hT3)
    exact ⟨rfl, ⟨hA3, (hT.cell (off + 3) (by omega)).trans H.out.l, by omega, hn⟩, hT⟩

set_option maxRecDepth 100000 in
set_option maxHeartbeats 400000 in
theorem CTick_nil (w : World) : Calls Tryd.prog 46 #[.pointer none] w fun e w' => e = .returned (.bool false) ∧ w' = w := by
  go_enter Tryd.func46, Tryd.ntmps46
  go_wp2
  go_ret
  exact ⟨rfl, rfl⟩

set_option maxRecDepth 100000 in
set_option maxHeartbeats 400000 in
theorem CCount_nil (w : World) : Calls Tryd.prog 47 #[.pointer none] w fun e w' => e = .returned (.int .i64 0) ∧ w' = w := by
  go_enter Tryd.func47, Tryd.ntmps47
  go_wp2
  go_ret
  exact ⟨rfl, rfl⟩

set_option maxRecDepth 100000 in
set_option maxHeartbeats 400000 in
theorem CSet_nil (j : Int) (w : World) : Calls Tryd.prog 43 #[.pointer none, .int .i64 j] w fun e w' => e = .returned (.int .i64 1) ∧ w' = w := by
  go_enter Tryd.func43, Tryd.ntmps43
  go_wp2
  go_ret
  exact ⟨rfl, rfl⟩

set_option maxHeartbeats 400000 in
theorem Of_no (n : Int) (w : World) (h : ¬ (1 ≤ n ∧ n ≤ 63)) : Calls Tryd.prog 41 #[.int .i64 n] w fun e w' => e = .returned (.pointer none) ∧ w' = w := by
  by_cases h1 : n < 1
  · go_enter Tryd.func41, Tryd.ntmps41
    go_wp2
    go_ret
    exact ⟨rfl, rfl⟩
  · have h2 : 63 < n := by omega
    go_enter Tryd.func41, Tryd.ntmps41
    go_wp2
    go_ret
    exact ⟨rfl, rfl⟩

set_option maxRecDepth 100000 in
set_option maxHeartbeats 1000000 in
theorem Of_yes (n : Nat) (w : World) (h1 : 1 ≤ n) (h2 : n ≤ 63) : Calls Tryd.prog 41 #[.int .i64 (n : Int)] w fun e w' =>
    ∃ b, e = .returned (.pointer (some ⟨b, 0, none⟩)) ∧ w.heap.size ≤ b ∧ CAt w' b 0 0 n ∧ Below w.heap.size w w' := by
  go_enter Tryd.func41, Tryd.ntmps41
  go_wp2_with (go_at_call 52; fail)
  refine (Poly8.New 6 1 _ (by decide) (by decide) (by decide)).mono ?_
  rintro e w1 ⟨b0, rfl, hb0, hA0, hB0⟩
  obtain ⟨h0, h1', h2', h3'⟩ := hA0
  have hA2 := heap_alloc_new w1 (.cells #[.int .u8 0, .int .u8 6, .int .u8 1, .int .u8 0] 73)
  have hB2 : Below w.heap.size w (w1.alloc (.cells #[.int .u8 0, .int .u8 6, .int .u8 1, .int .u8 0] 73)) := hB0.alloc hB0.size _
  obtain ⟨w2, hw2⟩ : ∃ w2, w1.alloc (.cells #[.int .u8 0, .int .u8 6, .int .u8 1, .int .u8 0] 73) = w2 := ⟨_, rfl⟩
  rw [hw2] at hA2 hB2
  have HP2 : Hid (Poly8.At w2 w1.heap.size 0 0 6 1) := ⟨cell_of_row _ _ _ _ _ _ hA2, cell_of_row _ _ _ _ _ _ hA2, cell_of_row _ _ _ _ _ _ hA2, frozen_of_row _ _ _ _ _ hA2⟩
  have HL2 : Hid (w2.cell? ⟨w1.heap.size, 3, none⟩ = some (.int .u8 0) ∧ w2.frozen? ⟨w1.heap.size, 3, none⟩ = false) := ⟨cell_of_row _ _ _ _ _ _ hA2, frozen_of_row _ _ _ _ _ hA2⟩
  have HB2 : Hid (Below w.heap.size w w2) := hB2
  have hsz := hB0.size
  clear hA2 hB2 hB0 hb0
  go_wp2_with (go_at_call 53; fail)
  clear hw2 h0 h1' h2' h3'
  rw [show ((n : Int) - 1) = ((n - 1 : Nat) : Int) from by omega]
  refine (Walk w1.heap.size 0 0 (n - 1) _ (by omega) HP2.out).mono ?_
  rintro e w3 ⟨rfl, hA3, hT3⟩
  have s3 := hA3.c0
  have l3 : w3.cell? ⟨w1.heap.size, 3, none⟩ = some (.int .u8 0) := (hT3.cell 3 (by omega)).trans HL2.out.1
  have f3 : w3.frozen? ⟨w1.heap.size, 3, none⟩ = false := (hT3.fz 3).trans HL2.out.2
  have HA3 : Hid (Poly8.At w3 w1.heap.size 0 (mark (n - 1)) 6 1) := hA3
  have HT3 : Hid (Touch w1.heap.size 0 4 w2 w3) := hT3.mono (by omega) (by omega)
  clear hA3 hT3
  go_wp2_with (go_at_call 54; refine (Poly8.State w1.heap.size 0 (mark (n - 1)) _ s3).mono ?_; rintro e w4 ⟨rfl, rfl⟩)
  go_wp2_with (go_at_call 53; fail)
  have HT4 : Hid (Touch w1.heap.size 3 4 w4 (w4.setCell ⟨w1.heap.size, 3, none⟩ (.int .u8 (mark (n - 1) : Int)))) := Touch.setCell _ _ (by omega) (by omega)
  have l4 : (w4.setCell ⟨w1.heap.size, 3, none⟩ (.int .u8 (mark (n - 1) : Int))).cell? ⟨w1.heap.size, 3, none⟩ = some (.int .u8 (mark (n - 1) : Int)) := World.cell?_setCell_same' _ _ _ (by rw [l3]; rfl)
  refine (Walk w1.heap.size 0 (mark (n - 1)) 0 _ (by omega) (HA3.out.touch HT4.out (by omega))).mono ?_
  rintro e w5 ⟨rfl, hA5, hT5⟩
  go_wp2
  go_ret
  refine ⟨_, rfl, hsz, ⟨hA5, (hT5.cell 3 (by omega)).trans l4, by omega, h2⟩, ?_⟩
  have hT : Touch w1.heap.size 0 4 w2 w5 := (HT3.out.trans (HT4.out.mono (by omega) (by omega))).trans (hT5.mono (by omega) (by omega))
  exact HB2.out.trans (hT.below hsz HB2.out.size)

end Go.Proofs.YtienmoannnhhmaaDoor.Count
