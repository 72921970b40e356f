/- PolyPlaces, walked: whatever comes in, true comes out. -/
import Derived.Test.YthepjdccoidkfaaRing16
import Derived.Test.YthepjdccoidkfaaAwakeOne
import Derived.Test.YthepjdccoidkfaaRefPlace
namespace Go.Proofs.Ythepjdccoidkfaa.polyPlaces
open Go.RowKit

/-- What the law holds: the poly, the argument's box, and nothing old turned. -/
structure Bun (W w : World) (b size tap q s : Nat) (n : Int) : Prop where
  c : Poly16.At w b 0 q size tap
  x : w.heap[W.heap.size]? = some (.cells #[.int .i64 (size : Int), .int .i64 (tap : Int), .int .u16 (s : Int), .int .i64 n] 39 (0, 0))
  bl : Below W.heap.size W w
theorem Bun.same {W w w' : World} {b size tap q s : Nat} {n : Int} (h : Bun W w b size tap q s n) (h1 : w'.heap = w.heap) (h2 : w'.os = w.os) (h3 : w'.tape = w.tape) (h4 : w'.output = w.output) : Bun W w' b size tap q s n := by
  have hb : Below (b + 1) w w' := ⟨h2, h3, h4, by rw [h1]; exact Nat.le_refl _, fun k _ => by rw [h1]⟩
  exact ⟨h.c.below hb (by omega), by rw [h1]; exact h.x, ⟨h2.trans h.bl.os, h3.trans h.bl.tape, h4.trans h.bl.output, by rw [h1]; exact h.bl.size, fun k hk => by rw [h1]; exact h.bl.block k hk⟩⟩
theorem Bun.below {W w w' : World} {b size tap q s : Nat} {n : Int} (h : Bun W w b size tap q s n) (hb : Below w.heap.size w w') : Bun W w' b size tap q s n :=
  ⟨h.c.below hb h.c.lt, (hb.block _ (lt_of_block h.x)).trans h.x, h.bl.trans (hb.mono h.bl.size)⟩

theorem periodK {size tap s b : Nat} {n : Int} {W : World} (w : World) (p : Nat) (hG : Poly16.Good size tap s) (hp : IsPer size tap s p) (h : Bun W w b size tap s s n) :
    Calls Try.prog 26 #[.pointer (some ⟨b, 0, none⟩)] w fun e w' => e = .returned (.int .i64 (p : Int)) ∧ Bun W w' b size tap s s n := by
  refine (Poly16.Period b 0 s size tap p w hG hp h.c).mono ?_
  rintro e w' ⟨rfl, hb⟩
  exact ⟨rfl, h.below hb⟩
theorem refPeriodK {size tap s b : Nat} {n : Int} {W : World} (w : World) (p : Nat) (h1 : 1 ≤ tap) (h2 : tap < size) (h3 : size ≤ 16) (hs : s < 2 ^ size) (hp : IsPer size tap s p) (h : Bun W w b size tap s s n) :
    Calls Try.prog 31 #[.int .i64 (size : Int), .int .i64 (tap : Int), .int .i64 (s : Int)] w fun e w' => e = .returned (.int .i64 (p : Int)) ∧ Bun W w' b size tap s s n := by
  refine (Ref1.Period size tap s p w h1 h2 h3 hs hp).mono ?_
  rintro e w' ⟨rfl, hb⟩
  exact ⟨rfl, h.below hb⟩
theorem awakeK {q : Nat} {size tap s b : Nat} {n : Int} {W : World} (w : World) (h : Bun W w b size tap q s n) :
    Calls Try.prog 20 #[] w fun e w' => e = .returned (.bool true) ∧ Bun W w' b size tap q s n := by
  refine (awake1 w).mono ?_
  rintro e w' ⟨rfl, hb⟩
  exact ⟨rfl, h.below hb⟩
theorem fits (c : Bool) (size s : Nat) (w : World) (h : size ≤ 40) (hc : decide (s < 2 ^ size) = c) :
    Calls Try.prog 21 #[.int .i64 (size : Int), .int .i64 (s : Int)] w fun e w' => e = .returned (.bool c) ∧ w' = w := by
  subst hc
  exact Ref1.Fits size s w h

/-- Place, by name. -/
def PlaceIs (size tap s n : Nat) (B : Bool) : Prop := ∀ (b : Nat) (w : World), Poly16.At w b 0 0 size tap → Calls Try.prog 29 #[.pointer (some ⟨b, 0, none⟩), .int .u16 (s : Int)] w fun e w' => e = .returned (.tuple #[.int .i64 (n : Int), .bool B]) ∧ Below w.heap.size w w'
/-- The document's Place, by name. -/
def RefIs (size tap s : Nat) (r : Int) : Prop := ∀ w : World, Calls Try.prog 30 #[.int .i64 (size : Int), .int .i64 (tap : Int), .int .i64 (s : Int)] w fun e w' => e = .returned (.int .i64 r) ∧ Below w.heap.size w w'

theorem place_is (size tap s p n : Nat) (B : Bool) (h1 : 1 ≤ tap) (h2 : tap < size) (h3 : size ≤ 16) (hp : IsPer size tap 0 p) (h : plN size tap p s = n ∧ plB size tap p s = B) : PlaceIs size tap s n B := by
  intro b w hA
  obtain ⟨rfl, rfl⟩ := h
  exact Poly16.Place b 0 0 size tap p s w ⟨h1, h2, h3, Nat.two_pow_pos _⟩ hp hA

/-- Either it comes, and both say where, or it never does, and both say so. -/
theorem both (size tap s : Nat) (h1 : 1 ≤ tap) (h2 : tap < size) (h3 : size ≤ 16) :
    ∃ (n : Nat) (B : Bool) (r : Int), PlaceIs size tap s n B ∧ RefIs size tap s r ∧ (n ≤ 65536) ∧ ((B = true ∧ r = n ∧ s < 2 ^ size) ∨ (B = false ∧ n = 0 ∧ r = -1)) := by
  obtain ⟨p, hp⟩ := isPer (size := size) (tap := tap) (s := 0) h1 h2 (Nat.two_pow_pos _)
  have hpp : p ≤ 65536 := Nat.le_trans hp.le (Nat.pow_le_pow_right (n := 2) (by omega) h3)
  by_cases hc : ∃ q, q < p ∧ orb size tap q 0 = s
  · obtain ⟨q, hq⟩ := hc
    obtain ⟨k, _, ⟨hk, he⟩, hn⟩ := least (fun q => q < p ∧ orb size tap q 0 = s) q hq
    have hn' : ∀ j, j < k → orb size tap j 0 ≠ s := fun j hj e => hn j hj ⟨by omega, e⟩
    refine ⟨k, true, k, place_is size tap s p k true h1 h2 h3 hp (place_first hk he hn'), fun w => Ref1.Place_yes size tap s p k w h1 h2 h3 (Nat.two_pow_pos _) hp hk he hn', by omega, .inl ⟨rfl, rfl, ?_⟩⟩
    rw [← he]
    exact orb_lt (by omega) (Nat.two_pow_pos _) k
  · have hn : ∀ j, j < p → orb size tap j 0 ≠ s := fun j hj e => hc ⟨j, hj, e⟩
    refine ⟨0, false, -1, place_is size tap s p 0 false h1 h2 h3 hp (place_no fun y hy => ?_), fun w => Ref1.Place_no size tap s p w h1 h2 h3 (Nat.two_pow_pos _) hp hn, by omega, .inr ⟨rfl, rfl, rfl⟩⟩
    obtain ⟨j, hj, rfl⟩ : ∃ j, j < p ∧ orb size tap j 0 = y := by simpa [ring] using hy
    exact hn j hj

set_option maxRecDepth 100000 in
set_option maxHeartbeats 1000000 in
theorem great (size tap s n : Int) (W : World) (hn : 9 < size) :
    Calls Try.prog 5 #[.agg #[.int .i64 size, .int .i64 tap, .int .u16 s, .int .i64 n]] W fun e w' => e = .returned (.bool true) ∧ Below W.heap.size W w' := by
  go_enter Try.func5, Try.ntmps5
  go_wp2
  go_ret
  exact ⟨rfl, (Below.refl _ W).alloc (Nat.le_refl _) _⟩

set_option maxRecDepth 100000 in
set_option maxHeartbeats 1000000 in
theorem bad (size tap s n : Int) (W : World) (hn : size ≤ 9) (hv : ¬ (2 ≤ size ∧ size ≤ 16 ∧ 1 ≤ tap ∧ tap < size)) :
    Calls Try.prog 5 #[.agg #[.int .i64 size, .int .i64 tap, .int .u16 s, .int .i64 n]] W fun e w' => e = .returned (.bool true) ∧ Below W.heap.size W w' := by
  have X0 : Hid ((W.alloc (.cells #[.int .i64 size, .int .i64 tap, .int .u16 s, .int .i64 n] 39)).heap[W.heap.size]? = some (.cells #[.int .i64 size, .int .i64 tap, .int .u16 s, .int .i64 n] 39 (0, 0))) := heap_alloc_new W _
  go_enter Try.func5, Try.ntmps5
  go_wp2_with (first
    | (go_at_call 24; refine (Poly16.New_no size tap _ hv).mono ?_; rintro e w1 ⟨rfl, rfl⟩)
    | (go_at_call 29; fail))
  refine (Poly16.Place_nil s _).mono ?_
  rintro e w2 ⟨rfl, hb2⟩
  obtain ⟨x0, x1, x2, x3⟩ := cell4 ((hb2.block W.heap.size (by simp)).trans X0.out)
  have HB2 : Hid (Below W.heap.size W w2) := ((Below.refl _ W).alloc (Nat.le_refl _) _).trans (hb2.mono (by simp))
  clear hb2 X0
  go_wp2_with (first
    | (go_at_call 16; refine (Ref1.Right_no 16 size tap _ (by omega) hv).mono ?_; rintro e w1 ⟨rfl, rfl⟩)
    | (go_at_call 20; refine (awake1 _).mono ?_; rintro e w3 ⟨rfl, hb⟩))
  go_ret
  exact ⟨rfl, HB2.out.trans (hb.mono HB2.out.size)⟩

set_option maxRecDepth 100000 in
set_option maxHeartbeats 1000000 in
theorem wide (size tap s : Nat) (n : Int) (W : World) (h0 : size ≤ 9) (h1 : 1 ≤ tap) (h2 : tap < size) (hs : 2 ^ size ≤ s) (hs8 : s ≤ 65535) :
    Calls Try.prog 5 #[.agg #[.int .i64 (size : Int), .int .i64 (tap : Int), .int .u16 (s : Int), .int .i64 n]] W fun e w' => e = .returned (.bool true) ∧ Below W.heap.size W w' := by
  have X0 : Hid ((W.alloc (.cells #[.int .i64 (size : Int), .int .i64 (tap : Int), .int .u16 (s : Int), .int .i64 n] 39)).heap[W.heap.size]? = some (.cells #[.int .i64 (size : Int), .int .i64 (tap : Int), .int .u16 (s : Int), .int .i64 n] 39 (0, 0))) := heap_alloc_new W _
  obtain ⟨k, B, r, hP, _, _, hc⟩ := both size tap s h1 h2 (by omega)
  obtain ⟨rfl, rfl⟩ : B = false ∧ k = 0 := by
    rcases hc with ⟨_, _, h⟩ | ⟨h, h', _⟩
    · omega
    · exact ⟨h, h'⟩
  have HP : Hid (PlaceIs size tap s 0 false) := hP
  have HS : Hid (2 ^ size ≤ s) := hs
  clear hs hc hP
  go_enter Try.func5, Try.ntmps5
  go_wp2_with (go_at_call 24; fail)
  refine (Poly16.New size tap _ h1 h2 (by omega)).mono ?_
  rintro e w1 ⟨b, rfl, hbl, hA, hB⟩
  have X1 : Hid (w1.heap[W.heap.size]? = some (.cells #[.int .i64 (size : Int), .int .i64 (tap : Int), .int .u16 (s : Int), .int .i64 n] 39 (0, 0))) := (hB.block W.heap.size (by simp)).trans X0.out
  obtain ⟨x0, x1, x2, x3⟩ := cell4 X1.out
  have hbW : W.heap.size < b := by simp at hbl; omega
  have HB : Hid (Bun W w1 b size tap 0 s n) := ⟨hA, X1.out, ((Below.refl _ W).alloc (Nat.le_refl _) _).trans (hB.mono (by simp))⟩
  clear hA hB hbl X0 X1
  go_wp2_with (go_at_call 29; fail)
  refine (HP.out b _ HB.out.c).mono ?_
  rintro e w2 ⟨rfl, hb2⟩
  have HB2 : Hid (Bun W w2 b size tap 0 s n) := HB.out.below hb2
  clear hb2 HB x0 x1 x2 x3
  obtain ⟨x0, x1, x2, x3⟩ := cell4 HB2.out.x
  go_wp2_with (first
    | (go_at_call 16; refine (Ref1.Right_yes 16 size tap _ (by omega) (by omega) (by omega) (by omega) (by omega)).mono ?_; rintro e w3 ⟨rfl, rfl⟩)
    | (go_at_call 21; refine (fits false size s _ (by omega) (decide_eq_false (by have := HS.out; omega))).mono ?_; rintro e w3 ⟨rfl, rfl⟩)
    | (go_at_call 27; refine (Poly16.Set_no b 0 0 size tap s _ (by omega) HS.out HB2.out.c).mono ?_; rintro e w3 ⟨rfl, rfl⟩)
    | (go_at_call 20; refine (awakeK (W := W) (q := 0) (size := size) (tap := tap) (s := s) (n := n) (b := b) _ HB2.out).mono ?_; rintro e w9 ⟨rfl, hB9⟩))
  go_ret
  exact ⟨rfl, hB9.bl⟩

set_option maxRecDepth 100000 in
set_option maxHeartbeats 1000000 in
theorem good (size tap s : Nat) (n : Int) (W : World) (h0 : size ≤ 9) (h1 : 1 ≤ tap) (h2 : tap < size) (hs : s < 2 ^ size) (hs8 : s ≤ 65535) :
    Calls Try.prog 5 #[.agg #[.int .i64 (size : Int), .int .i64 (tap : Int), .int .u16 (s : Int), .int .i64 n]] W fun e w' => e = .returned (.bool true) ∧ Below W.heap.size W w' := by
  have X0 : Hid ((W.alloc (.cells #[.int .i64 (size : Int), .int .i64 (tap : Int), .int .u16 (s : Int), .int .i64 n] 39)).heap[W.heap.size]? = some (.cells #[.int .i64 (size : Int), .int .i64 (tap : Int), .int .u16 (s : Int), .int .i64 n] 39 (0, 0))) := heap_alloc_new W _
  obtain ⟨k, B, r, hP, hR, hk, hc⟩ := both size tap s h1 h2 (by omega)
  obtain ⟨p, hp⟩ := isPer (size := size) (tap := tap) (s := s) h1 h2 hs
  have HPer : Hid (IsPer size tap s p) := hp
  have HP : Hid (PlaceIs size tap s k B) := hP
  have HR : Hid (RefIs size tap s r) := hR
  have HS : Hid (s < 2 ^ size) := hs
  have hG : Hid (Poly16.Good size tap s) := ⟨h1, h2, by omega, hs⟩
  have es : IntKind.i64.wrap (s : Int) = (s : Int) := IntWalk.i64_in _ (by omega)
  have ep : ((p : Int) == (p : Int)) = true := by simp
  clear hP hR hs hp
  rcases hc with ⟨rfl, rfl, _⟩ | ⟨rfl, rfl, rfl⟩
  all_goals
    go_enter Try.func5, Try.ntmps5
    go_wp2_with (go_at_call 24; fail)
    refine (Poly16.New size tap _ h1 h2 (by omega)).mono ?_
    rintro e w1 ⟨b, rfl, hbl, hA, hB⟩
    have hbW : W.heap.size < b := by simp at hbl; omega
    have HB : Hid (Bun W w1 b size tap 0 s n) := ⟨hA, (hB.block W.heap.size (by simp)).trans X0.out, ((Below.refl _ W).alloc (Nat.le_refl _) _).trans (hB.mono (by simp))⟩
    obtain ⟨x0, x1, x2, x3⟩ := cell4 HB.out.x
    clear hA hB hbl X0
    go_wp2_with (go_at_call 29; fail)
    refine (HP.out b _ HB.out.c).mono ?_
    rintro e w2 ⟨rfl, hb2⟩
    have HB2 : Hid (Bun W w2 b size tap 0 s n) := HB.out.below hb2
    clear hb2 HB x0 x1 x2 x3
    obtain ⟨x0, x1, x2, x3⟩ := cell4 HB2.out.x
    go_wp2_with (first
      | (go_at_call 16; refine (Ref1.Right_yes 16 size tap _ (by omega) (by omega) (by omega) (by omega) (by omega)).mono ?_; rintro e w3 ⟨rfl, rfl⟩)
      | (go_at_call 21; refine (fits true size s _ (by omega) (decide_eq_true HS.out)).mono ?_; rintro e w3 ⟨rfl, rfl⟩)
      | (go_at_call 30; fail))
    refine (HR.out _).mono ?_
    rintro e w3 ⟨rfl, hb3⟩
    have HB3 : Hid (Bun W w3 b size tap 0 s n) := HB2.out.below hb3
    clear hb3 HB2 x0 x1 x2 x3
    obtain ⟨x0, x1, x2, x3⟩ := cell4 HB3.out.x
    try have hk0 : (0 : Int) ≤ (k : Int) := by omega
    go_wp2_with (go_at_call 27; fail)
    refine (Poly16.Set b 0 0 size tap s _ h1 h2 (by omega) HB3.out.c).mono ?_
    rintro e w4 ⟨rfl, hA4, hO4⟩
    have hE : setE size s = 0 := setE_yes HS.out
    rw [setS_yes HS.out] at hA4
    have HB4 : Hid (Bun W w4 b size tap s s n) := ⟨hA4, (hO4.block _ (by omega)).trans HB3.out.x, HB3.out.bl.trans (hO4.below (by omega))⟩
    clear hA4 hO4 HB3 x0 x1 x2 x3
    obtain ⟨x0, x1, x2, x3⟩ := cell4 HB4.out.x
    go_wp2
    go_region_held3 (fun w' => w'.cell? ⟨W.heap.size, 0, none⟩ = some (.int .i64 (size : Int)) ∧ w'.cell? ⟨W.heap.size, 1, none⟩ = some (.int .i64 (tap : Int)) ∧ w'.cell? ⟨W.heap.size, 2, none⟩ = some (.int .u16 (s : Int))) (first | exact ⟨by assumption, by assumption, by assumption⟩ | go_keep) (first
      | (go_at_call 26; refine (periodK (W := W) (n := n) _ p hG.out HPer.out (by first | assumption | exact HB4.out.same rfl rfl rfl rfl)).mono ?_; rintro e w5 ⟨rfl, hB5⟩; obtain ⟨y50, y51, y52, y53⟩ := cell4 hB5.x)
      | (go_at_call 31; refine (refPeriodK (W := W) (b := b) (n := n) _ p h1 h2 (by omega) HS.out HPer.out (by first | assumption | exact HB4.out.same rfl rfl rfl rfl)).mono ?_; rintro e w6 ⟨rfl, hB6⟩; obtain ⟨y60, y61, y62, y63⟩ := cell4 hB6.x)
      | (go_at_call 20; refine (awakeK (W := W) (q := s) (size := size) (tap := tap) (s := s) (n := n) (b := b) _ (by first | assumption | exact HB4.out.same rfl rfl rfl rfl)).mono ?_; rintro e w9 ⟨rfl, hB9⟩; obtain ⟨y90, y91, y92, y93⟩ := cell4 hB9.x))
    all_goals
      go_wp2
      go_ret
      exact ⟨rfl, hB9.bl⟩

theorem walk (a0_0 a0_1 a0_2 a0_3 : Int) (_ : (Lit.int .i64 a0_0).wf = true) (_ : (Lit.int .i64 a0_1).wf = true) (w2 : (Lit.int .u16 a0_2).wf = true) (_ : (Lit.int .i64 a0_3).wf = true) (W : World) :
    Calls Try.prog 5 #[.agg #[.int .i64 a0_0, .int .i64 a0_1, .int .u16 a0_2, .int .i64 a0_3]] W fun e w' => e = .returned (.bool true) ∧ Below W.heap.size W w' := by
  by_cases hn : 9 < a0_0
  · exact great _ _ _ _ W hn
  by_cases hv : 2 ≤ a0_0 ∧ a0_0 ≤ 16 ∧ 1 ≤ a0_1 ∧ a0_1 < a0_0
  · have hb := bounds_u16 w2
    obtain ⟨k, rfl⟩ := Int.eq_ofNat_of_zero_le (show 0 ≤ a0_0 by omega)
    obtain ⟨t, rfl⟩ := Int.eq_ofNat_of_zero_le (show 0 ≤ a0_1 by omega)
    obtain ⟨s, rfl⟩ := Int.eq_ofNat_of_zero_le (show 0 ≤ a0_2 by omega)
    by_cases hs : s < 2 ^ k
    · exact good k t s a0_3 W (by omega) (by omega) (by omega) hs (by omega)
    · exact wide k t s a0_3 W (by omega) (by omega) (by omega) (by omega) (by omega)
  · exact bad _ _ _ _ W (by omega) hv

end Go.Proofs.Ythepjdccoidkfaa.polyPlaces
