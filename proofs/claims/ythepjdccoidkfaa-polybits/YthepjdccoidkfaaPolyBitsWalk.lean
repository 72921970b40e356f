/- PolyBits, walked: whatever comes in, true comes out. -/
import Derived.Test.YthepjdccoidkfaaBits16
import Derived.Test.YthepjdccoidkfaaRing16
import Derived.Test.YthepjdccoidkfaaAwakeOne
import Derived.Test.YthepjdccoidkfaaRefState
namespace Go.Proofs.Ythepjdccoidkfaa.polyBits
open Go.RowKit

/-- The first n bits that fall out, as numbers. -/
def nums (size tap s : Nat) (n : Int) : List Int := (List.range n.toNat).map fun i => Ref1.bitAt size tap s i

/-- The bytes v hold str, in w and in whatever w grows to. -/
def Str (w : World) (v : Value) (str : ByteArray) : Prop := ∀ w', Below w.heap.size w w' → ∀ dst, Try.prog.underlying dst = some .string → (convert 32 dst v).run Try.prog w' = .ok (.string str) w'

theorem cell_lt {w : World} {b o : Nat} {v : Value} (h : w.cell? ⟨b, o, none⟩ = some v) : b < w.heap.size := by
  by_cases hb : b < w.heap.size
  · exact hb
  · simp [World.cell?, Array.getElem?_eq_none (Nat.le_of_not_lt hb)] at h

theorem strNil (w : World) (size tap s : Nat) (n : Int) (hn : n.toNat = 0) : Str w (.slice none 0 0) (strOfNums (nums size tap s n)) := by
  intro w' _ dst hd
  have := run_convert_bytes_nil (P := Try.prog) w' 32 5 Try.underlying32 Try.underlying5 0 0 dst hd
  rw [this]
  unfold nums
  rw [hn]
  rfl

theorem strRow {w : World} {g : Nat} (size tap s n cap : Nat) (h : ∀ i, i < n → w.cell? ⟨g, i, none⟩ = some (.int .u8 (Ref1.bitAt size tap s i))) : Str w (.slice (some ⟨g, 0, none⟩) n cap) (strOfNums (nums size tap s (n : Int))) := by
  intro w' hb dst hd
  refine run_convert_bytes_arg (P := Try.prog) w' 32 5 Try.underlying32 Try.underlying5 g 0 n cap (nums size tap s (n : Int)) (by simp [nums]) (fun i hi => ?_) dst hd
  have hc := h i hi
  rw [Nat.zero_add, hb.cell (p := ⟨g, i, none⟩) (cell_lt hc), hc]
  simp [nums, List.getD, hi]

/-- What the law holds: the poly, the argument's box, and nothing old turned. -/
structure Bun (W w : World) (b size tap s : Nat) (n : Int) : Prop where
  c : Poly16.At w b 0 s size tap
  x : w.heap[W.heap.size]? = some (.cells #[.int .i64 (size : Int), .int .i64 (tap : Int), .int .u16 (s : Int), .int .i64 n] 39 (0, 0))
  bl : Below W.heap.size W w
theorem Bun.same {W w w' : World} {b size tap s : Nat} {n : Int} (h : Bun W w b size tap s n) (h1 : w'.heap = w.heap) (h2 : w'.os = w.os) (h3 : w'.tape = w.tape) (h4 : w'.output = w.output) : Bun W w' b size tap s n := by
  have hb : Below (b + 1) w w' := ⟨h2, h3, h4, by rw [h1]; exact Nat.le_refl _, fun k _ => by rw [h1]⟩
  exact ⟨h.c.below hb (by omega), by rw [h1]; exact h.x, ⟨h2.trans h.bl.os, h3.trans h.bl.tape, h4.trans h.bl.output, by rw [h1]; exact h.bl.size, fun k hk => by rw [h1]; exact h.bl.block k hk⟩⟩
theorem Bun.below {W w w' : World} {b size tap s : Nat} {n : Int} (h : Bun W w b size tap s n) (hb : Below w.heap.size w w') : Bun W w' b size tap s n :=
  ⟨h.c.below hb h.c.lt, (hb.block _ (lt_of_block h.x)).trans h.x, h.bl.trans (hb.mono h.bl.size)⟩

theorem bitsK {size tap s b : Nat} {n : Int} {str : ByteArray} {W : World} (w : World) (hG : Poly16.Good size tap s) (hn : n ≤ 600) (hs : str = strOfNums (nums size tap s n)) (h : Bun W w b size tap s n) :
    Calls Try.prog 25 #[.pointer (some ⟨b, 0, none⟩), .int .i64 n] w fun e w' => ∃ v, e = .returned v ∧ Str w' v str ∧ Bun W w' b size tap s n ∧ Below w.heap.size w w' := by
  subst hs
  by_cases h0 : n < 0
  · refine (Poly16.Bits_no b 0 n w h0).mono ?_
    rintro e w' ⟨rfl, rfl⟩
    exact ⟨_, rfl, strNil _ _ _ _ _ (by omega), h, Below.refl _ _⟩
  · obtain ⟨k, rfl⟩ := Int.eq_ofNat_of_zero_le (show 0 ≤ n by omega)
    refine (Poly16.Bits_yes b 0 s size tap k w hG h.c (by omega)).mono ?_
    rintro e w' ⟨rfl, hc, hb⟩
    exact ⟨_, rfl, strRow size tap s k k hc, h.below hb, hb⟩

set_option maxRecDepth 100000 in
set_option maxHeartbeats 1000000 in
theorem Row_no (size tap s n : Int) (w : World) (hn : n < 0) :
    Calls Try.prog 22 #[.int .i64 size, .int .i64 tap, .int .i64 s, .int .i64 n] w fun e w' => e = .returned (.slice none 0 0) ∧ w' = w := by
  go_enter Try.func22, Try.ntmps22
  go_wp2
  go_loopw [9, 10] (fun v i wr => v = .slice none 0 0 ∧ i = .int .i64 0 ∧ wr = w) (fun _ _ _ => 0)
  case atStart => exact ⟨rfl, rfl, rfl⟩
  case round =>
    obtain ⟨rfl, rfl, rfl⟩ := hrel
    go_wp2
    go_ret
    exact ⟨rfl, rfl⟩

theorem rowK {size tap s b : Nat} {n : Int} {str : ByteArray} {W : World} (w : World) (h1 : 1 ≤ tap) (h2 : tap < size) (h3 : size ≤ 16) (hs : s < 2 ^ size) (hn : n ≤ 600) (hstr : str = strOfNums (nums size tap s n)) (h : Bun W w b size tap s n) :
    Calls Try.prog 22 #[.int .i64 (size : Int), .int .i64 (tap : Int), .int .i64 (s : Int), .int .i64 n] w fun e w' => ∃ v, e = .returned v ∧ Str w' v str ∧ Bun W w' b size tap s n ∧ Below w.heap.size w w' := by
  subst hstr
  by_cases h0 : n < 0
  · refine (Row_no _ _ _ n w h0).mono ?_
    rintro e w' ⟨rfl, rfl⟩
    exact ⟨_, rfl, strNil _ _ _ _ _ (by omega), h, Below.refl _ _⟩
  · obtain ⟨k, rfl⟩ := Int.eq_ofNat_of_zero_le (show 0 ≤ n by omega)
    refine (Ref1.Row size tap s k w h1 h2 h3 hs (by omega)).mono ?_
    rintro e w' ⟨v, rfl, hown, hb⟩
    refine ⟨_, rfl, ?_, h.below hb, hb⟩
    rcases hown.2 with ⟨hv, hk0⟩ | ⟨g, cap, _, hv, _⟩
    · rw [hv]
      exact strNil _ _ _ _ _ (by omega)
    · subst hv
      exact strRow size tap s k cap (fun i hi => by rw [hown.cellAt i (by omega)]; simp [Ref1.bitRow, hi])

theorem stateK {size tap s b : Nat} {n : Int} {W : World} (w : World) (h : Bun W w b size tap s n) :
    Calls Try.prog 28 #[.pointer (some ⟨b, 0, none⟩)] w fun e w' => e = .returned (.int .u16 (s : Int)) ∧ w' = w := Poly16.State b 0 s w h.c.c0
theorem awakeK {size tap s b : Nat} {n : Int} {W : World} (w : World) (h : Bun W w b size tap s n) :
    Calls Try.prog 20 #[] w fun e w' => e = .returned (.bool true) ∧ Bun W w' b size tap s n := by
  refine (awake1 w).mono ?_
  rintro e w' ⟨rfl, hb⟩
  exact ⟨rfl, h.below hb⟩
theorem fits (c : Bool) (size s : Nat) (w : World) (h : size ≤ 40) (hc : decide (s < 2 ^ size) = c) :
    Calls Try.prog 21 #[.int .i64 (size : Int), .int .i64 (s : Int)] w fun e w' => e = .returned (.bool c) ∧ w' = w := by
  subst hc
  exact Ref1.Fits size s w h

set_option maxRecDepth 100000 in
set_option maxHeartbeats 1000000 in
theorem many (size tap s n : Int) (W : World) (hn : 600 < n) :
    Calls Try.prog 4 #[.agg #[.int .i64 size, .int .i64 tap, .int .u16 s, .int .i64 n]] W fun e w' => e = .returned (.bool true) ∧ Below W.heap.size W w' := by
  go_enter Try.func4, Try.ntmps4
  go_wp2
  go_ret
  exact ⟨rfl, (Below.refl _ W).alloc (Nat.le_refl _) _⟩

set_option maxRecDepth 100000 in
set_option maxHeartbeats 1000000 in
theorem bad (size tap s n : Int) (W : World) (hn : n ≤ 600) (hv : ¬ (2 ≤ size ∧ size ≤ 16 ∧ 1 ≤ tap ∧ tap < size)) :
    Calls Try.prog 4 #[.agg #[.int .i64 size, .int .i64 tap, .int .u16 s, .int .i64 n]] W fun e w' => e = .returned (.bool true) ∧ Below W.heap.size W w' := by
  go_enter Try.func4, Try.ntmps4
  go_wp2_with (first
    | (go_at_call 24; refine (Poly16.New_no size tap _ hv).mono ?_; rintro e w1 ⟨rfl, rfl⟩)
    | (go_at_call 16; refine (Ref1.Right_no 16 size tap _ (by omega) hv).mono ?_; rintro e w1 ⟨rfl, rfl⟩)
    | (go_at_call 25; refine (Poly16.Bits_nil _ _).mono ?_; rintro e w1 ⟨rfl, rfl⟩)
    | (go_at_call 26; refine (Poly16.Period_nil _).mono ?_; rintro e w1 ⟨rfl, rfl⟩)
    | (go_at_call 20; refine (awake1 _).mono ?_; rintro e w1 ⟨rfl, hb⟩))
  go_ret
  exact ⟨rfl, ((Below.refl _ W).alloc (Nat.le_refl _) _).trans (hb.mono (by simp))⟩

set_option maxRecDepth 100000 in
set_option maxHeartbeats 1000000 in
theorem wide (size tap s : Nat) (n : Int) (W : World) (hn : n ≤ 600) (h0 : size ≤ 16) (h1 : 1 ≤ tap) (h2 : tap < size) (hs : 2 ^ size ≤ s) (hs8 : s ≤ 65535) :
    Calls Try.prog 4 #[.agg #[.int .i64 (size : Int), .int .i64 (tap : Int), .int .u16 (s : Int), .int .i64 n]] W fun e w' => e = .returned (.bool true) ∧ Below W.heap.size W w' := by
  have X0 : Hid ((W.alloc (.cells #[.int .i64 (size : Int), .int .i64 (tap : Int), .int .u16 (s : Int), .int .i64 n] 39)).heap[W.heap.size]? = some (.cells #[.int .i64 (size : Int), .int .i64 (tap : Int), .int .u16 (s : Int), .int .i64 n] 39 (0, 0))) := heap_alloc_new W _
  have HS : Hid (2 ^ size ≤ s) := hs
  clear hs
  go_enter Try.func4, Try.ntmps4
  go_wp2_with (go_at_call 24; fail)
  refine (Poly16.New size tap _ h1 h2 (by omega)).mono ?_
  rintro e w1 ⟨b, rfl, hbl, hA, hB⟩
  have X1 := (hB.block W.heap.size (by simp)).trans X0.out
  obtain ⟨x0, x1, x2, x3⟩ := cell4 X1
  have hbW : W.heap.size < b := by simp at hbl; omega
  have HA : Hid (Poly16.At w1 b 0 0 size tap) := hA
  have HB : Hid (Below W.heap.size W w1) := ((Below.refl _ W).alloc (Nat.le_refl _) _).trans (hB.mono (by simp))
  clear hA hB hbl X1
  go_wp2_with (first
    | (go_at_call 16; refine (Ref1.Right_yes 16 size tap _ (by omega) (by omega) (by omega) (by omega) (by omega)).mono ?_; rintro e w1 ⟨rfl, rfl⟩)
    | (go_at_call 21; refine (fits false size s _ (by omega) (decide_eq_false (by have := HS.out; omega))).mono ?_; rintro e w2 ⟨rfl, rfl⟩)
    | (go_at_call 27; refine (Poly16.Set_no b 0 0 size tap s _ (by omega) HS.out HA.out).mono ?_; rintro e w2 ⟨rfl, rfl⟩)
    | (go_at_call 20; refine (awake1 _).mono ?_; rintro e w3 ⟨rfl, hb⟩))
  go_ret
  exact ⟨rfl, HB.out.trans (hb.mono HB.out.size)⟩

set_option maxRecDepth 100000 in
set_option maxHeartbeats 4000000 in
theorem good (size tap s : Nat) (n : Int) (W : World) (hn : n ≤ 600) (h0 : size ≤ 16) (h1 : 1 ≤ tap) (h2 : tap < size) (hs : s < 2 ^ size) (hs8 : s ≤ 65535) :
    Calls Try.prog 4 #[.agg #[.int .i64 (size : Int), .int .i64 (tap : Int), .int .u16 (s : Int), .int .i64 n]] W fun e w' => e = .returned (.bool true) ∧ Below W.heap.size W w' := by
  have hG : Hid (Poly16.Good size tap s) := ⟨h1, h2, by omega, hs⟩
  have X0 : Hid ((W.alloc (.cells #[.int .i64 (size : Int), .int .i64 (tap : Int), .int .u16 (s : Int), .int .i64 n] 39)).heap[W.heap.size]? = some (.cells #[.int .i64 (size : Int), .int .i64 (tap : Int), .int .u16 (s : Int), .int .i64 n] 39 (0, 0))) := heap_alloc_new W _
  have HS : Hid (s < 2 ^ size) := hs
  clear hs
  go_enter Try.func4, Try.ntmps4
  go_wp2_with (go_at_call 24; fail)
  refine (Poly16.New size tap _ h1 h2 (by omega)).mono ?_
  rintro e w1 ⟨b, rfl, hbl, hA, hB⟩
  have X1 : Hid (w1.heap[W.heap.size]? = some (.cells #[.int .i64 (size : Int), .int .i64 (tap : Int), .int .u16 (s : Int), .int .i64 n] 39 (0, 0))) := (hB.block W.heap.size (by simp)).trans X0.out
  obtain ⟨x0, x1, x2, x3⟩ := cell4 X1.out
  have hbW : W.heap.size < b := by simp at hbl; omega
  have HA : Hid (Poly16.At w1 b 0 0 size tap) := hA
  have HB : Hid (Below W.heap.size W w1) := ((Below.refl _ W).alloc (Nat.le_refl _) _).trans (hB.mono (by simp))
  clear hA hB hbl X0
  go_wp2_with (first
    | (go_at_call 16; refine (Ref1.Right_yes 16 size tap _ (by omega) (by omega) (by omega) (by omega) (by omega)).mono ?_; rintro e w1 ⟨rfl, rfl⟩)
    | (go_at_call 21; refine (fits true size s _ (by omega) (decide_eq_true HS.out)).mono ?_; rintro e w2 ⟨rfl, rfl⟩)
    | (go_at_call 27; fail))
  refine (Poly16.Set b 0 0 size tap s _ h1 h2 (by omega) HA.out).mono ?_
  rintro e w2 ⟨rfl, hA2, hO2⟩
  have hE : setE size s = 0 := setE_yes HS.out
  rw [setS_yes HS.out] at hA2
  have HB2 : Hid (Bun W w2 b size tap s n) := ⟨hA2, (hO2.block _ (by omega)).trans X1.out, HB.out.trans (hO2.below (by omega))⟩
  clear hA2 hO2 X1 HB HA x0 x1 x2 x3
  obtain ⟨x0, x1, x2, x3⟩ := cell4 HB2.out.x
  obtain ⟨str, hstr⟩ : ∃ str, str = strOfNums (nums size tap s n) := ⟨_, rfl⟩
  have HSt : Hid (str = strOfNums (nums size tap s n)) := hstr
  have es : IntKind.i64.wrap (s : Int) = (s : Int) := IntWalk.i64_in _ (by omega)
  have ss : (str.toList == str.toList) = true := by simp
  clear hstr
  go_wp2
  go_region_held (fun w' => w'.cell? ⟨W.heap.size, 0, none⟩ = some (.int .i64 (size : Int)) ∧ w'.cell? ⟨W.heap.size, 1, none⟩ = some (.int .i64 (tap : Int)) ∧ w'.cell? ⟨W.heap.size, 2, none⟩ = some (.int .u16 (s : Int)) ∧ w'.cell? ⟨W.heap.size, 3, none⟩ = some (.int .i64 n)) (first | exact ⟨by assumption, by assumption, by assumption, by assumption⟩ | go_keep) (first
    | (go_at_call 25; refine (bitsK (W := W) (str := str) _ hG.out hn HSt.out (by first | assumption | exact HB2.out.same rfl rfl rfl rfl)).mono ?_; rintro e w5 ⟨v5, rfl, hS5, hB5, hb5⟩; have r5 := hS5 _ (Below.refl _ _) 9 Try.underlying9; (try have r65 := hS6 _ hb5 9 Try.underlying9); obtain ⟨y50, y51, y52, y53⟩ := cell4 hB5.x)
    | (go_at_call 22; refine (rowK (W := W) (b := b) (str := str) _ h1 h2 h0 HS.out hn HSt.out (by first | assumption | exact HB2.out.same rfl rfl rfl rfl)).mono ?_; rintro e w6 ⟨v6, rfl, hS6, hB6, hb6⟩; have r6 := hS6 _ (Below.refl _ _) 9 Try.underlying9; (try have r56 := hS5 _ hb6 9 Try.underlying9); obtain ⟨y60, y61, y62, y63⟩ := cell4 hB6.x)
    | (go_at_call 28; refine (stateK (W := W) (size := size) (tap := tap) (s := s) (n := n) _ (by first | assumption | exact HB2.out.same rfl rfl rfl rfl)).mono ?_; rintro e w7 ⟨rfl, rfl⟩)
    | (go_at_call 20; refine (awakeK (W := W) (size := size) (tap := tap) (s := s) (n := n) (b := b) _ (by first | assumption | exact HB2.out.same rfl rfl rfl rfl)).mono ?_; rintro e w9 ⟨rfl, hB9⟩; obtain ⟨y90, y91, y92, y93⟩ := cell4 hB9.x))
  all_goals
    go_wp2
    go_ret
    exact ⟨rfl, hB9.bl⟩

theorem walk (a0_0 a0_1 a0_2 a0_3 : Int) (_ : (Lit.int .i64 a0_0).wf = true) (_ : (Lit.int .i64 a0_1).wf = true) (w2 : (Lit.int .u16 a0_2).wf = true) (_ : (Lit.int .i64 a0_3).wf = true) (W : World) :
    Calls Try.prog 4 #[.agg #[.int .i64 a0_0, .int .i64 a0_1, .int .u16 a0_2, .int .i64 a0_3]] W fun e w' => e = .returned (.bool true) ∧ Below W.heap.size W w' := by
  by_cases hn : 600 < a0_3
  · exact many _ _ _ _ W hn
  by_cases hv : 2 ≤ a0_0 ∧ a0_0 ≤ 16 ∧ 1 ≤ a0_1 ∧ a0_1 < a0_0
  · have hb := bounds_u16 w2
    obtain ⟨k, rfl⟩ := Int.eq_ofNat_of_zero_le (show 0 ≤ a0_0 by omega)
    obtain ⟨t, rfl⟩ := Int.eq_ofNat_of_zero_le (show 0 ≤ a0_1 by omega)
    obtain ⟨s, rfl⟩ := Int.eq_ofNat_of_zero_le (show 0 ≤ a0_2 by omega)
    by_cases hs : s < 2 ^ k
    · exact good k t s a0_3 W (by omega) (by omega) (by omega) (by omega) hs (by omega)
    · exact wide k t s a0_3 W (by omega) (by omega) (by omega) (by omega) (by omega) (by omega)
  · exact bad _ _ _ _ W (by omega) hv

end Go.Proofs.Ythepjdccoidkfaa.polyBits
