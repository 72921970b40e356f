/- What 'awake' of the first layer's laws tells: true. -/
import Derived.Test.YthepjdccoidkfaaRing8
import Derived.Test.YthepjdccoidkfaaBits8
import Derived.Laws.BytesArg
namespace Go.Proofs.Ythepjdccoidkfaa
open Go.RowKit

/-- A period that was reckoned. -/
theorem isPer_of {size tap s p : Nat} (h1 : 1 ≤ p) (h2 : p ≤ 2 ^ size) (h3 : orb size tap p s = s) (h4 : ∀ q, q < p → 1 ≤ q → orb size tap q s ≠ s) : IsPer size tap s p := ⟨h1, h2, h3, fun q a b => h4 q b a⟩

theorem per4_0 : IsPer 4 1 0 15 := isPer_of (by decide) (by decide) (by decide) (by decide)
theorem per4_7 : IsPer 4 1 7 15 := isPer_of (by decide) (by decide) (by decide) (by decide)
theorem place4_15 : plB 4 1 15 15 = false := by decide

set_option maxRecDepth 100000 in
set_option maxHeartbeats 1000000 in
theorem awake1 (w : World) : Calls Try.prog 20 #[] w fun e w' => e = .returned (.bool true) ∧ Below w.heap.size w w' := by
  have hpl := place4_15
  go_enter Try.func20, Try.ntmps20
  go_wp2_with (first
    | (go_at_call 15; refine (Poly8.New_yes 4 1 _ (by decide) (by decide) (by decide)).mono ?_; rintro e w1 ⟨rfl, rfl⟩)
    | (go_at_call 56; refine (Poly8.Place w.heap.size 0 0 4 1 15 15 _ ⟨by decide, by decide, by decide, by decide⟩ per4_0 (Poly8.At.new w 0 4 1 _)).mono ?_; rintro e w2 ⟨rfl, hb2⟩))
  have hA : Poly8.At w2 w.heap.size 0 0 4 1 := (Poly8.At.new w 0 4 1 _).below hb2 (by simp)
  have hB : Below w.heap.size w w2 := ((Below.refl _ w).alloc (Nat.le_refl _) _).trans (hb2.mono (by simp))
  clear hb2
  go_loopw [4] (fun v wr => ∃ k : Nat, k ≤ 4 ∧ v = .int .i64 (k : Int) ∧ Poly8.At wr w.heap.size 0 (orb 4 1 k 0) 4 1 ∧ Below w.heap.size w wr) (fun v _ => 4 - (intOf v).toNat)
  case atStart => exact ⟨0, by omega, rfl, hA, hB⟩
  case round =>
    obtain ⟨k, hk, rfl, hAr, hBr⟩ := hrel
    have HA : Hid (Poly8.At wr w.heap.size 0 (orb 4 1 k 0) 4 1) := hAr
    have HB : Hid (Below w.heap.size w wr) := hBr
    clear hA hB hAr hBr
    by_cases hl : k < 4
    · have hG : Poly8.Good 4 1 (orb 4 1 k 0) := Poly8.Good.orb ⟨by decide, by decide, by decide, by decide⟩ k
      go_wp2_with (go_at_call 17; refine (Poly8.Step w.heap.size 0 (orb 4 1 k 0) 4 1 _ hG HA.out).mono ?_; rintro e w' ⟨rfl, rfl⟩)
      go_roundw
      case rel => exact ⟨k + 1, hl, by go_num, HA.out.put _, HB.out.setCell (p := ⟨w.heap.size, 0, none⟩) (by simp) _⟩
      case measure => simp [intOf]; omega
    · have hk4 : k = 4 := by omega
      subst hk4
      have HA7 : Hid (Poly8.At wr w.heap.size 0 7 4 1) := HA.out
      have h7 := HA.out.c0
      have hb : w.heap.size < wr.heap.size := HA.out.lt
      clear HA
      go_wp2_with (first
        | (go_at_call 18; refine (Poly8.State w.heap.size 0 7 _ h7).mono ?_; rintro e w' ⟨rfl, rfl⟩)
        | (go_at_call 57; refine (Poly8.Period w.heap.size 0 7 4 1 15 _ ⟨by decide, by decide, by decide, by decide⟩ per4_7 HA7.out).mono ?_; rintro e w3 ⟨rfl, hb3⟩)
        | (go_at_call 58; refine (Poly8.Bits_yes w.heap.size 0 7 4 1 3 _ ⟨by decide, by decide, by decide, by decide⟩ (HA7.out.below hb3 hb) (by decide)).mono ?_; rintro e w4 ⟨rfl, hc4, hb4⟩
           have hconv := run_convert_bytes_arg w4 32 5 Try.underlying32 Try.underlying5 (w3.heap.size + 1) 0 3 3 [1, 1, 1] rfl (fun i hi => by rw [Nat.zero_add]; exact (hc4 i hi).trans (by match i, hi with | 0, _ => rfl | 1, _ => rfl | 2, _ => rfl)) 9 Try.underlying9
           clear hc4))
      go_ret
      refine ⟨congrArg Ending.returned (congrArg Value.bool (?_ : ((strOfNums [1, 1, 1]).toList == [1, 1, 1]) = true)), HB.out.trans ((hb3.mono (Nat.le_of_lt hb)).trans (hb4.mono (by have := hb3.size; omega)))⟩
      rw [ByteArray.toList_eq]
      decide

end Go.Proofs.Ythepjdccoidkfaa
