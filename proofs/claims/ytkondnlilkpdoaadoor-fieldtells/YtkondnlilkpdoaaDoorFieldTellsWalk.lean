/- FieldTells, walked: whatever comes in, true comes out. -/
import Derived.Test.YtkondnlilkpdoaaDoorAwakeF
import Derived.Test.YtkondnlilkpdoaaDoorRFl2
import Derived.Test.YtkondnlilkpdoaaDoorFrame
set_option linter.unusedVariables false
namespace Go.Proofs.YtkondnlilkpdoaaDoor.fieldTells
open Go.RowKit Fi

set_option maxRecDepth 100000 in
set_option maxHeartbeats 2000000 in
theorem walk (a0 : Int) (w0 : (Lit.int .u16 a0).wf = true) (a1 : Int) (w1 : (Lit.int .i64 a1).wf = true) (W : World) (ht : Tab W) :
    Calls Tryd.prog 5 #[.int .u16 a0, .int .i64 a1] W fun e w' => e = .returned (.bool true) ∧ Below W.heap.size W w' := by
  have hb := bounds_u16 w0
  obtain ⟨m, rfl⟩ := Int.eq_ofNat_of_zero_le (show 0 ≤ a0 by omega)
  have hm : m < 65536 := by omega
  have HM : Hid (m < 65536) := hm
  have HT : Hid (Tab W) := ht
  clear hb w0 w1 ht
  by_cases h : 0 ≤ a1 ∧ a1 ≤ 7
  · obtain ⟨k, rfl⟩ := Int.eq_ofNat_of_zero_le h.1
    have HK : Hid (k ≤ 7) := (by omega : k ≤ 7)
    obtain ⟨x, hx⟩ : ∃ x, tN m k = x := ⟨_, rfl⟩
    have HX : Hid (tN m k = x) := hx
    have lx : x < 256 := by
      rw [← hx]
      have h1 := bsN_le m (2 * k); have h2 := bsN_le m (2 * k + 1); have h3 := bsN_le m 12; have h4 := bsN_le m 13; have h5 := bsN_le m 14
      unfold tN
      split
      · omega
      · split <;> omega
    clear h hx
    go_enter Tryd.func5, Tryd.ntmps5
    go_wp2_with (first
      | (go_at_call 16; refine (Tell m k _ HM.out HK.out).mono ?_; rintro e w1 ⟨rfl, rfl⟩; rw [HX.out])
      | (go_at_call 17; refine (RTell m k _ HM.out HK.out).mono ?_; rintro e w1 ⟨rfl, rfl⟩; rw [HX.out])
      | (go_at_call 11; refine (awake18 _ HT.out).mono ?_; rintro e w2 ⟨rfl, hB⟩))
    go_returns
    exact ⟨rfl, hB⟩
  · have HK : Hid (a1 < 0 ∨ 7 < a1) := (by omega : a1 < 0 ∨ 7 < a1)
    clear h
    go_enter Tryd.func5, Tryd.ntmps5
    go_wp2_with (first
      | (go_at_call 16; refine (Tell_no m a1 _ HK.out).mono ?_; rintro e w1 ⟨rfl, rfl⟩)
      | (go_at_call 17; refine (RTell_no m a1 _ HK.out).mono ?_; rintro e w1 ⟨rfl, rfl⟩)
      | (go_at_call 11; refine (awake18 _ HT.out).mono ?_; rintro e w2 ⟨rfl, hB⟩))
    go_returns
    exact ⟨rfl, hB⟩

end Go.Proofs.YtkondnlilkpdoaaDoor.fieldTells
