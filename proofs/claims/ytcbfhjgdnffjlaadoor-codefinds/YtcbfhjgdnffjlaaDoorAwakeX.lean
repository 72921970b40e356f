/- What 'awake' of the tenth layer's laws tells: true. -/
import Derived.Test.YtcbfhjgdnffjlaaDoorCodeA
import Derived.Test.YtcbfhjgdnffjlaaDoorRefC7
import Derived.ChangeKeysEq
import Derived.Laws.StructEq
namespace Go.Proofs.YtcbfhjgdnffjlaaDoor.Co
open Go.RowKit

theorem x1 : bl (nameB 169) = [76, 68, 65] := by decide +kernel
theorem x2 : modeN 169 = 2 := by decide +kernel
theorem x3 : kindN 169 = 1 := by decide +kernel
theorem x4 : knownB 169 = true := by decide +kernel
theorem x5 : bl (nameB 2) = [74, 65, 77] := by decide +kernel
def nopB : ByteArray := ⟨#[78, 79, 80]⟩
set_option maxRecDepth 100000 in
theorem x6 : findO (bl nopB) 0 = 234 ∧ findB (bl nopB) 0 = true := by decide +kernel
theorem y1 : nameB 169 = ⟨#[76, 68, 65]⟩ := bl_inj x1
theorem y5 : nameB 2 = ⟨#[74, 65, 77]⟩ := bl_inj x5

theorem OfA (w : World) (ht : Tab w) : Calls Tryd.prog 7 #[.int .u8 169] w fun e w' => e = .returned (.agg #[.string ⟨#[76, 68, 65]⟩, .int .u8 2, .int .u8 1, .bool true]) ∧ Below w.heap.size w w' := by
  have := Of 169 w (by decide) ht
  unfold codeV at this
  rw [y1, x2, x3, x4] at this
  exact this
theorem Of2 (w : World) (ht : Tab w) : Calls Tryd.prog 7 #[.int .u8 2] w fun e w' => e = .returned (.agg #[.string ⟨#[74, 65, 77]⟩, .int .u8 (modeN 2), .int .u8 (kindN 2), .bool (knownB 2)]) ∧ Below w.heap.size w w' := by
  have := Of 2 w (by decide) ht
  unfold codeV at this
  rw [y5] at this
  exact this
theorem LenA (w : World) (ht : Tab w) : Calls Tryd.prog 9 #[.int .u8 169] w fun e w' => e = .returned (.int .i64 2) ∧ Below w.heap.size w w' := by
  have := Length 169 w (by decide) ht
  rw [x2] at this
  exact this
theorem CycA (w : World) (ht : Tab w) : Calls Tryd.prog 11 #[.int .u8 169] w fun e w' => e = .returned (.int .i64 2) ∧ Below w.heap.size w w' := by
  have := Cycles 169 w (by decide) ht
  rw [x2, x3] at this
  exact this
theorem FindA (w : World) (ht : Tab w) : Calls Tryd.prog 14 #[.string ⟨#[78, 79, 80]⟩, .int .u8 0] w fun e w' => e = .returned (.tuple #[.int .u8 234, .bool true]) ∧ Below w.heap.size w w' := by
  have := Find nopB 0 w ht
  rw [x6.1, x6.2] at this
  exact this

set_option maxRecDepth 100000 in
set_option maxHeartbeats 4000000 in
theorem awakeX (w : World) (ht : Tab w) : Calls Tryd.prog 13 #[] w fun e w' => e = .returned (.bool true) ∧ Below w.heap.size w w' := by
  have hfn := fieldName
  have HT : Hid (Tab w) := ht
  clear ht
  go_enter Tryd.func13, Tryd.ntmps13
  go_wp2_with (go_at_call 7; fail)
  refine (OfA _ HT.out).mono ?_
  rintro e w1 ⟨rfl, hB1⟩
  have HX : Hid (Box4 (w1.alloc (.cells #[.string ⟨#[76, 68, 65]⟩, .int .u8 2, .int .u8 1, .bool true] 25)) w1.heap.size (.string ⟨#[76, 68, 65]⟩) (.int .u8 2) (.int .u8 1) (.bool true)) := Box4.new w1 _ _ _ _ _
  have HB1 : Hid (Below w.heap.size w (w1.alloc (.cells #[.string ⟨#[76, 68, 65]⟩, .int .u8 2, .int .u8 1, .bool true] 25))) := hB1.alloc hB1.size _
  have HT1 : Hid (Tab (w1.alloc (.cells #[.string ⟨#[76, 68, 65]⟩, .int .u8 2, .int .u8 1, .bool true] 25))) := HT.out.next HB1.out
  clear hB1
  go_wp2_with (go_at_call 14; fail)
  refine (FindA _ HT1.out).mono ?_
  rintro e w3 ⟨rfl, hB3⟩
  obtain ⟨c0, c1, c2, c3, f0, f1, f2, f3⟩ := HX.out.next hB3
  have HB3 : Hid (Below w.heap.size w w3) := HB1.out.trans (hB3.mono HB1.out.size)
  have HT3 : Hid (Tab w3) := HT1.out.next hB3
  clear hB3 HX HB1 HT1 f0 f1 f2 f3
  go_wp2_with (first
    | (go_at_call 9; refine (LenA _ HT3.out).mono ?_; rintro e w4 ⟨rfl, hB4⟩; have HB4 : Hid (Below w.heap.size w w4) := HB3.out.trans (hB4.mono HB3.out.size); have HT4 : Hid (Tab w4) := HT3.out.next hB4; clear hB4)
    | (go_at_call 11; refine (CycA _ HT4.out).mono ?_; rintro e w5 ⟨rfl, hB5⟩; have HB5 : Hid (Below w.heap.size w w5) := HB4.out.trans (hB5.mono HB4.out.size); have HT5 : Hid (Tab w5) := HT4.out.next hB5; clear hB5)
    | (go_at_call 7; refine (Of2 _ HT5.out).mono ?_; rintro e w6 ⟨rfl, hB6⟩; have HB6 : Hid (Below w.heap.size w w6) := HB5.out.trans (hB6.mono HB5.out.size); clear hB6))
  go_ret
  exact ⟨rfl, HB6.out⟩

end Go.Proofs.YtcbfhjgdnffjlaaDoor.Co
