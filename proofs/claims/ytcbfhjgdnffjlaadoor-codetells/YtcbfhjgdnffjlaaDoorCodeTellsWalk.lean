/- CodeTells, walked: whatever comes in, true comes out. -/
import Derived.Test.YtcbfhjgdnffjlaaDoorAwakeX
import Derived.Test.YtcbfhjgdnffjlaaDoorRefC8
namespace Go.Proofs.YtcbfhjgdnffjlaaDoor.Co
open Go.RowKit

set_option maxRecDepth 100000 in
set_option maxHeartbeats 4000000 in
theorem codeTells_walk (a0 : Int) (w0 : (Lit.int .u8 a0).wf = true) (W : World) (ht : Tab W) :
    Calls Tryd.prog 3 #[.int .u8 a0] W fun e w' => e = .returned (.bool true) ∧ Below W.heap.size W w' := by
  obtain ⟨x0, x1⟩ := bounds_u8 w0
  obtain ⟨op, rfl⟩ := Int.eq_ofNat_of_zero_le x0
  clear w0
  have h : op < 256 := by omega
  have hml := modeN_le op
  have hs := sound op h
  have hk : 0 ≤ kindN op ∧ kindN op ≤ 12 := by
    unfold soundB at hs
    simp only [Bool.and_eq_true, decide_eq_true_eq] at hs
    exact hs.1
  clear hs
  have HO : Hid (∀ w, Tab w → Calls Tryd.prog 7 #[.int .u8 (op : Int)] w fun e w' => e = .returned (.agg #[.string (nameB op), .int .u8 (modeN op), .int .u8 (kindN op), .bool (knownB op)]) ∧ Below w.heap.size w w') := fun w ht => Of op w h ht
  have HR : Hid (∀ w, Calls Tryd.prog 8 #[.int .i64 (op : Int)] w fun e w' => e = .returned (.agg #[.string (nameB op), .int .i64 (modeN op : Int), .int .i64 (kindN op), .bool (knownB op)]) ∧ Below w.heap.size w w') := fun w => ROfS op _ w h rfl
  have HL : Hid (∀ w, Tab w → Calls Tryd.prog 9 #[.int .u8 (op : Int)] w fun e w' => e = .returned (.int .i64 (lenF (modeN op))) ∧ Below w.heap.size w w') := fun w ht => Length op w h ht
  have HLR : Hid (∀ w, Calls Tryd.prog 10 #[.int .i64 (op : Int)] w fun e w' => e = .returned (.int .i64 (lenF (modeN op))) ∧ Below w.heap.size w w') := fun w => RLength op _ w h rfl
  have HC : Hid (∀ w, Tab w → Calls Tryd.prog 11 #[.int .u8 (op : Int)] w fun e w' => e = .returned (.int .i64 (cycF (kindN op) (modeN op))) ∧ Below w.heap.size w w') := fun w ht => Cycles op w h ht
  have HCR : Hid (∀ w, Calls Tryd.prog 12 #[.int .i64 (op : Int)] w fun e w' => e = .returned (.int .i64 (cycF (kindN op) (modeN op))) ∧ Below w.heap.size w w') := fun w => RCycles op _ w h rfl
  generalize cycF (kindN op) (modeN op) = cy at HC HCR
  generalize lenF (modeN op) = ln at HL HLR
  generalize modeN op = m at HO HR hml
  generalize kindN op = k at HO HR hk
  generalize nameB op = n at HO HR
  generalize knownB op = kn at HO HR
  have HT : Hid (Tab W) := ht
  clear ht
  go_enter Tryd.func3, Tryd.ntmps3
  go_wp2_with (go_at_call 7; fail)
  refine (HO.out _ HT.out).mono ?_
  rintro e w1 ⟨rfl, hB1⟩
  go_wp2_with (go_at_call 8; fail)
  refine (HR.out _).mono ?_
  rintro e w2 ⟨rfl, hB2⟩
  have HB2 : Hid (Below W.heap.size W w2) := hB1.trans (hB2.mono hB1.size)
  clear hB1 hB2
  go_wp2_with (go_at_call 9; fail)
  have HB3 : ∀ A B, Hid (Below W.heap.size W ((w2.alloc A).alloc B)) := fun A B => (HB2.out.alloc HB2.out.size _).alloc (by have := HB2.out.size; simp; omega) _
  refine (HL.out _ (HT.out.next (HB3 _ _).out)).mono ?_
  rintro e w4 ⟨rfl, hB4⟩
  have HB4 : Hid (Below W.heap.size W w4) := (HB3 _ _).out.trans (hB4.mono (HB3 _ _).out.size)
  clear hB4 HB3 HB2
  go_wp2_with (first
    | (go_at_call 10; refine (HLR.out _).mono ?_; rintro e w5 ⟨rfl, hB5⟩; have HB5 : Hid (Below W.heap.size W w5) := HB4.out.trans (hB5.mono HB4.out.size); clear hB5)
    | (go_at_call 11; refine (HC.out _ (HT.out.next HB5.out)).mono ?_; rintro e w6 ⟨rfl, hB6⟩; have HB6 : Hid (Below W.heap.size W w6) := HB5.out.trans (hB6.mono HB5.out.size); clear hB6)
    | (go_at_call 12; refine (HCR.out _).mono ?_; rintro e w7 ⟨rfl, hB7⟩; have HB7 : Hid (Below W.heap.size W w7) := HB6.out.trans (hB7.mono HB6.out.size); clear hB7)
    | (go_at_call 13; refine (awakeX _ (HT.out.next HB7.out)).mono ?_; rintro e w8 ⟨rfl, hB8⟩; have HB8 : Hid (Below W.heap.size W w8) := HB7.out.trans (hB8.mono HB7.out.size); clear hB8))
  go_ret
  exact ⟨rfl, HB8.out⟩

end Go.Proofs.YtcbfhjgdnffjlaaDoor.Co
