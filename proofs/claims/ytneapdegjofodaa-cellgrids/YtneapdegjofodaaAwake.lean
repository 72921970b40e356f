/- What 'awake' of the third layer's laws tells: true. -/
import Derived.Test.YtneapdegjofodaaPutStr
import Derived.Test.YtneapdegjofodaaPackByte
import Derived.Test.YtneapdegjofodaaUnpack2
import Derived.Lib.SmallJoins
namespace Go.Proofs.Ytneapdegjofodaa
open Go.RowKit

theorem runs_aab : runs [97, 97, 98] = [(97, 2), (98, 1)] := by decide +kernel
theorem wrong13 : runE (Unpack.roomOf 2) 0 [(1, 3)] = 13 := by decide +kernel

set_option maxRecDepth 100000 in
set_option maxHeartbeats 1000000 in
theorem awake3 (w : World) : Calls Try.prog 15 #[] w fun e w' => e = .returned (.bool true) ∧ Below w.heap.size w w' := by
  have kc := fun (w : World) (C : Array Value) (n c : Nat) => Lib.run_convert_bytes_const (P := Try.prog) w 78 5 C n c Try.underlying78 Try.underlying5
  go_enter Try.func15, Try.ntmps15
  go_wp2_with (go_at_call 30; fail)
  refine (RingStr.New_yes 2 _ (by decide) (by decide)).mono ?_
  rintro e w1 ⟨rfl, hR1, hB1⟩
  have HR1 : Hid (RingStr.Ring w1 w.heap.size 2 (.slice none 0 0) []) := hR1
  have HB1 : Hid (Below w.heap.size w w1) := hB1
  clear hR1 hB1
  go_wp2_with (go_at_call 31; fail)
  refine (RingStr.Put w.heap.size 2 _ ⟨#[49]⟩ [] _ HR1.out).mono ?_
  rintro e w2 ⟨rfl, v2, hR2, hP2, _⟩
  have HR2 : Hid (RingStr.Ring w2 w.heap.size 2 v2 [⟨#[49]⟩]) := hR2
  have HB2 : Hid (Below w.heap.size w w2) := HB1.out.trans (hP2.below (Nat.le_refl _) HB1.out.size (fun k hk => by cases hk))
  clear hR2 hP2 HR1 HB1
  go_wp2_with (go_at_call 31; fail)
  refine (RingStr.Put w.heap.size 2 _ ⟨#[50]⟩ [⟨#[49]⟩] _ HR2.out).mono ?_
  rintro e w3 ⟨rfl, v3, hR3, hP3, _⟩
  have HR3 : Hid (RingStr.Ring w3 w.heap.size 2 v3 [⟨#[49]⟩, ⟨#[50]⟩]) := hR3
  have HB3 : Hid (Below w.heap.size w w3) := HB2.out.trans (hP3.below (Nat.le_refl _) HB2.out.size (fun k hk => by have := (HR2.out.ge k hk).1; omega))
  clear hR3 hP3 HR2 HB2
  go_wp2_with (go_at_call 31; fail)
  refine (RingStr.Put w.heap.size 2 _ ⟨#[51]⟩ [⟨#[49]⟩, ⟨#[50]⟩] _ HR3.out).mono ?_
  rintro e w4 ⟨rfl, v4, hR4, hP4, _⟩
  have HR4 : Hid (RingStr.Ring w4 w.heap.size 2 v4 [⟨#[50]⟩, ⟨#[51]⟩]) := hR4
  have HB4 : Hid (Below w.heap.size w w4) := HB3.out.trans (hP4.below (Nat.le_refl _) HB3.out.size (fun k hk => by have := (HR3.out.ge k hk).1; omega))
  have e1 : RingStr.putX 2 [⟨#[49]⟩, ⟨#[50]⟩] = ⟨#[49]⟩ := by rfl
  have e2 : RingStr.putB 2 [⟨#[49]⟩, ⟨#[50]⟩] = true := by rfl
  rw [e1, e2]
  have hlt := HR4.out.lt
  clear hR4 hP4 HR3 HB3 e1 e2
  go_wp2_with (go_at_call 32; fail)
  have hS : Seen (fun x => .int .u8 x) (w4.alloc (.cells #[.int .u8 97, .int .u8 97, .int .u8 98] 5 (3, 4))) (some ⟨w4.heap.size, 0, none⟩) 3 w4.heap.size 0 [97, 97, 98] := by
    refine ⟨by simp, by omega, fun _ => rfl, fun i x hi => ?_⟩
    rw [Nat.zero_add, World.cell?_alloc_mark]
    match i, hi with
    | 0, hi => simp at hi; subst hi; rfl
    | 1, hi => simp at hi; subst hi; rfl
    | 2, hi => simp at hi; subst hi; rfl
    | i + 3, hi => simp at hi
  refine (PackByte.Pack [97, 97, 98] _ 3 w4.heap.size 0 _ hS (by simp)).mono ?_
  rintro e w5 ⟨v5, rfl, hO5, hB5⟩
  rw [runs_aab] at hO5
  replace hO5 : w5.ownsRow _ 80 2 v5 2 (PackByte.cells [(97, 2), (98, 1)]) := hO5
  obtain ⟨g, cap, rfl⟩ := Joins.ownsRow_form hO5 (by decide)
  have cg : w5.cell? ⟨g, 1, none⟩ = some (.int .i64 2) := by rw [hO5.cellAt 1 (by decide)]; rfl
  have hs5 := hB5.size
  simp only [World.size_alloc] at hs5
  have HB5 : Hid (Below w.heap.size w w5) := (HB4.out.alloc HB4.out.size _).trans (hB5.mono (by have := HB4.out.size; simp; omega))
  have HR5 : Hid (RingStr.Ring w5 w.heap.size 2 v4 [⟨#[50]⟩, ⟨#[51]⟩]) := (HR4.out.below ((Below.refl _ w4).alloc (Nat.le_refl _) _)).below hB5
  have hgs : g < w5.heap.size := lt_of_cell cg
  clear hS hO5 hB5 HR4 HB4 kc
  go_wp2_with (go_at_call 25; fail)
  have hS6 : SeenR (w5.alloc (.cells #[.int .i64 1, .int .i64 3] 56)) (some ⟨w5.heap.size, 0, none⟩) 1 w5.heap.size 0 [(1, 3)] := by
    have hh := heap_alloc_new w5 (.cells #[.int .i64 1, .int .i64 3] 56)
    refine ⟨by simp, by omega, fun _ => rfl, fun i x hi => ?_⟩
    match i, hi with
    | 0, hi => simp at hi; subst hi; exact ⟨cell_of_row _ _ _ _ _ _ hh, cell_of_row _ _ _ _ _ _ hh⟩
    | i + 1, hi => simp at hi
  refine (Unpack.Unpack_no [(1, 3)] 1 2 13 _ 1 w5.heap.size 0 _ hS6 rfl (by decide) wrong13 (by decide)).mono ?_
  rintro e w6 ⟨rfl, hB6⟩
  have HB6 : Hid (Below w.heap.size w w6) := (HB5.out.alloc HB5.out.size _).trans (hB6.mono (by have := HB5.out.size; simp; omega))
  have HR6 : Hid (RingStr.Ring w6 w.heap.size 2 v4 [⟨#[50]⟩, ⟨#[51]⟩]) := (HR5.out.below ((Below.refl _ w5).alloc (Nat.le_refl _) _)).below hB6
  have cg6 : w6.cell? ⟨g, 1, none⟩ = some (.int .i64 2) := (hB6.cell (p := ⟨g, 1, none⟩) (by simp; omega)).trans (old_cell _ cg)
  clear hS6 hB6 HR5 HB5 cg
  go_wp2_with (go_at_call 33; refine (RingStr.Len w.heap.size 2 _ [⟨#[50]⟩, ⟨#[51]⟩] _ HR6.out).mono ?_; rintro e w7 ⟨rfl, hw⟩; subst w7)
  go_ret
  exact ⟨rfl, HB6.out⟩

end Go.Proofs.Ytneapdegjofodaa
