/- What the chapter's examples come to. -/
import Derived.Test.YtcohalkofahphaaDoorSame
import Derived.Deep.RegionWith
namespace Go.Proofs.YtcohalkofahphaaDoor.Img
open Go.RowKit

theorem Row.below {w w' : World} {g : Nat} {xs : List Int} (h : Row w g xs) (hb : Below w.heap.size w w') : Row w' g xs := (hb.block g h.lt).trans h
theorem Row.seen {w : World} {g cap : Nat} {xs : List Int} (h : Row w g xs) (hl : xs.length ≤ cap) (hc : cap ≤ 9223372036854775807) : Seen (fun x => .int .i64 x) w (some ⟨g, 0, none⟩) cap g 0 xs :=
  ⟨hl, hc, fun _ => rfl, fun i x hi => by rw [Nat.zero_add]; exact (h.at_ hi).1⟩

theorem fit_F8 : fit ⟨#[70, 56]⟩ 8192 = .tuple #[shape 2 4096 1 false, .int .i64 0] := by
  unfold fit
  rw [find_F8]
  rfl
theorem fit_F8' : fit ⟨#[70, 56]⟩ 4096 = .tuple #[shape 0 0 0 false, .int .i64 4] := by
  unfold fit
  rw [find_F8]
  rfl
theorem fit_f8 : fit ⟨#[102, 56]⟩ 8192 = .tuple #[shape 0 0 0 false, .int .i64 3] := by
  unfold fit
  rw [find_f8]

set_option maxRecDepth 100000 in
set_option maxHeartbeats 2000000 in
theorem awake4 (w : World) (ht : Tab w) : Calls Tryd.prog 15 #[] w fun e w' => e = .returned (.bool true) ∧ Below w.heap.size w w' := by
  have h0 := ht.lt
  have HT : Hid (Tab w) := ht
  clear ht
  go_enter Tryd.func15, Tryd.ntmps15
  go_wp2_with (go_at_call 10; fail)
  refine (Fit ⟨#[70, 56]⟩ 8192 _ HT.out).mono ?_
  rintro e w1 ⟨rfl, hB1⟩
  rw [fit_F8]
  have HB1 : Hid (Below w.heap.size w w1) := hB1
  have HT1 : Hid (Tab w1) := HT.out.below hB1 h0
  clear hB1 HT
  simp only
  unfold shape
  iterate 15 go_step
  generalize hw2 : w1.alloc _ = w2
  have HB2 : Hid (Below w.heap.size w w2) := (by rw [← hw2]; exact HB1.out.alloc HB1.out.size _ : Below w.heap.size w w2)
  have hS2 : w2.heap[w1.heap.size]? = some (.cells #[.int .i64 2, .int .i64 4096, .int .i64 1, .bool false] 23 (0, 0)) := by rw [← hw2]; exact heap_alloc_new _ _
  have HT2 : Hid (Tab w2) := (by rw [← hw2]; exact HT1.out.below ((Below.refl _ _).alloc (Nat.le_refl _) _) (by have := HB1.out.size; omega) : Tab w2)
  have hS : w.heap.size ≤ w1.heap.size := HB1.out.size
  generalize w1.heap.size = S at *
  clear hw2 HT1 HB1
  have hSl : S < w2.heap.size := (Array.getElem?_eq_some_iff.1 hS2).1
  have hw20 : 0 < w2.heap.size := by omega
  go_wp2_with (go_at_call 10; fail)
  refine (Fit ⟨#[70, 56]⟩ 4096 _ HT2.out).mono ?_
  rintro e w3 ⟨rfl, hB3⟩
  rw [fit_F8']
  have HB3 : Hid (Below w2.heap.size w2 w3) := hB3
  have HT3 : Hid (Tab w3) := HT2.out.below hB3 hw20
  clear hB3
  have hw30 : w2.heap.size ≤ w3.heap.size := HB3.out.size
  unfold shape
  go_wp2_with (go_at_call 10; fail)
  generalize hwa : w3.alloc _ = wa
  have hBa : Below w3.heap.size w3 wa := by rw [← hwa]; exact (Below.refl _ _).alloc (Nat.le_refl _) _
  have HTa : Hid (Tab wa) := HT3.out.below hBa (by omega)
  have HBa : Hid (Below w2.heap.size w2 wa) := HB3.out.trans (hBa.mono hw30)
  have hwa0 : w2.heap.size ≤ wa.heap.size := HBa.out.size
  clear hwa hBa
  refine (Fit ⟨#[102, 56]⟩ 8192 _ HTa.out).mono ?_
  rintro e wb ⟨rfl, hBb⟩
  rw [fit_f8]
  have HBb : Hid (Below w2.heap.size w2 wb) := HBa.out.trans (hBb.mono hwa0)
  have HTb : Hid (Tab wb) := HTa.out.below hBb (by omega)
  have hwb0 : w2.heap.size ≤ wb.heap.size := HBb.out.size
  clear hBb
  simp only
  unfold shape
  iterate 15 go_step
  generalize hwc : wb.alloc _ = w4
  have hB4 : Below wb.heap.size wb w4 := by rw [← hwc]; exact (Below.refl _ _).alloc (Nat.le_refl _) _
  have HB4 : Hid (Below w2.heap.size w2 w4) := HBb.out.trans (hB4.mono hwb0)
  have HT4 : Hid (Tab w4) := HTb.out.below hB4 (by omega)
  generalize wb.heap.size = Sb at *
  clear hwc HTa HBa HTb HBb
  have hS4 : w4.heap[S]? = some (.cells #[.int .i64 2, .int .i64 4096, .int .i64 1, .bool false] 23 (0, 0)) := (HB4.out.block S hSl).trans hS2
  obtain ⟨s0, s1, s2, s3⟩ : w4.cell? ⟨S, 0, none⟩ = some (.int .i64 2) ∧ w4.cell? ⟨S, 1, none⟩ = some (.int .i64 4096) ∧ w4.cell? ⟨S, 2, none⟩ = some (.int .i64 1) ∧ w4.cell? ⟨S, 3, none⟩ = some (.bool false) := ⟨cell_of_row _ _ _ _ _ _ hS4, cell_of_row _ _ _ _ _ _ hS4, cell_of_row _ _ _ _ _ _ hS4, cell_of_row _ _ _ _ _ _ hS4⟩
  have HB5 : Hid (Below w.heap.size w w4) := HB2.out.trans (HB4.out.mono HB2.out.size)
  have hSl4 : S < w4.heap.size := lt_of_cell s0
  clear hB4 HB3 HB4 HT3 HT2 HB2 hS2 hS4
  go_wp2_with (go_at_call 13; fail)
  refine (First_yes ⟨#[51, 70]⟩ 6144 ⟨⟨#[51, 70]⟩, 2048, 524288, 2048, false, 0, -1, 0, 0⟩ 2 _ HT4.out find_3F rfl rfl (by omega)).mono ?_
  rintro e w7 ⟨g7, rfl, hg7, hR7, hB7⟩
  have HR7 : Hid (Row w7 g7 [0, 2]) := hR7
  have HB7 : Hid (Below w.heap.size w w7) := HB5.out.trans (hB7.mono HB5.out.size)
  clear hR7 hB7 s0 s1 s2 s3
  go_wp2_with (go_at_call 12; fail)
  generalize hw8 : w7.alloc _ = w8
  have hB8 : Below w7.heap.size w7 w8 := by rw [← hw8]; exact (Below.refl _ _).alloc (Nat.le_refl _) _
  have hR8 : Row w8 w7.heap.size [0, 2] := by rw [← hw8]; exact heap_alloc_new _ _
  have HB8 : Hid (Below w.heap.size w w8) := HB7.out.trans (hB8.mono HB7.out.size)
  refine (Same [0, 2] 2 2 _ _ 2 2 g7 w7.heap.size 0 0 w8 ((HR7.out.below hB8).seen (Nat.le_refl _) (by omega)) (hR8.seen (Nat.le_refl _) (by omega)) rfl rfl).mono ?_
  rintro e w9 ⟨rfl, q9, hq9⟩
  subst w9
  clear hw8 hB8 hR8
  go_wp2
  go_ret
  exact ⟨rfl, below_drewN HB8.out q9⟩

end Go.Proofs.YtcohalkofahphaaDoor.Img
