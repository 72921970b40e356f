/- ImageFits, walked. -/
import Derived.Test.YtcohalkofahphaaDoorRefFirst
set_option linter.unusedSimpArgs false
set_option linter.unusedVariables false
namespace Go.Proofs.YtcohalkofahphaaDoor.Img
open Go.RowKit

theorem fit_cases (tag : ByteArray) (n : Int) : (∃ m N, find tag = some m ∧ fits m n = true ∧ Sound m n N ∧ fit tag n = .tuple #[shape (n / m.size) m.size N m.extra, .int .i64 0]) ∨
    ((find tag = none ∨ ∃ m, find tag = some m ∧ fits m n = false) ∧ ∃ c : Int, (c = 3 ∨ c = 4) ∧ fit tag n = .tuple #[shape 0 0 0 false, .int .i64 c]) := by
  unfold fit
  match hf : find tag with
  | none => exact .inr ⟨.inl rfl, 3, .inl rfl, rfl⟩
  | some m =>
    match hft : fits m n with
    | true =>
      obtain ⟨N, hN⟩ := sound hf hft
      refine .inl ⟨m, N, rfl, hft, hN, ?_⟩
      simp only
      rw [if_pos hft, hN.win]
    | false =>
      refine .inr ⟨.inr ⟨m, rfl, hft⟩, 4, .inr rfl, ?_⟩
      simp only
      rw [if_neg (by rw [hft]; exact Bool.false_ne_true)]

set_option maxRecDepth 100000 in
set_option maxHeartbeats 4000000 in
theorem fits_yes (tag : ByteArray) (n : Int) (m : Mp) (N : Nat) (w : World) (ht : Tab w) (hf : find tag = some m) (hft : fits m n = true) (hs : Sound m n N) (he : fit tag n = .tuple #[shape (n / m.size) m.size N m.extra, .int .i64 0]) :
    Calls Tryd.prog 3 #[.string tag, .int .i64 n] w fun e w' => e = .returned (.bool true) ∧ Below w.heap.size w w' := by
  have h0 := ht.lt
  have HT : Hid (Tab w) := ht
  have HF : Hid (find tag = some m ∧ fits m n = true) := ⟨hf, hft⟩
  have HE : Hid (fit tag n = .tuple #[shape (n / m.size) m.size N m.extra, .int .i64 0]) := he
  have HS : Hid (Sound m n N) := hs
  clear ht hf hft he hs
  go_enter Tryd.func3, Tryd.ntmps3
  go_wp2_with (go_at_call 10; fail)
  refine (Fit tag n _ HT.out).mono ?_
  rintro e w1 ⟨rfl, hB1⟩
  rw [HE.out]
  have HB1 : Hid (Below w.heap.size w w1) := hB1
  clear hB1
  simp only
  unfold shape
  iterate 15 go_step
  generalize hw2 : w1.alloc _ = w2
  have hB2 : Below w1.heap.size w1 w2 := by rw [← hw2]; exact (Below.refl _ _).alloc (Nat.le_refl _) _
  have hS2 : w2.heap[w1.heap.size]? = some (.cells #[.int .i64 (n / m.size), .int .i64 m.size, .int .i64 N, .bool m.extra] 23 (0, 0)) := by rw [← hw2]; exact heap_alloc_new _ _
  have HB2 : Hid (Below w.heap.size w w2) := HB1.out.trans (hB2.mono HB1.out.size)
  generalize w1.heap.size = S at *
  clear hw2 hB2 HB1
  have hSl : S < w2.heap.size := (Array.getElem?_eq_some_iff.1 hS2).1
  go_wp2_with (go_at_call 11; fail)
  refine (RFit tag n _).mono ?_
  rintro e w3 ⟨rfl, hB3⟩
  rw [HE.out]
  have HB3 : Hid (Below w.heap.size w w3) := HB2.out.trans (hB3.mono HB2.out.size)
  have hS3 : w3.heap[S]? = some (.cells #[.int .i64 (n / m.size), .int .i64 m.size, .int .i64 N, .bool m.extra] 23 (0, 0)) := (hB3.block S hSl).trans hS2
  have hSl3 : S < w3.heap.size := (Array.getElem?_eq_some_iff.1 hS3).1
  clear hB3 hS2 HB2 HE
  simp only
  unfold shape
  iterate 15 go_step
  generalize hw4 : w3.alloc _ = w4
  have hB4 : Below w3.heap.size w3 w4 := by rw [← hw4]; exact (Below.refl _ _).alloc (Nat.le_refl _) _
  have hR4 : w4.heap[w3.heap.size]? = some (.cells #[.int .i64 (n / m.size), .int .i64 m.size, .int .i64 N, .bool m.extra] 27 (0, 0)) := by rw [← hw4]; exact heap_alloc_new _ _
  have hS4 : w4.heap[S]? = some (.cells #[.int .i64 (n / m.size), .int .i64 m.size, .int .i64 N, .bool m.extra] 23 (0, 0)) := (hB4.block S hSl3).trans hS3
  have HB4 : Hid (Below w.heap.size w w4) := HB3.out.trans (hB4.mono HB3.out.size)
  have HT4 : Hid (Tab w4) := HT.out.below HB4.out h0
  generalize w3.heap.size = R at *
  clear hw4 hB4 HB3 hS3
  obtain ⟨s0, s1, s2, s3⟩ : w4.cell? ⟨S, 0, none⟩ = some (.int .i64 (n / m.size)) ∧ w4.cell? ⟨S, 1, none⟩ = some (.int .i64 m.size) ∧ w4.cell? ⟨S, 2, none⟩ = some (.int .i64 N) ∧ w4.cell? ⟨S, 3, none⟩ = some (.bool m.extra) := ⟨cell_of_row _ _ _ _ _ _ hS4, cell_of_row _ _ _ _ _ _ hS4, cell_of_row _ _ _ _ _ _ hS4, cell_of_row _ _ _ _ _ _ hS4⟩
  obtain ⟨r0, r1, r2, r3⟩ : w4.cell? ⟨R, 0, none⟩ = some (.int .i64 (n / m.size)) ∧ w4.cell? ⟨R, 1, none⟩ = some (.int .i64 m.size) ∧ w4.cell? ⟨R, 2, none⟩ = some (.int .i64 N) ∧ w4.cell? ⟨R, 3, none⟩ = some (.bool m.extra) := ⟨cell_of_row _ _ _ _ _ _ hR4, cell_of_row _ _ _ _ _ _ hR4, cell_of_row _ _ _ _ _ _ hR4, cell_of_row _ _ _ _ _ _ hR4⟩
  clear hS4 hR4
  go_wp2_with (go_at_call 13; fail)
  refine (First_yes tag n m N _ HT4.out HF.out.1 HF.out.2 HS.out.win HS.out.le4).mono ?_
  rintro e w5 ⟨g5, rfl, hg5, hR5, hB5⟩
  have HR5 : Hid (Row w5 g5 (firsts m n N)) := hR5
  have HB5 : Hid (Below w.heap.size w w5) := HB4.out.trans (hB5.mono HB4.out.size)
  clear hR5 hB5 s0 s1 s2 s3 r0 r1 r2 r3
  go_wp2_with (go_at_call 14; fail)
  refine (RFirst_yes tag n m N _ HF.out.1 HF.out.2 HS.out).mono ?_
  rintro e w6 ⟨g6, rfl, hg6, hR6, hB6⟩
  have HR6 : Hid (Row w6 g6 (firsts m n N)) := hR6
  have HS6 : Hid (Row w6 g5 (firsts m n N)) := HR5.out.below hB6
  have HB6 : Hid (Below w.heap.size w w6) := HB5.out.trans (hB6.mono HB5.out.size)
  clear hR6 hB6 HR5 HB5
  go_wp2_with (go_at_call 12; fail)
  refine (Same (firsts m n N) N N _ _ N N g5 g6 0 0 w6 (HS6.out.seen (Nat.le_of_eq HS.out.len) (by have := HS.out.le4; omega)) (HR6.out.seen (Nat.le_of_eq HS.out.len) (by have := HS.out.le4; omega)) HS.out.len.symm HS.out.len.symm).mono ?_
  rintro e w7 ⟨rfl, q7, hq7⟩
  have HB7 : Hid (Below w.heap.size w w7) := (by rw [hq7]; exact below_drewN HB6.out q7 : Below w.heap.size w w7)
  clear hq7 HR6 HS6 HB6
  go_wp2_with (go_at_call 15; refine (awake4 _ (HT.out.below HB7.out h0)).mono ?_; rintro e w8 ⟨rfl, hb8⟩)
  go_returns
  exact ⟨rfl, HB7.out.trans (hb8.mono HB7.out.size)⟩

set_option maxRecDepth 100000 in
set_option maxHeartbeats 4000000 in
theorem fits_no (tag : ByteArray) (n c : Int) (w : World) (ht : Tab w) (hf : find tag = none ∨ ∃ m, find tag = some m ∧ fits m n = false) (he : fit tag n = .tuple #[shape 0 0 0 false, .int .i64 c]) :
    Calls Tryd.prog 3 #[.string tag, .int .i64 n] w fun e w' => e = .returned (.bool true) ∧ Below w.heap.size w w' := by
  have h0 := ht.lt
  have HT : Hid (Tab w) := ht
  have HF : Hid (find tag = none ∨ ∃ m, find tag = some m ∧ fits m n = false) := hf
  have HE : Hid (fit tag n = .tuple #[shape 0 0 0 false, .int .i64 c]) := he
  clear ht hf he
  go_enter Tryd.func3, Tryd.ntmps3
  go_wp2_with (go_at_call 10; fail)
  refine (Fit tag n _ HT.out).mono ?_
  rintro e w1 ⟨rfl, hB1⟩
  rw [HE.out]
  have HB1 : Hid (Below w.heap.size w w1) := hB1
  clear hB1
  simp only
  unfold shape
  iterate 15 go_step
  generalize hw2 : w1.alloc _ = w2
  have hB2 : Below w1.heap.size w1 w2 := by rw [← hw2]; exact (Below.refl _ _).alloc (Nat.le_refl _) _
  have hS2 : w2.heap[w1.heap.size]? = some (.cells #[.int .i64 0, .int .i64 0, .int .i64 0, .bool false] 23 (0, 0)) := by rw [← hw2]; exact heap_alloc_new _ _
  have HB2 : Hid (Below w.heap.size w w2) := HB1.out.trans (hB2.mono HB1.out.size)
  generalize w1.heap.size = S at *
  clear hw2 hB2 HB1
  have hSl : S < w2.heap.size := (Array.getElem?_eq_some_iff.1 hS2).1
  go_wp2_with (go_at_call 11; fail)
  refine (RFit tag n _).mono ?_
  rintro e w3 ⟨rfl, hB3⟩
  rw [HE.out]
  have HB3 : Hid (Below w.heap.size w w3) := HB2.out.trans (hB3.mono HB2.out.size)
  have hS3 : w3.heap[S]? = some (.cells #[.int .i64 0, .int .i64 0, .int .i64 0, .bool false] 23 (0, 0)) := (hB3.block S hSl).trans hS2
  have hSl3 : S < w3.heap.size := (Array.getElem?_eq_some_iff.1 hS3).1
  clear hB3 hS2 HB2 HE
  simp only
  unfold shape
  iterate 15 go_step
  generalize hw4 : w3.alloc _ = w4
  have hB4 : Below w3.heap.size w3 w4 := by rw [← hw4]; exact (Below.refl _ _).alloc (Nat.le_refl _) _
  have hR4 : w4.heap[w3.heap.size]? = some (.cells #[.int .i64 0, .int .i64 0, .int .i64 0, .bool false] 27 (0, 0)) := by rw [← hw4]; exact heap_alloc_new _ _
  have hS4 : w4.heap[S]? = some (.cells #[.int .i64 0, .int .i64 0, .int .i64 0, .bool false] 23 (0, 0)) := (hB4.block S hSl3).trans hS3
  have HB4 : Hid (Below w.heap.size w w4) := HB3.out.trans (hB4.mono HB3.out.size)
  have HT4 : Hid (Tab w4) := HT.out.below HB4.out h0
  generalize w3.heap.size = R at *
  clear hw4 hB4 HB3 hS3
  obtain ⟨s0, s1, s2, s3⟩ : w4.cell? ⟨S, 0, none⟩ = some (.int .i64 0) ∧ w4.cell? ⟨S, 1, none⟩ = some (.int .i64 0) ∧ w4.cell? ⟨S, 2, none⟩ = some (.int .i64 0) ∧ w4.cell? ⟨S, 3, none⟩ = some (.bool false) := ⟨cell_of_row _ _ _ _ _ _ hS4, cell_of_row _ _ _ _ _ _ hS4, cell_of_row _ _ _ _ _ _ hS4, cell_of_row _ _ _ _ _ _ hS4⟩
  obtain ⟨r0, r1, r2, r3⟩ : w4.cell? ⟨R, 0, none⟩ = some (.int .i64 0) ∧ w4.cell? ⟨R, 1, none⟩ = some (.int .i64 0) ∧ w4.cell? ⟨R, 2, none⟩ = some (.int .i64 0) ∧ w4.cell? ⟨R, 3, none⟩ = some (.bool false) := ⟨cell_of_row _ _ _ _ _ _ hR4, cell_of_row _ _ _ _ _ _ hR4, cell_of_row _ _ _ _ _ _ hR4, cell_of_row _ _ _ _ _ _ hR4⟩
  clear hS4 hR4
  go_wp2_with (go_at_call 13; fail)
  refine (First_no tag n _ HT4.out HF.out).mono ?_
  rintro e w5 ⟨rfl, hB5⟩
  have HB5 : Hid (Below w.heap.size w w5) := HB4.out.trans (hB5.mono HB4.out.size)
  clear hB5 s0 s1 s2 s3 r0 r1 r2 r3
  go_wp2_with (go_at_call 14; fail)
  refine (RFirst_no tag n _ HF.out).mono ?_
  rintro e w6 ⟨rfl, hB6⟩
  have HB6 : Hid (Below w.heap.size w w6) := HB5.out.trans (hB6.mono HB5.out.size)
  clear hB6 HB5
  go_wp2_with (go_at_call 12; fail)
  refine (Same [] 0 0 _ _ 0 0 0 0 0 0 w6 (Seen.nil _ _ _ (by omega) 0 0) (Seen.nil _ _ _ (by omega) 0 0) rfl rfl).mono ?_
  rintro e w7 ⟨rfl, q7, hq7⟩
  have HB7 : Hid (Below w.heap.size w w7) := (by rw [hq7]; exact below_drewN HB6.out q7 : Below w.heap.size w w7)
  clear hq7 HB6
  go_wp2_with (go_at_call 15; refine (awake4 _ (HT.out.below HB7.out h0)).mono ?_; rintro e w8 ⟨rfl, hb8⟩)
  go_returns
  exact ⟨rfl, HB7.out.trans (hb8.mono HB7.out.size)⟩

theorem imageFits_walk (tag : ByteArray) (n : Int) (w : World) (ht : Tab w) :
    Calls Tryd.prog 3 #[.string tag, .int .i64 n] w fun e w' => e = .returned (.bool true) ∧ Below w.heap.size w w' := by
  rcases fit_cases tag n with ⟨m, N, hf, hft, hs, he⟩ | ⟨hf, c, hc, he⟩
  · exact fits_yes tag n m N w ht hf hft hs he
  · exact fits_no tag n c w ht hf he

end Go.Proofs.YtcohalkofahphaaDoor.Img
