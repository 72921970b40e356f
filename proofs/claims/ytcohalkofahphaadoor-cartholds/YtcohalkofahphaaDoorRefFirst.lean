/- What the document's own First answers: the same. -/
import Derived.Test.YtcohalkofahphaaDoorRefFit
set_option linter.unusedSimpArgs false
set_option linter.unusedVariables false
namespace Go.Proofs.YtcohalkofahphaaDoor.Img
open Go.RowKit

theorem fit_yes {tag : ByteArray} {m : Mp} {n : Int} {N : Nat} (h : find tag = some m) (hf : fits m n = true) (hs : Sound m n N) : fit tag n = .tuple #[shape (n / m.size) m.size N m.extra, .int .i64 0] := by
  rw [fit_of n h, if_pos hf, hs.win]

set_option maxRecDepth 100000 in
set_option maxHeartbeats 2000000 in
theorem RFirst_no (tag : ByteArray) (n : Int) (w : World) (h : find tag = none ∨ ∃ m, find tag = some m ∧ fits m n = false) :
    Calls Tryd.prog 14 #[.string tag, .int .i64 n] w fun e w' => e = .returned (.slice none 0 0) ∧ Below w.heap.size w w' := by
  have hm : ∃ c : Int, (c = 3 ∨ c = 4) ∧ fit tag n = .tuple #[shape 0 0 0 false, .int .i64 c] := by
    unfold fit
    rcases h with h | ⟨m, h, h2⟩
    · rw [h]; exact ⟨3, .inl rfl, rfl⟩
    · rw [h]; simp only; rw [h2]; exact ⟨4, .inr rfl, rfl⟩
  obtain ⟨c, hc, hm⟩ := hm
  have hc0 : ¬ c = 0 := by omega
  clear h hc
  go_enter Tryd.func14, Tryd.ntmps14
  go_wp2_with (go_at_call 11; fail)
  refine (RFit tag n w).mono ?_
  rintro e w2 ⟨rfl, hB2⟩
  rw [hm]
  have HB2 : Hid (Below w.heap.size w w2) := hB2
  clear hB2 hm
  simp only
  unfold shape
  iterate 15 go_step
  generalize hw3 : w2.alloc _ = w3
  have HB3 : Hid (Below w.heap.size w w3) := (by rw [← hw3]; exact HB2.out.alloc HB2.out.size _ : Below w.heap.size w w3)
  clear hw3
  go_wp2
  go_returns
  exact ⟨rfl, HB3.out⟩

set_option maxRecDepth 100000 in
set_option maxHeartbeats 4000000 in
theorem RFirst2K (tag : ByteArray) (n : Int) (N : Nat) (w : World) (hf : find tag = some ⟨⟨#[50, 75]⟩, 2048, 2048, 2048, false, 0, 0, 0, 0⟩) (hft : fits ⟨⟨#[50, 75]⟩, 2048, 2048, 2048, false, 0, 0, 0, 0⟩ n = true) (hs : Sound ⟨⟨#[50, 75]⟩, 2048, 2048, 2048, false, 0, 0, 0, 0⟩ n N) (ht : tag.toList = [50, 75]) :
    Calls Tryd.prog 14 #[.string tag, .int .i64 n] w fun e w' => ∃ g, e = .returned (.slice (some ⟨g, 0, none⟩) N N) ∧ w.heap.size ≤ g ∧ Row w' g (firsts ⟨⟨#[50, 75]⟩, 2048, 2048, 2048, false, 0, 0, 0, 0⟩ n N) ∧ Below w.heap.size w w' := by
  have HV : Hid (fit tag n = _) := fit_yes hf hft hs
  obtain rfl : N = 2 := by have := hs.win; simp only at this; omega
  obtain rfl : n = 2048 := by unfold fits at hft; simp at hft; omega
  clear hf hft hs
  go_enter Tryd.func14, Tryd.ntmps14
  go_wp2_with (go_at_call 11; fail)
  refine (RFit tag _ w).mono ?_
  rintro e w2 ⟨rfl, hB2⟩
  rw [HV.out]
  have HB2 : Hid (Below w.heap.size w w2) := hB2
  clear hB2 HV
  simp only
  unfold shape
  iterate 15 go_step
  generalize hw3 : w2.alloc _ = w3
  have HB3 : Hid (Below w.heap.size w w3) := (by rw [← hw3]; exact HB2.out.alloc HB2.out.size _ : Below w.heap.size w w3)
  have hS3 := heap_alloc_new w2
  have c0 : w3.cell? ⟨w2.heap.size, 0, none⟩ = some (.int .i64 1) := by rw [← hw3]; exact cell_of_row _ _ _ _ _ _ (hS3 _)
  have h23 : w.heap.size ≤ w3.heap.size := HB3.out.size
  clear hw3 hS3 HB2
  generalize w2.heap.size = S at *
  go_wp2
  go_returns
  exact ⟨_, rfl, h23, heap_alloc_new _ _, HB3.out.alloc h23 _⟩

set_option maxRecDepth 100000 in
set_option maxHeartbeats 4000000 in
theorem RFirst3F (tag : ByteArray) (n : Int) (N : Nat) (w : World) (hf : find tag = some ⟨⟨#[51, 70]⟩, 2048, 524288, 2048, false, 0, -1, 0, 0⟩) (hft : fits ⟨⟨#[51, 70]⟩, 2048, 524288, 2048, false, 0, -1, 0, 0⟩ n = true) (hs : Sound ⟨⟨#[51, 70]⟩, 2048, 524288, 2048, false, 0, -1, 0, 0⟩ n N) (ht : tag.toList = [51, 70]) :
    Calls Tryd.prog 14 #[.string tag, .int .i64 n] w fun e w' => ∃ g, e = .returned (.slice (some ⟨g, 0, none⟩) N N) ∧ w.heap.size ≤ g ∧ Row w' g (firsts ⟨⟨#[51, 70]⟩, 2048, 524288, 2048, false, 0, -1, 0, 0⟩ n N) ∧ Below w.heap.size w w' := by
  have HV : Hid (fit tag n = _) := fit_yes hf hft hs
  obtain rfl : N = 2 := by have := hs.win; simp only at this; omega
  obtain ⟨hn1, hn2, hn3⟩ : 2048 ≤ n ∧ n ≤ 524288 ∧ n % 2048 = 0 := by unfold fits at hft; simp at hft; omega
  have hd1 : 1 ≤ n / 2048 := by omega
  have hd2 : n / 2048 ≤ 256 := by omega
  clear hf hft hs
  go_enter Tryd.func14, Tryd.ntmps14
  go_wp2_with (go_at_call 11; fail)
  refine (RFit tag _ w).mono ?_
  rintro e w2 ⟨rfl, hB2⟩
  rw [HV.out]
  have HB2 : Hid (Below w.heap.size w w2) := hB2
  clear hB2 HV
  simp only
  unfold shape
  iterate 15 go_step
  generalize hw3 : w2.alloc _ = w3
  have HB3 : Hid (Below w.heap.size w w3) := (by rw [← hw3]; exact HB2.out.alloc HB2.out.size _ : Below w.heap.size w w3)
  have hS3 := heap_alloc_new w2
  have c0 : w3.cell? ⟨w2.heap.size, 0, none⟩ = some (.int .i64 (n / 2048)) := by rw [← hw3]; exact cell_of_row _ _ _ _ _ _ (hS3 _)
  have h23 : w.heap.size ≤ w3.heap.size := HB3.out.size
  clear hw3 hS3 HB2
  generalize w2.heap.size = S at *
  go_wp2
  go_returns
  exact ⟨_, rfl, h23, heap_alloc_new _ _, HB3.out.alloc h23 _⟩

set_option maxRecDepth 100000 in
set_option maxHeartbeats 4000000 in
theorem RFirst4K (tag : ByteArray) (n : Int) (N : Nat) (w : World) (hf : find tag = some ⟨⟨#[52, 75]⟩, 4096, 4096, 4096, false, 0, 0, 0, 0⟩) (hft : fits ⟨⟨#[52, 75]⟩, 4096, 4096, 4096, false, 0, 0, 0, 0⟩ n = true) (hs : Sound ⟨⟨#[52, 75]⟩, 4096, 4096, 4096, false, 0, 0, 0, 0⟩ n N) (ht : tag.toList = [52, 75]) :
    Calls Tryd.prog 14 #[.string tag, .int .i64 n] w fun e w' => ∃ g, e = .returned (.slice (some ⟨g, 0, none⟩) N N) ∧ w.heap.size ≤ g ∧ Row w' g (firsts ⟨⟨#[52, 75]⟩, 4096, 4096, 4096, false, 0, 0, 0, 0⟩ n N) ∧ Below w.heap.size w w' := by
  have HV : Hid (fit tag n = _) := fit_yes hf hft hs
  obtain rfl : N = 1 := by have := hs.win; simp only at this; omega
  obtain rfl : n = 4096 := by unfold fits at hft; simp at hft; omega
  clear hf hft hs
  go_enter Tryd.func14, Tryd.ntmps14
  go_wp2_with (go_at_call 11; fail)
  refine (RFit tag _ w).mono ?_
  rintro e w2 ⟨rfl, hB2⟩
  rw [HV.out]
  have HB2 : Hid (Below w.heap.size w w2) := hB2
  clear hB2 HV
  simp only
  unfold shape
  iterate 15 go_step
  generalize hw3 : w2.alloc _ = w3
  have HB3 : Hid (Below w.heap.size w w3) := (by rw [← hw3]; exact HB2.out.alloc HB2.out.size _ : Below w.heap.size w w3)
  have hS3 := heap_alloc_new w2
  have c0 : w3.cell? ⟨w2.heap.size, 0, none⟩ = some (.int .i64 1) := by rw [← hw3]; exact cell_of_row _ _ _ _ _ _ (hS3 _)
  have h23 : w.heap.size ≤ w3.heap.size := HB3.out.size
  clear hw3 hS3 HB2
  generalize w2.heap.size = S at *
  go_wp2
  go_returns
  exact ⟨_, rfl, h23, heap_alloc_new _ _, HB3.out.alloc h23 _⟩

set_option maxRecDepth 100000 in
set_option maxHeartbeats 4000000 in
theorem RFirstE0 (tag : ByteArray) (n : Int) (N : Nat) (w : World) (hf : find tag = some ⟨⟨#[69, 48]⟩, 8192, 8192, 1024, false, 4, 5, 6, 7⟩) (hft : fits ⟨⟨#[69, 48]⟩, 8192, 8192, 1024, false, 4, 5, 6, 7⟩ n = true) (hs : Sound ⟨⟨#[69, 48]⟩, 8192, 8192, 1024, false, 4, 5, 6, 7⟩ n N) (ht : tag.toList = [69, 48]) :
    Calls Tryd.prog 14 #[.string tag, .int .i64 n] w fun e w' => ∃ g, e = .returned (.slice (some ⟨g, 0, none⟩) N N) ∧ w.heap.size ≤ g ∧ Row w' g (firsts ⟨⟨#[69, 48]⟩, 8192, 8192, 1024, false, 4, 5, 6, 7⟩ n N) ∧ Below w.heap.size w w' := by
  have HV : Hid (fit tag n = _) := fit_yes hf hft hs
  obtain rfl : N = 4 := by have := hs.win; simp only at this; omega
  obtain rfl : n = 8192 := by unfold fits at hft; simp at hft; omega
  clear hf hft hs
  go_enter Tryd.func14, Tryd.ntmps14
  go_wp2_with (go_at_call 11; fail)
  refine (RFit tag _ w).mono ?_
  rintro e w2 ⟨rfl, hB2⟩
  rw [HV.out]
  have HB2 : Hid (Below w.heap.size w w2) := hB2
  clear hB2 HV
  simp only
  unfold shape
  iterate 15 go_step
  generalize hw3 : w2.alloc _ = w3
  have HB3 : Hid (Below w.heap.size w w3) := (by rw [← hw3]; exact HB2.out.alloc HB2.out.size _ : Below w.heap.size w w3)
  have hS3 := heap_alloc_new w2
  have c0 : w3.cell? ⟨w2.heap.size, 0, none⟩ = some (.int .i64 8) := by rw [← hw3]; exact cell_of_row _ _ _ _ _ _ (hS3 _)
  have h23 : w.heap.size ≤ w3.heap.size := HB3.out.size
  clear hw3 hS3 HB2
  generalize w2.heap.size = S at *
  go_wp2
  go_returns
  exact ⟨_, rfl, h23, heap_alloc_new _ _, HB3.out.alloc h23 _⟩

set_option maxRecDepth 100000 in
set_option maxHeartbeats 4000000 in
theorem RFirstF4 (tag : ByteArray) (n : Int) (N : Nat) (w : World) (hf : find tag = some ⟨⟨#[70, 52]⟩, 32768, 32768, 4096, false, -1, 0, 0, 0⟩) (hft : fits ⟨⟨#[70, 52]⟩, 32768, 32768, 4096, false, -1, 0, 0, 0⟩ n = true) (hs : Sound ⟨⟨#[70, 52]⟩, 32768, 32768, 4096, false, -1, 0, 0, 0⟩ n N) (ht : tag.toList = [70, 52]) :
    Calls Tryd.prog 14 #[.string tag, .int .i64 n] w fun e w' => ∃ g, e = .returned (.slice (some ⟨g, 0, none⟩) N N) ∧ w.heap.size ≤ g ∧ Row w' g (firsts ⟨⟨#[70, 52]⟩, 32768, 32768, 4096, false, -1, 0, 0, 0⟩ n N) ∧ Below w.heap.size w w' := by
  have HV : Hid (fit tag n = _) := fit_yes hf hft hs
  obtain rfl : N = 1 := by have := hs.win; simp only at this; omega
  obtain rfl : n = 32768 := by unfold fits at hft; simp at hft; omega
  clear hf hft hs
  go_enter Tryd.func14, Tryd.ntmps14
  go_wp2_with (go_at_call 11; fail)
  refine (RFit tag _ w).mono ?_
  rintro e w2 ⟨rfl, hB2⟩
  rw [HV.out]
  have HB2 : Hid (Below w.heap.size w w2) := hB2
  clear hB2 HV
  simp only
  unfold shape
  iterate 15 go_step
  generalize hw3 : w2.alloc _ = w3
  have HB3 : Hid (Below w.heap.size w w3) := (by rw [← hw3]; exact HB2.out.alloc HB2.out.size _ : Below w.heap.size w w3)
  have hS3 := heap_alloc_new w2
  have c0 : w3.cell? ⟨w2.heap.size, 0, none⟩ = some (.int .i64 8) := by rw [← hw3]; exact cell_of_row _ _ _ _ _ _ (hS3 _)
  have h23 : w.heap.size ≤ w3.heap.size := HB3.out.size
  clear hw3 hS3 HB2
  generalize w2.heap.size = S at *
  go_wp2
  go_returns
  exact ⟨_, rfl, h23, heap_alloc_new _ _, HB3.out.alloc h23 _⟩

set_option maxRecDepth 100000 in
set_option maxHeartbeats 4000000 in
theorem RFirstF4SC (tag : ByteArray) (n : Int) (N : Nat) (w : World) (hf : find tag = some ⟨⟨#[70, 52, 83, 67]⟩, 32768, 32768, 4096, true, -1, 0, 0, 0⟩) (hft : fits ⟨⟨#[70, 52, 83, 67]⟩, 32768, 32768, 4096, true, -1, 0, 0, 0⟩ n = true) (hs : Sound ⟨⟨#[70, 52, 83, 67]⟩, 32768, 32768, 4096, true, -1, 0, 0, 0⟩ n N) (ht : tag.toList = [70, 52, 83, 67]) :
    Calls Tryd.prog 14 #[.string tag, .int .i64 n] w fun e w' => ∃ g, e = .returned (.slice (some ⟨g, 0, none⟩) N N) ∧ w.heap.size ≤ g ∧ Row w' g (firsts ⟨⟨#[70, 52, 83, 67]⟩, 32768, 32768, 4096, true, -1, 0, 0, 0⟩ n N) ∧ Below w.heap.size w w' := by
  have HV : Hid (fit tag n = _) := fit_yes hf hft hs
  obtain rfl : N = 1 := by have := hs.win; simp only at this; omega
  obtain rfl : n = 32768 := by unfold fits at hft; simp at hft; omega
  clear hf hft hs
  go_enter Tryd.func14, Tryd.ntmps14
  go_wp2_with (go_at_call 11; fail)
  refine (RFit tag _ w).mono ?_
  rintro e w2 ⟨rfl, hB2⟩
  rw [HV.out]
  have HB2 : Hid (Below w.heap.size w w2) := hB2
  clear hB2 HV
  simp only
  unfold shape
  iterate 15 go_step
  generalize hw3 : w2.alloc _ = w3
  have HB3 : Hid (Below w.heap.size w w3) := (by rw [← hw3]; exact HB2.out.alloc HB2.out.size _ : Below w.heap.size w w3)
  have hS3 := heap_alloc_new w2
  have c0 : w3.cell? ⟨w2.heap.size, 0, none⟩ = some (.int .i64 8) := by rw [← hw3]; exact cell_of_row _ _ _ _ _ _ (hS3 _)
  have h23 : w.heap.size ≤ w3.heap.size := HB3.out.size
  clear hw3 hS3 HB2
  generalize w2.heap.size = S at *
  go_wp2
  go_returns
  exact ⟨_, rfl, h23, heap_alloc_new _ _, HB3.out.alloc h23 _⟩

set_option maxRecDepth 100000 in
set_option maxHeartbeats 4000000 in
theorem RFirstF6 (tag : ByteArray) (n : Int) (N : Nat) (w : World) (hf : find tag = some ⟨⟨#[70, 54]⟩, 16384, 16384, 4096, false, -1, 0, 0, 0⟩) (hft : fits ⟨⟨#[70, 54]⟩, 16384, 16384, 4096, false, -1, 0, 0, 0⟩ n = true) (hs : Sound ⟨⟨#[70, 54]⟩, 16384, 16384, 4096, false, -1, 0, 0, 0⟩ n N) (ht : tag.toList = [70, 54]) :
    Calls Tryd.prog 14 #[.string tag, .int .i64 n] w fun e w' => ∃ g, e = .returned (.slice (some ⟨g, 0, none⟩) N N) ∧ w.heap.size ≤ g ∧ Row w' g (firsts ⟨⟨#[70, 54]⟩, 16384, 16384, 4096, false, -1, 0, 0, 0⟩ n N) ∧ Below w.heap.size w w' := by
  have HV : Hid (fit tag n = _) := fit_yes hf hft hs
  obtain rfl : N = 1 := by have := hs.win; simp only at this; omega
  obtain rfl : n = 16384 := by unfold fits at hft; simp at hft; omega
  clear hf hft hs
  go_enter Tryd.func14, Tryd.ntmps14
  go_wp2_with (go_at_call 11; fail)
  refine (RFit tag _ w).mono ?_
  rintro e w2 ⟨rfl, hB2⟩
  rw [HV.out]
  have HB2 : Hid (Below w.heap.size w w2) := hB2
  clear hB2 HV
  simp only
  unfold shape
  iterate 15 go_step
  generalize hw3 : w2.alloc _ = w3
  have HB3 : Hid (Below w.heap.size w w3) := (by rw [← hw3]; exact HB2.out.alloc HB2.out.size _ : Below w.heap.size w w3)
  have hS3 := heap_alloc_new w2
  have c0 : w3.cell? ⟨w2.heap.size, 0, none⟩ = some (.int .i64 4) := by rw [← hw3]; exact cell_of_row _ _ _ _ _ _ (hS3 _)
  have h23 : w.heap.size ≤ w3.heap.size := HB3.out.size
  clear hw3 hS3 HB2
  generalize w2.heap.size = S at *
  go_wp2
  go_returns
  exact ⟨_, rfl, h23, heap_alloc_new _ _, HB3.out.alloc h23 _⟩

set_option maxRecDepth 100000 in
set_option maxHeartbeats 4000000 in
theorem RFirstF6SC (tag : ByteArray) (n : Int) (N : Nat) (w : World) (hf : find tag = some ⟨⟨#[70, 54, 83, 67]⟩, 16384, 16384, 4096, true, -1, 0, 0, 0⟩) (hft : fits ⟨⟨#[70, 54, 83, 67]⟩, 16384, 16384, 4096, true, -1, 0, 0, 0⟩ n = true) (hs : Sound ⟨⟨#[70, 54, 83, 67]⟩, 16384, 16384, 4096, true, -1, 0, 0, 0⟩ n N) (ht : tag.toList = [70, 54, 83, 67]) :
    Calls Tryd.prog 14 #[.string tag, .int .i64 n] w fun e w' => ∃ g, e = .returned (.slice (some ⟨g, 0, none⟩) N N) ∧ w.heap.size ≤ g ∧ Row w' g (firsts ⟨⟨#[70, 54, 83, 67]⟩, 16384, 16384, 4096, true, -1, 0, 0, 0⟩ n N) ∧ Below w.heap.size w w' := by
  have HV : Hid (fit tag n = _) := fit_yes hf hft hs
  obtain rfl : N = 1 := by have := hs.win; simp only at this; omega
  obtain rfl : n = 16384 := by unfold fits at hft; simp at hft; omega
  clear hf hft hs
  go_enter Tryd.func14, Tryd.ntmps14
  go_wp2_with (go_at_call 11; fail)
  refine (RFit tag _ w).mono ?_
  rintro e w2 ⟨rfl, hB2⟩
  rw [HV.out]
  have HB2 : Hid (Below w.heap.size w w2) := hB2
  clear hB2 HV
  simp only
  unfold shape
  iterate 15 go_step
  generalize hw3 : w2.alloc _ = w3
  have HB3 : Hid (Below w.heap.size w w3) := (by rw [← hw3]; exact HB2.out.alloc HB2.out.size _ : Below w.heap.size w w3)
  have hS3 := heap_alloc_new w2
  have c0 : w3.cell? ⟨w2.heap.size, 0, none⟩ = some (.int .i64 4) := by rw [← hw3]; exact cell_of_row _ _ _ _ _ _ (hS3 _)
  have h23 : w.heap.size ≤ w3.heap.size := HB3.out.size
  clear hw3 hS3 HB2
  generalize w2.heap.size = S at *
  go_wp2
  go_returns
  exact ⟨_, rfl, h23, heap_alloc_new _ _, HB3.out.alloc h23 _⟩

set_option maxRecDepth 100000 in
set_option maxHeartbeats 4000000 in
theorem RFirstF8 (tag : ByteArray) (n : Int) (N : Nat) (w : World) (hf : find tag = some ⟨⟨#[70, 56]⟩, 8192, 8192, 4096, false, -1, 0, 0, 0⟩) (hft : fits ⟨⟨#[70, 56]⟩, 8192, 8192, 4096, false, -1, 0, 0, 0⟩ n = true) (hs : Sound ⟨⟨#[70, 56]⟩, 8192, 8192, 4096, false, -1, 0, 0, 0⟩ n N) (ht : tag.toList = [70, 56]) :
    Calls Tryd.prog 14 #[.string tag, .int .i64 n] w fun e w' => ∃ g, e = .returned (.slice (some ⟨g, 0, none⟩) N N) ∧ w.heap.size ≤ g ∧ Row w' g (firsts ⟨⟨#[70, 56]⟩, 8192, 8192, 4096, false, -1, 0, 0, 0⟩ n N) ∧ Below w.heap.size w w' := by
  have HV : Hid (fit tag n = _) := fit_yes hf hft hs
  obtain rfl : N = 1 := by have := hs.win; simp only at this; omega
  obtain rfl : n = 8192 := by unfold fits at hft; simp at hft; omega
  clear hf hft hs
  go_enter Tryd.func14, Tryd.ntmps14
  go_wp2_with (go_at_call 11; fail)
  refine (RFit tag _ w).mono ?_
  rintro e w2 ⟨rfl, hB2⟩
  rw [HV.out]
  have HB2 : Hid (Below w.heap.size w w2) := hB2
  clear hB2 HV
  simp only
  unfold shape
  iterate 15 go_step
  generalize hw3 : w2.alloc _ = w3
  have HB3 : Hid (Below w.heap.size w w3) := (by rw [← hw3]; exact HB2.out.alloc HB2.out.size _ : Below w.heap.size w w3)
  have hS3 := heap_alloc_new w2
  have c0 : w3.cell? ⟨w2.heap.size, 0, none⟩ = some (.int .i64 2) := by rw [← hw3]; exact cell_of_row _ _ _ _ _ _ (hS3 _)
  have h23 : w.heap.size ≤ w3.heap.size := HB3.out.size
  clear hw3 hS3 HB2
  generalize w2.heap.size = S at *
  go_wp2
  go_returns
  exact ⟨_, rfl, h23, heap_alloc_new _ _, HB3.out.alloc h23 _⟩

set_option maxRecDepth 100000 in
set_option maxHeartbeats 4000000 in
theorem RFirstF8SC (tag : ByteArray) (n : Int) (N : Nat) (w : World) (hf : find tag = some ⟨⟨#[70, 56, 83, 67]⟩, 8192, 8192, 4096, true, -1, 0, 0, 0⟩) (hft : fits ⟨⟨#[70, 56, 83, 67]⟩, 8192, 8192, 4096, true, -1, 0, 0, 0⟩ n = true) (hs : Sound ⟨⟨#[70, 56, 83, 67]⟩, 8192, 8192, 4096, true, -1, 0, 0, 0⟩ n N) (ht : tag.toList = [70, 56, 83, 67]) :
    Calls Tryd.prog 14 #[.string tag, .int .i64 n] w fun e w' => ∃ g, e = .returned (.slice (some ⟨g, 0, none⟩) N N) ∧ w.heap.size ≤ g ∧ Row w' g (firsts ⟨⟨#[70, 56, 83, 67]⟩, 8192, 8192, 4096, true, -1, 0, 0, 0⟩ n N) ∧ Below w.heap.size w w' := by
  have HV : Hid (fit tag n = _) := fit_yes hf hft hs
  obtain rfl : N = 1 := by have := hs.win; simp only at this; omega
  obtain rfl : n = 8192 := by unfold fits at hft; simp at hft; omega
  clear hf hft hs
  go_enter Tryd.func14, Tryd.ntmps14
  go_wp2_with (go_at_call 11; fail)
  refine (RFit tag _ w).mono ?_
  rintro e w2 ⟨rfl, hB2⟩
  rw [HV.out]
  have HB2 : Hid (Below w.heap.size w w2) := hB2
  clear hB2 HV
  simp only
  unfold shape
  iterate 15 go_step
  generalize hw3 : w2.alloc _ = w3
  have HB3 : Hid (Below w.heap.size w w3) := (by rw [← hw3]; exact HB2.out.alloc HB2.out.size _ : Below w.heap.size w w3)
  have hS3 := heap_alloc_new w2
  have c0 : w3.cell? ⟨w2.heap.size, 0, none⟩ = some (.int .i64 2) := by rw [← hw3]; exact cell_of_row _ _ _ _ _ _ (hS3 _)
  have h23 : w.heap.size ≤ w3.heap.size := HB3.out.size
  clear hw3 hS3 HB2
  generalize w2.heap.size = S at *
  go_wp2
  go_returns
  exact ⟨_, rfl, h23, heap_alloc_new _ _, HB3.out.alloc h23 _⟩

set_option maxRecDepth 100000 in
set_option maxHeartbeats 4000000 in
theorem RFirstFE (tag : ByteArray) (n : Int) (N : Nat) (w : World) (hf : find tag = some ⟨⟨#[70, 69]⟩, 8192, 8192, 4096, false, 0, 0, 0, 0⟩) (hft : fits ⟨⟨#[70, 69]⟩, 8192, 8192, 4096, false, 0, 0, 0, 0⟩ n = true) (hs : Sound ⟨⟨#[70, 69]⟩, 8192, 8192, 4096, false, 0, 0, 0, 0⟩ n N) (ht : tag.toList = [70, 69]) :
    Calls Tryd.prog 14 #[.string tag, .int .i64 n] w fun e w' => ∃ g, e = .returned (.slice (some ⟨g, 0, none⟩) N N) ∧ w.heap.size ≤ g ∧ Row w' g (firsts ⟨⟨#[70, 69]⟩, 8192, 8192, 4096, false, 0, 0, 0, 0⟩ n N) ∧ Below w.heap.size w w' := by
  have HV : Hid (fit tag n = _) := fit_yes hf hft hs
  obtain rfl : N = 1 := by have := hs.win; simp only at this; omega
  obtain rfl : n = 8192 := by unfold fits at hft; simp at hft; omega
  clear hf hft hs
  go_enter Tryd.func14, Tryd.ntmps14
  go_wp2_with (go_at_call 11; fail)
  refine (RFit tag _ w).mono ?_
  rintro e w2 ⟨rfl, hB2⟩
  rw [HV.out]
  have HB2 : Hid (Below w.heap.size w w2) := hB2
  clear hB2 HV
  simp only
  unfold shape
  iterate 15 go_step
  generalize hw3 : w2.alloc _ = w3
  have HB3 : Hid (Below w.heap.size w w3) := (by rw [← hw3]; exact HB2.out.alloc HB2.out.size _ : Below w.heap.size w w3)
  have hS3 := heap_alloc_new w2
  have c0 : w3.cell? ⟨w2.heap.size, 0, none⟩ = some (.int .i64 2) := by rw [← hw3]; exact cell_of_row _ _ _ _ _ _ (hS3 _)
  have h23 : w.heap.size ≤ w3.heap.size := HB3.out.size
  clear hw3 hS3 HB2
  generalize w2.heap.size = S at *
  go_wp2
  go_returns
  exact ⟨_, rfl, h23, heap_alloc_new _ _, HB3.out.alloc h23 _⟩

theorem RFirst_yes (tag : ByteArray) (n : Int) (m : Mp) (N : Nat) (w : World) (hf : find tag = some m) (hft : fits m n = true) (hs : Sound m n N) :
    Calls Tryd.prog 14 #[.string tag, .int .i64 n] w fun e w' => ∃ g, e = .returned (.slice (some ⟨g, 0, none⟩) N N) ∧ w.heap.size ≤ g ∧ Row w' g (firsts m n N) ∧ Below w.heap.size w w' := by
  rcases tag_cases tag with ⟨m', hf', hm, ht⟩ | ⟨hf', _⟩
  · obtain rfl : m = m' := Option.some.inj (hf.symm.trans hf')
    simp only [mps, List.mem_cons, List.not_mem_nil, or_false] at hm
    rcases hm with rfl | rfl | rfl | rfl | rfl | rfl | rfl | rfl | rfl | rfl | rfl
    all_goals simp at ht
    · exact RFirst2K tag n N w hf hft hs ht
    · exact RFirst3F tag n N w hf hft hs ht
    · exact RFirst4K tag n N w hf hft hs ht
    · exact RFirstE0 tag n N w hf hft hs ht
    · exact RFirstF4 tag n N w hf hft hs ht
    · exact RFirstF4SC tag n N w hf hft hs ht
    · exact RFirstF6 tag n N w hf hft hs ht
    · exact RFirstF6SC tag n N w hf hft hs ht
    · exact RFirstF8 tag n N w hf hft hs ht
    · exact RFirstF8SC tag n N w hf hft hs ht
    · exact RFirstFE tag n N w hf hft hs ht
  · rw [hf] at hf'; cases hf'

end Go.Proofs.YtcohalkofahphaaDoor.Img
