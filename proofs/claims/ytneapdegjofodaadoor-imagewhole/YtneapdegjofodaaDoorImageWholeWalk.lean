/- ImageWhole, walked. -/
import Derived.Test.YtneapdegjofodaaDoorSound
namespace Go.Proofs.YtneapdegjofodaaDoor.Img
open Go.RowKit

theorem fit_cases (tag : ByteArray) (n : Int) : (∃ m N, find tag = some m ∧ fits m n = true ∧ Sound m n N ∧ fit tag n = .tuple #[shape (n / m.size) m.size N m.extra, .int .i64 0]) ∨
    ((find tag = none ∨ ∃ m, find tag = some m ∧ fits m n = false) ∧ ∃ c : Int, (c = 3 ∨ c = 4) ∧ fit tag n = .tuple #[shape 0 0 0 false, .int .i64 c]) := by
  unfold fit
  match hf : find tag with
  | none => exact .inr ⟨.inl rfl, 3, .inl rfl, rfl⟩
  | some m =>
    match hft : fits m n with
    | true =>
      obtain ⟨N, hN⟩ := sound hf hft
      refine .inl ⟨m, N, rfl, hft, hN, ?_⟩
      simp only
      rw [if_pos hft, hN.win]
    | false =>
      refine .inr ⟨.inr ⟨m, rfl, hft⟩, 4, .inr rfl, ?_⟩
      simp only
      rw [if_neg (by rw [hft]; exact Bool.false_ne_true)]

set_option maxRecDepth 100000 in
set_option maxHeartbeats 2000000 in
theorem whole_no (tag : ByteArray) (n c : Int) (w : World) (ht : Tab w) (hf : find tag = none ∨ ∃ m, find tag = some m ∧ fits m n = false) (hc : c = 3 ∨ c = 4) (he : fit tag n = .tuple #[shape 0 0 0 false, .int .i64 c]) :
    Calls Tryd.prog 5 #[.string tag, .int .i64 n] w fun e w' => e = .returned (.bool true) ∧ Below w.heap.size w w' := by
  have h0 := ht.lt
  have HT : Hid (Tab w) := ht
  have HF : Hid (find tag = none ∨ ∃ m, find tag = some m ∧ fits m n = false) := hf
  have HE : Hid (fit tag n = .tuple #[shape 0 0 0 false, .int .i64 c]) := he
  have hc0 : ¬ c = 0 := by omega
  clear ht hf he hc
  go_enter Tryd.func5, Tryd.ntmps5
  go_wp2_with (go_at_call 6; fail)
  refine (Fit tag n _ HT.out).mono ?_
  rintro e w1 ⟨rfl, hB1⟩
  rw [HE.out]
  have HB1 : Hid (Below w.heap.size w w1) := hB1
  have HT1 : Hid (Tab w1) := HT.out.below hB1 h0
  clear hB1 HT
  simp only
  unfold shape
  iterate 15 go_step
  generalize hw2 : w1.alloc _ = w2
  have hB2 : Below w1.heap.size w1 w2 := by rw [← hw2]; exact (Below.refl _ _).alloc (Nat.le_refl _) _
  have hS2 : w2.heap[w1.heap.size]? = some (.cells #[.int .i64 0, .int .i64 0, .int .i64 0, .bool false] 23 (0, 0)) := by rw [← hw2]; exact heap_alloc_new _ _
  have hS : w.heap.size ≤ w1.heap.size := HB1.out.size
  have HT2 : Hid (Tab w2) := HT1.out.below hB2 (by omega)
  have HB2 : Hid (Below w.heap.size w w2) := HB1.out.trans (hB2.mono hS)
  generalize w1.heap.size = S at *
  clear hw2 hB2 HT1 HB1
  have hSl : S < w2.heap.size := (Array.getElem?_eq_some_iff.1 hS2).1
  go_wp2_with (go_at_call 9; fail)
  refine (First_no tag n _ HT2.out HF.out).mono ?_
  rintro e w3 ⟨rfl, hB3⟩
  have hS3 : w3.heap[S]? = some (.cells #[.int .i64 0, .int .i64 0, .int .i64 0, .bool false] 23 (0, 0)) := (hB3.block S hSl).trans hS2
  obtain ⟨s0, s1, s2, s3⟩ : w3.cell? ⟨S, 0, none⟩ = some (.int .i64 0) ∧ w3.cell? ⟨S, 1, none⟩ = some (.int .i64 0) ∧ w3.cell? ⟨S, 2, none⟩ = some (.int .i64 0) ∧ w3.cell? ⟨S, 3, none⟩ = some (.bool false) := ⟨cell_of_row _ _ _ _ _ _ hS3, cell_of_row _ _ _ _ _ _ hS3, cell_of_row _ _ _ _ _ _ hS3, cell_of_row _ _ _ _ _ _ hS3⟩
  have HB3 : Hid (Below w.heap.size w w3) := HB2.out.trans (hB3.mono HB2.out.size)
  have HT3 : Hid (Tab w3) := HT2.out.below hB3 (by omega)
  clear hB3 hS3 hS2 HB2 HT2
  go_wp2_with (go_at_call 11; refine (awake4 _ HT3.out).mono ?_; rintro e w4 ⟨rfl, hb4⟩)
  go_ret
  exact ⟨rfl, HB3.out.trans (hb4.mono HB3.out.size)⟩

set_option maxRecDepth 100000 in
set_option maxHeartbeats 4000000 in
theorem whole_yes (tag : ByteArray) (n : Int) (m : Mp) (N : Nat) (w : World) (ht : Tab w) (hf : find tag = some m) (hft : fits m n = true) (hs : Sound m n N) (he : fit tag n = .tuple #[shape (n / m.size) m.size N m.extra, .int .i64 0]) :
    Calls Tryd.prog 5 #[.string tag, .int .i64 n] w fun e w' => e = .returned (.bool true) ∧ Below w.heap.size w w' := by
  have h0 := ht.lt
  have HT : Hid (Tab w) := ht
  have HF : Hid (find tag = some m ∧ fits m n = true) := ⟨hf, hft⟩
  have HE : Hid (fit tag n = .tuple #[shape (n / m.size) m.size N m.extra, .int .i64 0]) := he
  have HS : Hid (Sound m n N) := hs
  have hb1 := hs.b1
  have hb2 := hs.b2
  have hsz := hs.size
  have hwh := hs.whole
  have hn4 := hs.le4
  have hn1 : 1 ≤ n := fits_pos hft (step_pos hf).1
  have hn2 : n ≤ 524288 := fits_most hft hf
  clear ht hf hft he hs
  go_enter Tryd.func5, Tryd.ntmps5
  go_wp2_with (go_at_call 6; fail)
  refine (Fit tag n _ HT.out).mono ?_
  rintro e w1 ⟨rfl, hB1⟩
  rw [HE.out]
  have HB1 : Hid (Below w.heap.size w w1) := hB1
  have HT1 : Hid (Tab w1) := HT.out.below hB1 h0
  clear hB1 HT
  simp only
  unfold shape
  iterate 15 go_step
  generalize hw2 : w1.alloc _ = w2
  have hB2 : Below w1.heap.size w1 w2 := by rw [← hw2]; exact (Below.refl _ _).alloc (Nat.le_refl _) _
  have hS2 : w2.heap[w1.heap.size]? = some (.cells #[.int .i64 (n / m.size), .int .i64 m.size, .int .i64 N, .bool m.extra] 23 (0, 0)) := by rw [← hw2]; exact heap_alloc_new _ _
  have hS : w.heap.size ≤ w1.heap.size := HB1.out.size
  have HT2 : Hid (Tab w2) := HT1.out.below hB2 (by omega)
  have HB2 : Hid (Below w.heap.size w w2) := HB1.out.trans (hB2.mono hS)
  generalize w1.heap.size = S at *
  clear hw2 hB2 HT1 HB1
  have hSl : S < w2.heap.size := (Array.getElem?_eq_some_iff.1 hS2).1
  go_wp2_with (go_at_call 9; fail)
  refine (First_yes tag n m N _ HT2.out HF.out.1 HF.out.2 HS.out.win HS.out.le4).mono ?_
  rintro e w3 ⟨g3, rfl, hg3, hR3, hB3⟩
  have hS3 : w3.heap[S]? = some (.cells #[.int .i64 (n / m.size), .int .i64 m.size, .int .i64 N, .bool m.extra] 23 (0, 0)) := (hB3.block S hSl).trans hS2
  obtain ⟨s0, s1, s2, s3⟩ : w3.cell? ⟨S, 0, none⟩ = some (.int .i64 (n / m.size)) ∧ w3.cell? ⟨S, 1, none⟩ = some (.int .i64 m.size) ∧ w3.cell? ⟨S, 2, none⟩ = some (.int .i64 N) ∧ w3.cell? ⟨S, 3, none⟩ = some (.bool m.extra) := ⟨cell_of_row _ _ _ _ _ _ hS3, cell_of_row _ _ _ _ _ _ hS3, cell_of_row _ _ _ _ _ _ hS3, cell_of_row _ _ _ _ _ _ hS3⟩
  have HB3 : Hid (Below w.heap.size w w3) := HB2.out.trans (hB3.mono HB2.out.size)
  have HT3 : Hid (Tab w3) := HT2.out.below hB3 (by omega)
  have HR3 : Hid (Row w3 g3 (firsts m n N)) := hR3
  clear hB3 hS3 hS2 HB2 HT2 hR3
  go_wp2
  go_loopw [8] (fun i wr => ∃ k q : Nat, k ≤ N ∧ i = .int .i64 (k : Int) ∧ wr = w3.drewN q) (fun i _ => N - (intOf i).toNat)
  case atStart => exact ⟨0, 0, Nat.zero_le _, rfl, rfl⟩
  case round =>
    obtain ⟨k, q, hk, rfl, rfl⟩ := hrel
    by_cases hl : k < N
    · obtain ⟨x, hx⟩ : ∃ x, (firsts m n N)[k]? = some x := ⟨_, List.getElem?_eq_getElem (by rw [HS.out.len]; exact hl)⟩
      obtain ⟨r0, r1⟩ := HS.out.rng k x hx
      obtain ⟨cx, _⟩ := HR3.out.at_ hx
      have k0 : (0 : Int) ≤ (k : Int) := by omega
      have k1 : (k : Int) < (N : Int) := by omega
      clear hx
      go_wp2
      go_quiet (fail)
      go_wp2
      go_roundw
      case rel => exact ⟨k + 1, _, by omega, by go_num, rfl⟩
      case measure => simp [intOf]; omega
    · have hkl : (N : Int) ≤ (k : Int) := by omega
      go_wp2_with (go_at_call 11; refine (awake4 _ (by first | exact HT3.out | exact HT3.out.below (below_drewN (Below.refl _ w3) _) (by omega))).mono ?_; rintro e w4 ⟨rfl, hb4⟩)
      go_ret
      exact ⟨rfl, (below_drewN HB3.out _).trans (hb4.mono HB3.out.size)⟩

theorem imageWhole_walk (tag : ByteArray) (n : Int) (w : World) (ht : Tab w) :
    Calls Tryd.prog 5 #[.string tag, .int .i64 n] w fun e w' => e = .returned (.bool true) ∧ Below w.heap.size w w' := by
  rcases fit_cases tag n with ⟨m, N, hf, hft, hs, he⟩ | ⟨hf, c, hc, he⟩
  · exact whole_yes tag n m N w ht hf hft hs he
  · exact whole_no tag n c w ht hf hc he

end Go.Proofs.YtneapdegjofodaaDoor.Img
