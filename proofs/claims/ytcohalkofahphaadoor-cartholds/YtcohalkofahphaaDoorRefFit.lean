/- What the document's own Fit answers: the same. -/
import Derived.Test.YtcohalkofahphaaDoorSound
set_option linter.unusedSimpArgs false
namespace Go.Proofs.YtcohalkofahphaaDoor.Img
open Go.RowKit

/-- A tag is a mapper's, or none of the eleven. -/
theorem tag_cases (tag : ByteArray) : (∃ m, find tag = some m ∧ m ∈ mps ∧ tag.toList = m.tag.toList) ∨ (find tag = none ∧ ∀ m ∈ mps, (tag.toList == m.tag.toList) = false) := by
  match h : find tag with
  | some m =>
    have h1 := List.find?_some h
    exact .inl ⟨m, rfl, List.mem_of_find?_eq_some h, (by simpa using h1 : m.tag.toList = tag.toList).symm⟩
  | none =>
    have h1 := List.find?_eq_none.1 h
    exact .inr ⟨rfl, fun m hm => by
      have := h1 m hm
      simp only [beq_iff_eq] at this
      exact beq_eq_false_iff_ne.2 (fun e => this e.symm)⟩

theorem fit_of {tag : ByteArray} {m : Mp} (n : Int) (h : find tag = some m) : fit tag n = if fits m n then .tuple #[shape (n / m.size) m.size (4096 / m.size) m.extra, .int .i64 0] else .tuple #[shape 0 0 0 false, .int .i64 4] := by
  unfold fit
  rw [h]
theorem not_fits {m : Mp} {n : Int} (h : m.step = m.most) (_ : 1 ≤ m.step) (hn : ¬ n = m.most) : fits m n = false := by
  unfold fits
  by_cases h1 : m.step ≤ n
  · have h2 : ¬ n ≤ m.most := by omega
    simp [h2]
  · simp [h1]

set_option maxRecDepth 100000 in
set_option maxHeartbeats 4000000 in
theorem RFit2K (tag : ByteArray) (n : Int) (w : World) (hf : find tag = some ⟨⟨#[50, 75]⟩, 2048, 2048, 2048, false, 0, 0, 0, 0⟩) (ht : tag.toList = [50, 75]) (hz : tag.size = 2) : Calls Tryd.prog 11 #[.string tag, .int .i64 n] w fun e w' => e = .returned (fit tag n) ∧ Below w.heap.size w w' := by
  have HF : Hid (fit tag n = _) := fit_of n hf
  clear hf
  by_cases hn : n = 2048
  · subst hn
    go_enter Tryd.func11, Tryd.ntmps11
    go_wp2
    go_region_held3 (fun _ => True) (trivial) (fail)
    all_goals go_wp2
    all_goals go_returns
    all_goals exact ⟨by rw [HF.out]; rfl, by go_grown⟩
  · have HN : Hid (fits ⟨⟨#[50, 75]⟩, 2048, 2048, 2048, false, 0, 0, 0, 0⟩ n = false) := not_fits rfl (by decide) hn
    go_enter Tryd.func11, Tryd.ntmps11
    go_wp2
    go_returns
    exact ⟨by rw [HF.out, HN.out]; rfl, by go_grown⟩

set_option maxRecDepth 100000 in
set_option maxHeartbeats 4000000 in
theorem RFit4K (tag : ByteArray) (n : Int) (w : World) (hf : find tag = some ⟨⟨#[52, 75]⟩, 4096, 4096, 4096, false, 0, 0, 0, 0⟩) (ht : tag.toList = [52, 75]) (hz : tag.size = 2) : Calls Tryd.prog 11 #[.string tag, .int .i64 n] w fun e w' => e = .returned (fit tag n) ∧ Below w.heap.size w w' := by
  have HF : Hid (fit tag n = _) := fit_of n hf
  clear hf
  by_cases hn : n = 4096
  · subst hn
    go_enter Tryd.func11, Tryd.ntmps11
    go_wp2
    go_region_held3 (fun _ => True) (trivial) (fail)
    all_goals go_wp2
    all_goals go_returns
    all_goals exact ⟨by rw [HF.out]; rfl, by go_grown⟩
  · have HN : Hid (fits ⟨⟨#[52, 75]⟩, 4096, 4096, 4096, false, 0, 0, 0, 0⟩ n = false) := not_fits rfl (by decide) hn
    go_enter Tryd.func11, Tryd.ntmps11
    go_wp2
    go_returns
    exact ⟨by rw [HF.out, HN.out]; rfl, by go_grown⟩

set_option maxRecDepth 100000 in
set_option maxHeartbeats 4000000 in
theorem RFitE0 (tag : ByteArray) (n : Int) (w : World) (hf : find tag = some ⟨⟨#[69, 48]⟩, 8192, 8192, 1024, false, 4, 5, 6, 7⟩) (ht : tag.toList = [69, 48]) (hz : tag.size = 2) : Calls Tryd.prog 11 #[.string tag, .int .i64 n] w fun e w' => e = .returned (fit tag n) ∧ Below w.heap.size w w' := by
  have HF : Hid (fit tag n = _) := fit_of n hf
  clear hf
  by_cases hn : n = 8192
  · subst hn
    go_enter Tryd.func11, Tryd.ntmps11
    go_wp2
    go_region_held3 (fun _ => True) (trivial) (fail)
    all_goals go_wp2
    all_goals go_returns
    all_goals exact ⟨by rw [HF.out]; rfl, by go_grown⟩
  · have HN : Hid (fits ⟨⟨#[69, 48]⟩, 8192, 8192, 1024, false, 4, 5, 6, 7⟩ n = false) := not_fits rfl (by decide) hn
    go_enter Tryd.func11, Tryd.ntmps11
    go_wp2
    go_returns
    exact ⟨by rw [HF.out, HN.out]; rfl, by go_grown⟩

set_option maxRecDepth 100000 in
set_option maxHeartbeats 4000000 in
theorem RFitF4 (tag : ByteArray) (n : Int) (w : World) (hf : find tag = some ⟨⟨#[70, 52]⟩, 32768, 32768, 4096, false, -1, 0, 0, 0⟩) (ht : tag.toList = [70, 52]) (hz : tag.size = 2) : Calls Tryd.prog 11 #[.string tag, .int .i64 n] w fun e w' => e = .returned (fit tag n) ∧ Below w.heap.size w w' := by
  have HF : Hid (fit tag n = _) := fit_of n hf
  clear hf
  by_cases hn : n = 32768
  · subst hn
    go_enter Tryd.func11, Tryd.ntmps11
    go_wp2
    go_region_held3 (fun _ => True) (trivial) (fail)
    all_goals go_wp2
    all_goals go_returns
    all_goals exact ⟨by rw [HF.out]; rfl, by go_grown⟩
  · have HN : Hid (fits ⟨⟨#[70, 52]⟩, 32768, 32768, 4096, false, -1, 0, 0, 0⟩ n = false) := not_fits rfl (by decide) hn
    go_enter Tryd.func11, Tryd.ntmps11
    go_wp2
    go_returns
    exact ⟨by rw [HF.out, HN.out]; rfl, by go_grown⟩

set_option maxRecDepth 100000 in
set_option maxHeartbeats 4000000 in
theorem RFitF4SC (tag : ByteArray) (n : Int) (w : World) (hf : find tag = some ⟨⟨#[70, 52, 83, 67]⟩, 32768, 32768, 4096, true, -1, 0, 0, 0⟩) (ht : tag.toList = [70, 52, 83, 67]) (hz : tag.size = 4) : Calls Tryd.prog 11 #[.string tag, .int .i64 n] w fun e w' => e = .returned (fit tag n) ∧ Below w.heap.size w w' := by
  have HF : Hid (fit tag n = _) := fit_of n hf
  clear hf
  by_cases hn : n = 32768
  · subst hn
    go_enter Tryd.func11, Tryd.ntmps11
    go_wp2
    go_region_held3 (fun _ => True) (trivial) (fail)
    all_goals go_wp2
    all_goals go_returns
    all_goals exact ⟨by rw [HF.out]; rfl, by go_grown⟩
  · have HN : Hid (fits ⟨⟨#[70, 52, 83, 67]⟩, 32768, 32768, 4096, true, -1, 0, 0, 0⟩ n = false) := not_fits rfl (by decide) hn
    go_enter Tryd.func11, Tryd.ntmps11
    go_wp2
    go_returns
    exact ⟨by rw [HF.out, HN.out]; rfl, by go_grown⟩

set_option maxRecDepth 100000 in
set_option maxHeartbeats 4000000 in
theorem RFitF6 (tag : ByteArray) (n : Int) (w : World) (hf : find tag = some ⟨⟨#[70, 54]⟩, 16384, 16384, 4096, false, -1, 0, 0, 0⟩) (ht : tag.toList = [70, 54]) (hz : tag.size = 2) : Calls Tryd.prog 11 #[.string tag, .int .i64 n] w fun e w' => e = .returned (fit tag n) ∧ Below w.heap.size w w' := by
  have HF : Hid (fit tag n = _) := fit_of n hf
  clear hf
  by_cases hn : n = 16384
  · subst hn
    go_enter Tryd.func11, Tryd.ntmps11
    go_wp2
    go_region_held3 (fun _ => True) (trivial) (fail)
    all_goals go_wp2
    all_goals go_returns
    all_goals exact ⟨by rw [HF.out]; rfl, by go_grown⟩
  · have HN : Hid (fits ⟨⟨#[70, 54]⟩, 16384, 16384, 4096, false, -1, 0, 0, 0⟩ n = false) := not_fits rfl (by decide) hn
    go_enter Tryd.func11, Tryd.ntmps11
    go_wp2
    go_returns
    exact ⟨by rw [HF.out, HN.out]; rfl, by go_grown⟩

set_option maxRecDepth 100000 in
set_option maxHeartbeats 4000000 in
theorem RFitF6SC (tag : ByteArray) (n : Int) (w : World) (hf : find tag = some ⟨⟨#[70, 54, 83, 67]⟩, 16384, 16384, 4096, true, -1, 0, 0, 0⟩) (ht : tag.toList = [70, 54, 83, 67]) (hz : tag.size = 4) : Calls Tryd.prog 11 #[.string tag, .int .i64 n] w fun e w' => e = .returned (fit tag n) ∧ Below w.heap.size w w' := by
  have HF : Hid (fit tag n = _) := fit_of n hf
  clear hf
  by_cases hn : n = 16384
  · subst hn
    go_enter Tryd.func11, Tryd.ntmps11
    go_wp2
    go_region_held3 (fun _ => True) (trivial) (fail)
    all_goals go_wp2
    all_goals go_returns
    all_goals exact ⟨by rw [HF.out]; rfl, by go_grown⟩
  · have HN : Hid (fits ⟨⟨#[70, 54, 83, 67]⟩, 16384, 16384, 4096, true, -1, 0, 0, 0⟩ n = false) := not_fits rfl (by decide) hn
    go_enter Tryd.func11, Tryd.ntmps11
    go_wp2
    go_returns
    exact ⟨by rw [HF.out, HN.out]; rfl, by go_grown⟩

set_option maxRecDepth 100000 in
set_option maxHeartbeats 4000000 in
theorem RFitF8 (tag : ByteArray) (n : Int) (w : World) (hf : find tag = some ⟨⟨#[70, 56]⟩, 8192, 8192, 4096, false, -1, 0, 0, 0⟩) (ht : tag.toList = [70, 56]) (hz : tag.size = 2) : Calls Tryd.prog 11 #[.string tag, .int .i64 n] w fun e w' => e = .returned (fit tag n) ∧ Below w.heap.size w w' := by
  have HF : Hid (fit tag n = _) := fit_of n hf
  clear hf
  by_cases hn : n = 8192
  · subst hn
    go_enter Tryd.func11, Tryd.ntmps11
    go_wp2
    go_region_held3 (fun _ => True) (trivial) (fail)
    all_goals go_wp2
    all_goals go_returns
    all_goals exact ⟨by rw [HF.out]; rfl, by go_grown⟩
  · have HN : Hid (fits ⟨⟨#[70, 56]⟩, 8192, 8192, 4096, false, -1, 0, 0, 0⟩ n = false) := not_fits rfl (by decide) hn
    go_enter Tryd.func11, Tryd.ntmps11
    go_wp2
    go_returns
    exact ⟨by rw [HF.out, HN.out]; rfl, by go_grown⟩

set_option maxRecDepth 100000 in
set_option maxHeartbeats 4000000 in
theorem RFitF8SC (tag : ByteArray) (n : Int) (w : World) (hf : find tag = some ⟨⟨#[70, 56, 83, 67]⟩, 8192, 8192, 4096, true, -1, 0, 0, 0⟩) (ht : tag.toList = [70, 56, 83, 67]) (hz : tag.size = 4) : Calls Tryd.prog 11 #[.string tag, .int .i64 n] w fun e w' => e = .returned (fit tag n) ∧ Below w.heap.size w w' := by
  have HF : Hid (fit tag n = _) := fit_of n hf
  clear hf
  by_cases hn : n = 8192
  · subst hn
    go_enter Tryd.func11, Tryd.ntmps11
    go_wp2
    go_region_held3 (fun _ => True) (trivial) (fail)
    all_goals go_wp2
    all_goals go_returns
    all_goals exact ⟨by rw [HF.out]; rfl, by go_grown⟩
  · have HN : Hid (fits ⟨⟨#[70, 56, 83, 67]⟩, 8192, 8192, 4096, true, -1, 0, 0, 0⟩ n = false) := not_fits rfl (by decide) hn
    go_enter Tryd.func11, Tryd.ntmps11
    go_wp2
    go_returns
    exact ⟨by rw [HF.out, HN.out]; rfl, by go_grown⟩

set_option maxRecDepth 100000 in
set_option maxHeartbeats 4000000 in
theorem RFitFE (tag : ByteArray) (n : Int) (w : World) (hf : find tag = some ⟨⟨#[70, 69]⟩, 8192, 8192, 4096, false, 0, 0, 0, 0⟩) (ht : tag.toList = [70, 69]) (hz : tag.size = 2) : Calls Tryd.prog 11 #[.string tag, .int .i64 n] w fun e w' => e = .returned (fit tag n) ∧ Below w.heap.size w w' := by
  have HF : Hid (fit tag n = _) := fit_of n hf
  clear hf
  by_cases hn : n = 8192
  · subst hn
    go_enter Tryd.func11, Tryd.ntmps11
    go_wp2
    go_region_held3 (fun _ => True) (trivial) (fail)
    all_goals go_wp2
    all_goals go_returns
    all_goals exact ⟨by rw [HF.out]; rfl, by go_grown⟩
  · have HN : Hid (fits ⟨⟨#[70, 69]⟩, 8192, 8192, 4096, false, 0, 0, 0, 0⟩ n = false) := not_fits rfl (by decide) hn
    go_enter Tryd.func11, Tryd.ntmps11
    go_wp2
    go_returns
    exact ⟨by rw [HF.out, HN.out]; rfl, by go_grown⟩

set_option maxRecDepth 100000 in
set_option maxHeartbeats 4000000 in
theorem RFit3F (tag : ByteArray) (n : Int) (w : World) (hf : find tag = some ⟨⟨#[51, 70]⟩, 2048, 524288, 2048, false, 0, -1, 0, 0⟩) (ht : tag.toList = [51, 70]) (hz : tag.size = 2) : Calls Tryd.prog 11 #[.string tag, .int .i64 n] w fun e w' => e = .returned (fit tag n) ∧ Below w.heap.size w w' := by
  have HF : Hid (fit tag n = _) := fit_of n hf
  clear hf
  by_cases h1 : n < 2048
  · have HN : Hid (fits ⟨⟨#[51, 70]⟩, 2048, 524288, 2048, false, 0, -1, 0, 0⟩ n = false) := (by unfold fits; simp; intro h; omega : fits _ n = false)
    go_enter Tryd.func11, Tryd.ntmps11
    go_wp2
    go_returns
    exact ⟨by rw [HF.out, HN.out]; rfl, by go_grown⟩
  by_cases h2 : 524288 < n
  · have HN : Hid (fits ⟨⟨#[51, 70]⟩, 2048, 524288, 2048, false, 0, -1, 0, 0⟩ n = false) := (by unfold fits; simp; intro h; omega : fits _ n = false)
    go_enter Tryd.func11, Tryd.ntmps11
    go_wp2
    go_returns
    exact ⟨by rw [HF.out, HN.out]; rfl, by go_grown⟩
  by_cases h3 : n % 2048 = 0
  · have HN : Hid (fits ⟨⟨#[51, 70]⟩, 2048, 524288, 2048, false, 0, -1, 0, 0⟩ n = true) := (by unfold fits; simp; omega : fits _ n = true)
    have h3' : (n % 2048 != 0) = false := by simp [h3]
    have hd : IntKind.i64.wrap (n.tdiv 2048) = n / 2048 := by rw [Int.tdiv_eq_ediv_of_nonneg (by omega), IntKind.wrap_i64]; omega
    go_enter Tryd.func11, Tryd.ntmps11
    go_wp2
    go_region_held3 (fun _ => True) (trivial) (fail)
    all_goals go_wp2
    all_goals go_returns
    all_goals exact ⟨by rw [HF.out, HN.out]; rfl, by go_grown⟩
  · have HN : Hid (fits ⟨⟨#[51, 70]⟩, 2048, 524288, 2048, false, 0, -1, 0, 0⟩ n = false) := (by unfold fits; simp; omega : fits _ n = false)
    have h3' : (n % 2048 != 0) = true := by simp [h3]
    go_enter Tryd.func11, Tryd.ntmps11
    go_wp2
    go_returns
    exact ⟨by rw [HF.out, HN.out]; rfl, by go_grown⟩

set_option maxRecDepth 100000 in
set_option maxHeartbeats 4000000 in
theorem RFitNo (tag : ByteArray) (n : Int) (w : World) (hf : find tag = none) (hn : ∀ m ∈ mps, (tag.toList == m.tag.toList) = false) : Calls Tryd.prog 11 #[.string tag, .int .i64 n] w fun e w' => e = .returned (fit tag n) ∧ Below w.heap.size w w' := by
  have HF : Hid (fit tag n = .tuple #[shape 0 0 0 false, .int .i64 3]) := (by unfold fit; rw [hf] : fit tag n = .tuple #[shape 0 0 0 false, .int .i64 3])
  simp [mps] at hn
  obtain ⟨n0, n1, n2, n3, n4, n5, n6, n7, n8, n9, na⟩ := hn
  have a0 := beq_eq_false_iff_ne.2 n0
  have a1 := beq_eq_false_iff_ne.2 n1
  have a2 := beq_eq_false_iff_ne.2 n2
  have a3 := beq_eq_false_iff_ne.2 n3
  have a4 := beq_eq_false_iff_ne.2 n4
  have a5 := beq_eq_false_iff_ne.2 n5
  have a6 := beq_eq_false_iff_ne.2 n6
  have a7 := beq_eq_false_iff_ne.2 n7
  have a8 := beq_eq_false_iff_ne.2 n8
  have a9 := beq_eq_false_iff_ne.2 n9
  have aa := beq_eq_false_iff_ne.2 na
  clear n0 n1 n2 n3 n4 n5 n6 n7 n8 n9 na hf
  go_enter Tryd.func11, Tryd.ntmps11
  go_wp2
  go_returns
  exact ⟨by rw [HF.out]; rfl, by go_grown⟩

theorem size_of {tag : ByteArray} {l : List UInt8} (h : tag.toList = l) : tag.size = l.length := by
  rw [← h, ByteArray.toList_eq]
  rfl

theorem RFit (tag : ByteArray) (n : Int) (w : World) : Calls Tryd.prog 11 #[.string tag, .int .i64 n] w fun e w' => e = .returned (fit tag n) ∧ Below w.heap.size w w' := by
  rcases tag_cases tag with ⟨m, hf, hm, ht⟩ | ⟨hf, hn⟩
  · simp only [mps, List.mem_cons, List.not_mem_nil, or_false] at hm
    rcases hm with rfl | rfl | rfl | rfl | rfl | rfl | rfl | rfl | rfl | rfl | rfl
    all_goals simp at ht
    · exact RFit2K tag n w hf ht (size_of ht)
    · exact RFit3F tag n w hf ht (size_of ht)
    · exact RFit4K tag n w hf ht (size_of ht)
    · exact RFitE0 tag n w hf ht (size_of ht)
    · exact RFitF4 tag n w hf ht (size_of ht)
    · exact RFitF4SC tag n w hf ht (size_of ht)
    · exact RFitF6 tag n w hf ht (size_of ht)
    · exact RFitF6SC tag n w hf ht (size_of ht)
    · exact RFitF8 tag n w hf ht (size_of ht)
    · exact RFitF8SC tag n w hf ht (size_of ht)
    · exact RFitFE tag n w hf ht (size_of ht)
  · exact RFitNo tag n w hf hn

end Go.Proofs.YtcohalkofahphaaDoor.Img
