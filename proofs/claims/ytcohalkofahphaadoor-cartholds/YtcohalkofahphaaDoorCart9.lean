/- What open does. -/
import Derived.Test.YtcohalkofahphaaDoorCart8
import Derived.Test.YtcohalkofahphaaDoorImageFitsWalk
import Derived.Deep.RegionHeldLaw
set_option linter.unusedSimpArgs false
set_option linter.unusedVariables false
namespace Go.Proofs.YtcohalkofahphaaDoor.Ca
open Go.RowKit Img

/-- A slice of bytes. -/
abbrev SeenB (w : World) (ao : Option Addr) (cap b off : Nat) (L : List Int) : Prop := Seen (fun x => Value.int .u8 x) w ao cap b off L
theorem conv {w : World} {ao : Option Addr} {cap b off : Nat} {L : List Int} (h : SeenB w ao cap b off L) (hne : L ≠ []) : (convert 40 9 (.slice ao L.length cap)).run Tryd.prog w = .ok (.string (strOfNums L)) w := by
  rw [h.at_ hne]
  exact run_convert_bytes_arg (P := Tryd.prog) w 40 5 Tryd.underlying40 Tryd.underlying5 b off L.length cap L rfl (fun i hi => by
    rw [h.cell i L[i] (List.getElem?_eq_getElem hi)]
    simp [List.getD, List.getElem?_eq_getElem hi]) 9 Tryd.underlying9

/-- What a window shows at power-on; 0 beyond the last one. -/
def pad (l : List Int) (k : Nat) : Int := l.getD k 0
theorem splice_pad (l : List Int) (h : l.length = 1 ∨ l.length = 2 ∨ l.length = 4) (a b c d e : Value) :
    splice (a :: b :: c :: d :: e :: .int .i64 0 :: .int .i64 0 :: .int .i64 0 :: .int .i64 0 :: []) 5 (l.map fun x => Value.int .i64 x) = [a, b, c, d, e, .int .i64 (pad l 0), .int .i64 (pad l 1), .int .i64 (pad l 2), .int .i64 (pad l 3)] := by
  rcases h with h | h | h
  · match l, h with
    | [x], _ => rfl
  · match l, h with
    | [x, y], _ => rfl
  · match l, h with
    | [x, y, z, u], _ => rfl

set_option maxRecDepth 100000 in
set_option maxHeartbeats 4000000 in
theorem open_yes (tag : ByteArray) (m : Mp) (N : Nat) (L : List Int) (ao : Option Addr) (cap b off : Nat) (w : World) (ht : Tab w) (hf : find tag = some m) (hft : fits m (L.length : Int) = true) (hs : Sound m (L.length : Int) N) (hS : SeenB w ao cap b off L) (hne : L ≠ []) :
    Calls Tryd.prog 36 #[.string tag, .slice ao L.length cap] w fun e w' => e = .returned (.tuple #[.agg #[.string (strOfNums L), .int .i64 ((L.length : Int) / m.size), .int .i64 m.size, .int .i64 N, .bool m.extra, .int .i64 (pad (firsts m L.length N) 0), .int .i64 (pad (firsts m L.length N) 1), .int .i64 (pad (firsts m L.length N) 2), .int .i64 (pad (firsts m L.length N) 3)], .int .i64 0]) ∧ Below w.heap.size w w' := by
  have h0 := ht.lt
  have hmax := hS.max
  have hle := hS.le
  have HE := fit_yes hf hft hs
  have HT : Hid (Tab w) := ht
  have HF : Hid (find tag = some m ∧ fits m (L.length : Int) = true ∧ Sound m (L.length : Int) N) := ⟨hf, hft, hs⟩
  have HS : Hid (SeenB w ao cap b off L) := hS
  have HN : Hid (L ≠ []) := hne
  have HL : Hid ((firsts m L.length N).length = N ∧ (N = 1 ∨ N = 2 ∨ N = 4)) := ⟨hs.len, by
    have h1 := hs.le4
    have h2 := hs.size
    have : N = 0 ∨ N = 1 ∨ N = 2 ∨ N = 3 ∨ N = 4 := by omega
    rcases this with rfl | rfl | rfl | rfl | rfl <;> simp at h2 ⊢ <;> omega⟩
  have hn4 := hs.le4
  clear ht hf hft hs hS hne
  go_enter Tryd.func36, Tryd.ntmps36
  go_wp2_with (go_at_call 10; fail)
  generalize hw1 : w.alloc _ = w1
  have hB1 : Below w.heap.size w w1 := by rw [← hw1]; exact (Below.refl _ _).alloc (Nat.le_refl _) _
  have hZ1 : w1.heap[w.heap.size]? = some (.cells #[.string ByteArray.empty, .int .i64 0, .int .i64 0, .int .i64 0, .bool false, .int .i64 0, .int .i64 0, .int .i64 0, .int .i64 0] 77 (0, 0)) := by rw [← hw1]; exact heap_alloc_new _ _
  have HB1 : Hid (Below w.heap.size w w1) := hB1
  clear hw1 hB1
  obtain ⟨R, hR⟩ : ∃ R, R = w.heap.size := ⟨_, rfl⟩
  rw [← hR] at hZ1 ⊢
  have hR1 : w.heap.size ≤ R := by omega
  have hR2 : R ≤ w.heap.size := by omega
  clear hR
  refine (Fit tag L.length _ (HT.out.below HB1.out h0)).mono ?_
  rintro e w2 ⟨rfl, hB2⟩
  rw [HE]
  have hRl : R < w1.heap.size := (Array.getElem?_eq_some_iff.1 hZ1).1
  have HB2 : Hid (Below w.heap.size w w2) := HB1.out.trans (hB2.mono HB1.out.size)
  have hZ2 : w2.heap[R]? = some (.cells #[.string ByteArray.empty, .int .i64 0, .int .i64 0, .int .i64 0, .bool false, .int .i64 0, .int .i64 0, .int .i64 0, .int .i64 0] 77 (0, 0)) := (hB2.block R hRl).trans hZ1
  clear hB2 HB1 hZ1 HE hRl
  simp only
  unfold Img.shape
  iterate 15 go_step
  generalize hw3 : w2.alloc _ = w3
  have hB3 : Below w2.heap.size w2 w3 := by rw [← hw3]; exact (Below.refl _ _).alloc (Nat.le_refl _) _
  have hS3 : w3.heap[w2.heap.size]? = some (.cells #[.int .i64 ((L.length : Int) / m.size), .int .i64 m.size, .int .i64 N, .bool m.extra] 23 (0, 0)) := by rw [← hw3]; exact heap_alloc_new _ _
  have hRl : R < w2.heap.size := (Array.getElem?_eq_some_iff.1 hZ2).1
  have HZ3 : Hid (w3.heap[R]? = some (.cells #[.string ByteArray.empty, .int .i64 0, .int .i64 0, .int .i64 0, .bool false, .int .i64 0, .int .i64 0, .int .i64 0, .int .i64 0] 77 (0, 0))) := (hB3.block R hRl).trans hZ2
  have HB3 : Hid (Below w.heap.size w w3) := HB2.out.trans (hB3.mono HB2.out.size)
  obtain ⟨s0, s1, s2, s3⟩ : w3.cell? ⟨w2.heap.size, 0, none⟩ = some (.int .i64 ((L.length : Int) / m.size)) ∧ w3.cell? ⟨w2.heap.size, 1, none⟩ = some (.int .i64 m.size) ∧ w3.cell? ⟨w2.heap.size, 2, none⟩ = some (.int .i64 N) ∧ w3.cell? ⟨w2.heap.size, 3, none⟩ = some (.bool m.extra) := ⟨cell_of_row _ _ _ _ _ _ hS3, cell_of_row _ _ _ _ _ _ hS3, cell_of_row _ _ _ _ _ _ hS3, cell_of_row _ _ _ _ _ _ hS3⟩
  have hcv := conv (HS.out.below HB3.out) HN.out
  have hRS : R < w3.heap.size := Nat.lt_of_lt_of_le hRl hB3.size
  clear hw3 hB3 hS3 hZ2 HB2 hRl
  generalize w2.heap.size = S at *
  go_wp2
  generalize hw4 : w3.alloc _ = w4
  have hB4 : Below w3.heap.size w3 w4 := by rw [← hw4]; exact (Below.refl _ _).alloc (Nat.le_refl _) _
  have HG4 : Hid (w4.heap[w3.heap.size]? = some (.cells [.string (strOfNums L), .int .i64 ((L.length : Int) / m.size), .int .i64 m.size, .int .i64 N, .bool m.extra, .int .i64 0, .int .i64 0, .int .i64 0, .int .i64 0].toArray 77 (0, 0))) := (by rw [← hw4]; exact heap_alloc_new _ _ : w4.heap[w3.heap.size]? = _)
  have HZ4 : Hid (w4.heap[R]? = some (.cells #[.string ByteArray.empty, .int .i64 0, .int .i64 0, .int .i64 0, .bool false, .int .i64 0, .int .i64 0, .int .i64 0, .int .i64 0] 77 (0, 0))) := (hB4.block R hRS).trans HZ3.out
  have HB4 : Hid (Below w.heap.size w w4) := HB3.out.trans (hB4.mono HB3.out.size)
  have hg3 : w.heap.size ≤ w3.heap.size := HB3.out.size
  have hG4 : w3.heap.size < w4.heap.size := (Array.getElem?_eq_some_iff.1 HG4.out).1
  clear hw4 hB4 HB3 HZ3 s0 s1 s2 s3 hcv
  generalize w3.heap.size = G at *
  go_region_held3 (fun _ => True) (trivial) (first
    | (go_at_call 13; refine (First_yes tag L.length m N _ (HT.out.below (by first | exact HB4.out | exact below_drewN HB4.out _) h0) HF.out.1 HF.out.2.1 HF.out.2.2.win HF.out.2.2.le4).mono ?_; rintro e w5 ⟨g5, rfl, hg5, hR5, hB5'⟩; have hB5 : Below w4.heap.size w4 w5 := (by first | exact hB5' | exact (below_drewN (Below.refl _ w4) _).trans hB5'); have HR5 : Hid (Row w5 g5 (firsts m L.length N)) := hR5; have HG5 : Hid (w5.heap[G]? = some (.cells [.string (strOfNums L), .int .i64 ((L.length : Int) / m.size), .int .i64 m.size, .int .i64 N, .bool m.extra, .int .i64 0, .int .i64 0, .int .i64 0, .int .i64 0].toArray 77 (0, 0))) := (hB5.block G hG4).trans HG4.out; have HZ5 : Hid (w5.heap[R]? = some (.cells #[.string ByteArray.empty, .int .i64 0, .int .i64 0, .int .i64 0, .bool false, .int .i64 0, .int .i64 0, .int .i64 0, .int .i64 0] 77 (0, 0))) := (hB5.block R (by omega)).trans HZ4.out; have HB5 : Hid (Below w.heap.size w w5) := HB4.out.trans (hB5.mono HB4.out.size); have hg5' : G < g5 := (by first | omega | (simp at hg5; omega)); clear hB5 hB5' hR5 hg5)
    | (refine step_copy_splice rfl _ _ 31 31 rfl 3 Tryd.underlying31 infoSize _ _ 4 4 N N rfl rfl G 5 [.string (strOfNums L), .int .i64 ((L.length : Int) / m.size), .int .i64 m.size, .int .i64 N, .bool m.extra, .int .i64 0, .int .i64 0, .int .i64 0, .int .i64 0] 77 HG5.out ((firsts m L.length N).map fun x => Value.int .i64 x) (by rw [List.length_map, HL.out.1]; exact (Nat.min_eq_left hn4).symm) (fun _ => ⟨rfl, _, rfl, fun j v hj => by
          rw [List.getElem?_map] at hj
          obtain ⟨x, hx, rfl⟩ := Option.map_eq_some_iff.1 hj
          rw [Addr.add_mid, Nat.zero_add]
          exact (HR5.out.at_ hx).1⟩) (by rw [List.length_map, HL.out.1]; simp; omega) (by intro v hv; obtain ⟨x, _, rfl⟩ := List.mem_map.1 hv; rfl) G w5 (Below.refl _ _) (Nat.le_refl _) ?_; intro w6 hrow6 hB6))
  have HG6 : Hid (w6.heap[G]? = some (.cells [.string (strOfNums L), .int .i64 ((L.length : Int) / m.size), .int .i64 m.size, .int .i64 N, .bool m.extra, .int .i64 (pad (firsts m L.length N) 0), .int .i64 (pad (firsts m L.length N) 1), .int .i64 (pad (firsts m L.length N) 2), .int .i64 (pad (firsts m L.length N) 3)].toArray 77 (0, 0))) := (by
    rw [hrow6.out, splice_pad _ (by rw [HL.out.1]; exact HL.out.2)] : w6.heap[G]? = _)
  have HZ6 : Hid (w6.heap[R]? = some (.cells #[.string ByteArray.empty, .int .i64 0, .int .i64 0, .int .i64 0, .bool false, .int .i64 0, .int .i64 0, .int .i64 0, .int .i64 0] 77 (0, 0))) := (hB6.block R (by omega)).trans HZ5.out
  have HB6 : Hid (Below w.heap.size w w6) := HB5.out.trans (hB6.mono hg3)
  have x0 : w6.cell? ⟨G, 0, none⟩ = some (.string (strOfNums L)) := cell_of_row _ _ _ _ _ _ HG6.out
  have x1 : w6.cell? ⟨G, 1, none⟩ = some (.int .i64 ((L.length : Int) / m.size)) := cell_of_row _ _ _ _ _ _ HG6.out
  have x2 : w6.cell? ⟨G, 2, none⟩ = some (.int .i64 m.size) := cell_of_row _ _ _ _ _ _ HG6.out
  have x3 : w6.cell? ⟨G, 3, none⟩ = some (.int .i64 N) := cell_of_row _ _ _ _ _ _ HG6.out
  have x4 : w6.cell? ⟨G, 4, none⟩ = some (.bool m.extra) := cell_of_row _ _ _ _ _ _ HG6.out
  have x5 : w6.cell? ⟨G, 5, none⟩ = some (.int .i64 (pad (firsts m L.length N) 0)) := cell_of_row _ _ _ _ _ _ HG6.out
  have x6 : w6.cell? ⟨G, 6, none⟩ = some (.int .i64 (pad (firsts m L.length N) 1)) := cell_of_row _ _ _ _ _ _ HG6.out
  have x7 : w6.cell? ⟨G, 7, none⟩ = some (.int .i64 (pad (firsts m L.length N) 2)) := cell_of_row _ _ _ _ _ _ HG6.out
  have x8 : w6.cell? ⟨G, 8, none⟩ = some (.int .i64 (pad (firsts m L.length N) 3)) := cell_of_row _ _ _ _ _ _ HG6.out
  have y0 : w6.cell? ⟨R, 0, none⟩ = some (.string ByteArray.empty) := cell_of_row _ _ _ _ _ _ HZ6.out
  have y1 : w6.cell? ⟨R, 1, none⟩ = some (.int .i64 0) := cell_of_row _ _ _ _ _ _ HZ6.out
  have y2 : w6.cell? ⟨R, 2, none⟩ = some (.int .i64 0) := cell_of_row _ _ _ _ _ _ HZ6.out
  have y3 : w6.cell? ⟨R, 3, none⟩ = some (.int .i64 0) := cell_of_row _ _ _ _ _ _ HZ6.out
  have y4 : w6.cell? ⟨R, 4, none⟩ = some (.bool false) := cell_of_row _ _ _ _ _ _ HZ6.out
  have y5 : w6.cell? ⟨R, 5, none⟩ = some (.int .i64 0) := cell_of_row _ _ _ _ _ _ HZ6.out
  have y6 : w6.cell? ⟨R, 6, none⟩ = some (.int .i64 0) := cell_of_row _ _ _ _ _ _ HZ6.out
  have y7 : w6.cell? ⟨R, 7, none⟩ = some (.int .i64 0) := cell_of_row _ _ _ _ _ _ HZ6.out
  have y8 : w6.cell? ⟨R, 8, none⟩ = some (.int .i64 0) := cell_of_row _ _ _ _ _ _ HZ6.out
  have hf6 : ∀ o, w6.frozen? ⟨R, o, none⟩ = false := fun o => frozen_of_row _ _ _ _ _ HZ6.out
  have hGR : ¬ G = R := by omega
  have hRG : ¬ R = G := by omega
  clear hrow6 hB6 HG5 HZ5 HB5 HR5 HG4 HZ4 HB4
  go_wp2
  refine bodyPost_ret (v := .tuple #[.agg #[.string (strOfNums L), .int .i64 ((L.length : Int) / m.size), .int .i64 m.size, .int .i64 N, .bool m.extra, .int .i64 (pad (firsts m L.length N) 0), .int .i64 (pad (firsts m L.length N) 1), .int .i64 (pad (firsts m L.length N) 2), .int .i64 (pad (firsts m L.length N) 3)], .int .i64 0]) (by simp [results, Tryd.f36, go_sem, y0, y1, y2, y3, y4, y5, y6, y7, y8]) rfl ⟨rfl, ?_⟩
  exact ((((((((HB6.out.setCell (p := ⟨R, 0, none⟩) hR1 _).setCell (p := ⟨R, 1, none⟩) hR1 _).setCell (p := ⟨R, 2, none⟩) hR1 _).setCell (p := ⟨R, 3, none⟩) hR1 _).setCell (p := ⟨R, 4, none⟩) hR1 _).setCell (p := ⟨R, 5, none⟩) hR1 _).setCell (p := ⟨R, 6, none⟩) hR1 _).setCell (p := ⟨R, 7, none⟩) hR1 _).setCell (p := ⟨R, 8, none⟩) hR1 _

end Go.Proofs.YtcohalkofahphaaDoor.Ca
