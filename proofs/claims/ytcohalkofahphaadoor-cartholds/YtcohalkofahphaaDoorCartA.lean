/- What New does. -/
import Derived.Test.YtcohalkofahphaaDoorCart9
set_option linter.unusedSimpArgs false
set_option linter.unusedVariables false
namespace Go.Proofs.YtcohalkofahphaaDoor.Ca
open Go.RowKit Img

def z9 : Array Value := #[.string ByteArray.empty, .int .i64 0, .int .i64 0, .int .i64 0, .bool false, .int .i64 0, .int .i64 0, .int .i64 0, .int .i64 0]

set_option maxRecDepth 100000 in
set_option maxHeartbeats 4000000 in
theorem open_no (tag : ByteArray) (n : Nat) (ao : Option Addr) (cap : Nat) (w : World) (ht : Tab w) (c : Int) (hc : ¬ c = 0) (he : fit tag (n : Int) = .tuple #[Img.shape 0 0 0 false, .int .i64 c]) :
    Calls Tryd.prog 36 #[.string tag, .slice ao n cap] w fun e w' => e = .returned (.tuple #[.agg z9, .int .i64 c]) ∧ Below w.heap.size w w' := by
  have h0 := ht.lt
  have HT : Hid (Tab w) := ht
  have HE : Hid (fit tag (n : Int) = .tuple #[Img.shape 0 0 0 false, .int .i64 c]) := he
  clear ht he
  go_enter Tryd.func36, Tryd.ntmps36
  go_wp2_with (go_at_call 10; fail)
  generalize hw1 : w.alloc _ = w1
  have hB1 : Below w.heap.size w w1 := by rw [← hw1]; exact (Below.refl _ _).alloc (Nat.le_refl _) _
  have hZ1 : w1.heap[w.heap.size]? = some (.cells z9 77 (0, 0)) := by rw [← hw1]; exact heap_alloc_new _ _
  have HB1 : Hid (Below w.heap.size w w1) := hB1
  clear hw1 hB1
  obtain ⟨R, hR⟩ : ∃ R, R = w.heap.size := ⟨_, rfl⟩
  rw [← hR] at hZ1 ⊢
  have hR1 : w.heap.size ≤ R := by omega
  clear hR
  refine (Fit tag n _ (HT.out.below HB1.out h0)).mono ?_
  rintro e w2 ⟨rfl, hB2⟩
  rw [HE.out]
  have hRl : R < w1.heap.size := (Array.getElem?_eq_some_iff.1 hZ1).1
  have HB2 : Hid (Below w.heap.size w w2) := HB1.out.trans (hB2.mono HB1.out.size)
  have hZ2 : w2.heap[R]? = some (.cells z9 77 (0, 0)) := (hB2.block R hRl).trans hZ1
  clear hB2 HB1 hZ1 HE
  simp only
  unfold Img.shape
  iterate 15 go_step
  generalize hw3 : w2.alloc _ = w3
  have hB3 : Below w2.heap.size w2 w3 := by rw [← hw3]; exact (Below.refl _ _).alloc (Nat.le_refl _) _
  have hRl2 : R < w2.heap.size := (Array.getElem?_eq_some_iff.1 hZ2).1
  have hZ3 : w3.heap[R]? = some (.cells z9 77 (0, 0)) := (hB3.block R hRl2).trans hZ2
  have HB3 : Hid (Below w.heap.size w w3) := HB2.out.trans (hB3.mono HB2.out.size)
  have y0 : w3.cell? ⟨R, 0, none⟩ = some (.string ByteArray.empty) := cell_of_row _ _ _ _ _ _ hZ3
  have y1 : w3.cell? ⟨R, 1, none⟩ = some (.int .i64 0) := cell_of_row _ _ _ _ _ _ hZ3
  have y2 : w3.cell? ⟨R, 2, none⟩ = some (.int .i64 0) := cell_of_row _ _ _ _ _ _ hZ3
  have y3 : w3.cell? ⟨R, 3, none⟩ = some (.int .i64 0) := cell_of_row _ _ _ _ _ _ hZ3
  have y4 : w3.cell? ⟨R, 4, none⟩ = some (.bool false) := cell_of_row _ _ _ _ _ _ hZ3
  have y5 : w3.cell? ⟨R, 5, none⟩ = some (.int .i64 0) := cell_of_row _ _ _ _ _ _ hZ3
  have y6 : w3.cell? ⟨R, 6, none⟩ = some (.int .i64 0) := cell_of_row _ _ _ _ _ _ hZ3
  have y7 : w3.cell? ⟨R, 7, none⟩ = some (.int .i64 0) := cell_of_row _ _ _ _ _ _ hZ3
  have y8 : w3.cell? ⟨R, 8, none⟩ = some (.int .i64 0) := cell_of_row _ _ _ _ _ _ hZ3
  have hf : ∀ o, w3.frozen? ⟨R, o, none⟩ = false := fun o => frozen_of_row _ _ _ _ _ hZ3
  clear hw3 hB3 hZ3 hZ2 HB2
  go_wp2
  refine bodyPost_ret (v := .tuple #[.agg z9, .int .i64 c]) (by simp [results, Tryd.f36, go_sem, z9, y0, y1, y2, y3, y4, y5, y6, y7, y8]; rfl) rfl ⟨rfl, ?_⟩
  exact ((((((((HB3.out.setCell (p := ⟨R, 0, none⟩) hR1 _).setCell (p := ⟨R, 1, none⟩) hR1 _).setCell (p := ⟨R, 2, none⟩) hR1 _).setCell (p := ⟨R, 3, none⟩) hR1 _).setCell (p := ⟨R, 4, none⟩) hR1 _).setCell (p := ⟨R, 5, none⟩) hR1 _).setCell (p := ⟨R, 6, none⟩) hR1 _).setCell (p := ⟨R, 7, none⟩) hR1 _).setCell (p := ⟨R, 8, none⟩) hR1 _

set_option maxRecDepth 100000 in
set_option maxHeartbeats 4000000 in
theorem New_no (tag : ByteArray) (n : Nat) (ao : Option Addr) (cap : Nat) (ex : List Int) (w : World) (ht : Tab w) (c : Int) (hc : ¬ c = 0) (he : fit tag (n : Int) = .tuple #[Img.shape 0 0 0 false, .int .i64 c]) :
    Calls Tryd.prog 18 #[.string tag, .slice ao n cap, .agg (bytes ex).toArray] w fun e w' => e = .returned (.tuple #[.pointer none, .int .i64 c]) ∧ Below w.heap.size w w' := by
  have h0 := ht.lt
  have HT : Hid (Tab w) := ht
  have HE : Hid (fit tag (n : Int) = .tuple #[Img.shape 0 0 0 false, .int .i64 c]) := he
  clear ht he
  go_enter Tryd.func18, Tryd.ntmps18
  go_wp2_with (go_at_call 36; fail)
  generalize hw1 : w.alloc _ = w1
  have HB1 : Hid (Below w.heap.size w w1) := (by rw [← hw1]; exact (Below.refl _ _).alloc (Nat.le_refl _) _ : Below w.heap.size w w1)
  clear hw1
  refine (open_no tag n ao cap _ (HT.out.below HB1.out h0) c hc HE.out).mono ?_
  rintro e w2 ⟨rfl, hB2⟩
  have HB2 : Hid (Below w.heap.size w w2) := HB1.out.trans (hB2.mono HB1.out.size)
  clear hB2 HB1 HE
  simp only
  unfold z9
  iterate 15 go_step
  generalize hw3 : w2.alloc _ = w3
  have HB3 : Hid (Below w.heap.size w w3) := (by rw [← hw3]; exact HB2.out.alloc HB2.out.size _ : Below w.heap.size w w3)
  clear hw3 HB2
  go_wp2
  go_returns
  exact ⟨rfl, HB3.out⟩

end Go.Proofs.YtcohalkofahphaaDoor.Ca
