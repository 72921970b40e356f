/- Rows of bytes by value; what Extra and Copy do. -/
import Derived.Test.YtcohalkofahphaaDoorCart5
set_option linter.unusedSimpArgs false
set_option linter.unusedVariables false
namespace Go.Proofs.YtcohalkofahphaaDoor.Ca
open Go.RowKit Img

theorem setCells_new (w : World) (t : TypeId) : ∀ (L : List Value) (A : Array Value) (o : Nat), o + L.length = A.size → (w.alloc (.cells A t)).setCells w.heap.size o L = w.alloc (.cells (A.toList.take o ++ L).toArray t)
  | [], A, o, h => by
    rw [World.setCells, List.append_nil, List.take_of_length_le (by simp at h ⊢; omega)]
  | v :: L, A, o, h => by
    rw [World.setCells, World.setCell_alloc_new, setCells_new w t L _ (o + 1) (by simp at h ⊢; omega)]
    congr 3
    simp only [List.length_cons] at h
    have ho : o < A.toList.length := by simp; omega
    rw [Array.toList_setIfInBounds, List.take_add_one, List.take_set_of_le (Nat.le_refl _), List.getElem?_set_self ho]
    simp

/-- A row of bytes, as cells. -/
def bytes (l : List Int) : List Value := l.map fun x => .int .u8 x
theorem bytes_length (l : List Int) : (bytes l).length = l.length := List.length_map _
theorem one_bytes (l : List Int) : ∀ v ∈ bytes l, v.oneCell' = true := by intro v hv; obtain ⟨x, _, rfl⟩ := List.mem_map.1 hv; rfl
/-- So many bytes 0. -/
def zer : List Int := List.replicate 128 0
theorem zero128 (w : World) : (zeroValue 35).run Tryd.prog w = .ok (.agg (bytes zer).toArray) w := by
  have h : (Tryd.prog.info? 35).map (·.zero) = some (some (.agg (bytes zer).toArray)) := by kernel_rfl
  obtain ⟨i, h1, h2⟩ := Option.map_eq_some_iff.1 h
  simp [zeroValue, typeInfo, h1, h2]
theorem info128 : (Tryd.prog.info? 35).map (·.size) = some 128 := by kernel_rfl
theorem store_new {P : Program} (w : World) (t : TypeId) (A : Array Value) (L : List Value) (h : L.length = A.size) (h1 : ∀ v ∈ L, v.oneCell' = true) :
    (storeCells ⟨w.heap.size, 0, none⟩ L).run P (w.alloc (.cells A t)) = .ok () (w.alloc (.cells L.toArray t)) := by
  have hh := heap_alloc_new w (.cells A t)
  have := run_storeCells_cells (P := P) w.heap.size 0 L 0 (w.alloc (.cells A t)) (fun j hj => by
    rw [cell_of_row _ _ _ _ _ _ hh]; simp only [Nat.zero_add]; rw [Array.getElem?_eq_getElem (by omega)]; rfl) (fun j hj => frozen_of_row _ _ _ _ _ hh) h1
  rw [setCells_new w t L A (0 + 0) (by omega)] at this
  simpa using this

theorem load_new (w : World) (t : TypeId) (l : List Int) (h : l.length = 128) : (loadVar 35 ⟨w.heap.size, 0, none⟩).run Tryd.prog (w.alloc (.cells (bytes l).toArray t)) = .ok (.agg (bytes l).toArray) (w.alloc (.cells (bytes l).toArray t)) :=
  run_loadVar_mid _ _ 0 35 (bytes l) _ (fun j v hv => by
    rw [cell_of_row _ _ _ _ _ _ (heap_alloc_new w (.cells (bytes l).toArray t)), Nat.zero_add]
    simpa using hv) Tryd.underlying35 rfl (by rw [info128, bytes_length, h])
theorem CAt.exRange {w : World} {b : Nat} {c : Ct} (h : CAt w b c) : w.rangeAt b 17 (bytes c.ex) := fun j v hv => by
  rw [h.ex]
  unfold bytes at hv
  rw [List.getElem?_map] at hv
  exact hv
theorem CAt.range {w : World} {b : Nat} {c : Ct} (h : CAt w b c) : w.rangeAt b 0 c.cells := fun j v hv => by
  rw [h.cell, Nat.zero_add]
  exact hv
theorem cells_length {c : Ct} (h : c.ex.length = 128) : c.cells.length = 145 := by simp [Ct.cells, h]
theorem one_cells (c : Ct) : ∀ v ∈ c.cells, v.oneCell' = true := by
  intro v hv
  simp only [Ct.cells, List.mem_cons, List.mem_map] at hv
  rcases hv with rfl | rfl | rfl | rfl | rfl | rfl | rfl | rfl | rfl | rfl | rfl | rfl | rfl | rfl | rfl | rfl | rfl | ⟨x, _, rfl⟩ <;> rfl
/-- A cartridge of zeros. -/
def zct : Ct := ⟨ByteArray.empty, 0, 0, 0, false, 0, 0, 0, 0, ByteArray.empty, 0, 0, 0, 0, 0, 0, false, zer⟩
theorem zeroCart (w : World) : (zeroValue 85).run Tryd.prog w = .ok (.agg zct.cells.toArray) w := by
  have h : (Tryd.prog.info? 85).map (·.zero) = some (some (.agg zct.cells.toArray)) := by kernel_rfl
  obtain ⟨i, h1, h2⟩ := Option.map_eq_some_iff.1 h
  simp [zeroValue, typeInfo, h1, h2]
theorem infoCart : (Tryd.prog.info? 85).map (·.size) = some 145 := by kernel_rfl

set_option maxRecDepth 100000 in
set_option maxHeartbeats 1000000 in
theorem Extra_nil (w : World) : Calls Tryd.prog 28 #[.pointer none] w fun e w' => e = .returned (.agg (bytes zer).toArray) ∧ Below w.heap.size w w' := by
  have hz := zero128
  have hl : (bytes zer).length = 128 := by rw [bytes_length]; rfl
  have hs := fun w : World => store_new (P := Tryd.prog) w 35 (bytes zer).toArray (bytes zer) (by simp) (one_bytes _)
  go_enter Tryd.func28, Tryd.ntmps28
  go_wp2
  refine bodyPost_ret (v := .agg (bytes zer).toArray) (by simp [results, Tryd.f28, asAddr, load_new w 35 zer rfl]) rfl ⟨rfl, by go_grown⟩

set_option maxRecDepth 100000 in
set_option maxHeartbeats 1000000 in
theorem Extra (b : Nat) (c : Ct) (w : World) (h : CAt w b c) (h8 : c.ex.length = 128) : Calls Tryd.prog 28 #[.pointer (some ⟨b, 0, none⟩)] w fun e w' => e = .returned (.agg (bytes c.ex).toArray) ∧ Below w.heap.size w w' := by
  have hz := zero128
  have hl : (bytes zer).length = 128 := by rw [bytes_length]; rfl
  have hl2 : (bytes c.ex).length = 128 := by rw [bytes_length, h8]
  have hs := fun w : World => store_new (P := Tryd.prog) w 35 (bytes zer).toArray (bytes c.ex) (by rw [hl2]; simp [hl]) (one_bytes _)
  have hc : CAt (w.alloc (.cells (bytes zer).toArray 35)) b c := h.below ((Below.refl _ _).alloc (Nat.le_refl _) _)
  have hrg : Hid ((w.alloc (.cells (bytes zer).toArray 35)).rangeAt b 17 (bytes c.ex)) := hc.exRange
  have HL := load_new w 35 c.ex h8
  clear h hc h8
  generalize c.ex = ex at *
  go_enter Tryd.func28, Tryd.ntmps28
  go_wp2
  refine wp_load_mid 35 _ rfl b 17 rfl (bytes ex) _ hrg.out Tryd.underlying35 rfl (by rw [info128, hl2]) ?_
  go_wp2
  refine bodyPost_ret (v := .agg (bytes ex).toArray) (by simp [results, Tryd.f28, asAddr, HL]) rfl ⟨rfl, by go_grown⟩

set_option maxRecDepth 100000 in
set_option maxHeartbeats 1000000 in
theorem Copy (b : Nat) (c : Ct) (w : World) (h : CAt w b c) (h8 : c.ex.length = 128) : Calls Tryd.prog 33 #[.pointer (some ⟨b, 0, none⟩)] w fun e w' => ∃ d, e = .returned (.pointer (some ⟨d, 0, none⟩)) ∧ w.heap.size ≤ d ∧ CAt w' d c ∧ Below w.heap.size w w' := by
  have hz := zeroCart
  have hl : zct.cells.length = 145 := cells_length rfl
  have hl2 : c.cells.length = 145 := cells_length h8
  have hs := fun w : World => store_new (P := Tryd.prog) w 85 zct.cells.toArray c.cells (by rw [hl2]; simp [hl]) (one_cells _)
  have hrg : Hid (w.rangeAt b 0 c.cells) := h.range
  clear h h8
  go_enter Tryd.func33, Tryd.ntmps33
  go_wp2
  refine wp_load_mid 85 _ rfl b 0 rfl c.cells _ hrg.out Tryd.underlying85 rfl (by rw [infoCart, hl2]) ?_
  go_wp2
  go_returns
  exact ⟨_, rfl, Nat.le_refl _, heap_alloc_new _ _, by go_grown⟩

end Go.Proofs.YtcohalkofahphaaDoor.Ca
