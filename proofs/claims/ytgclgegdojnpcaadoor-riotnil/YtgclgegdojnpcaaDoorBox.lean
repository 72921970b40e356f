/- Rows of bytes by value; what Ram and Timer of a riot do. -/
import Derived.Test.YtgclgegdojnpcaaDoorAwake8
set_option linter.unusedSimpArgs false
set_option linter.unusedVariables false
namespace Go.Proofs.YtgclgegdojnpcaaDoor.Ri
open Go.RowKit Po

theorem setCells_new (w : World) (t : TypeId) : ∀ (L : List Go.Value) (A : Array Go.Value) (o : Nat), o + L.length = A.size → (w.alloc (.cells A t)).setCells w.heap.size o L = w.alloc (.cells (A.toList.take o ++ L).toArray t)
  | [], A, o, h => by
    rw [World.setCells, List.append_nil, List.take_of_length_le (by simp at h ⊢; omega)]
  | v :: L, A, o, h => by
    rw [World.setCells, World.setCell_alloc_new, setCells_new w t L _ (o + 1) (by simp at h ⊢; omega)]
    congr 3
    simp only [List.length_cons] at h
    have ho : o < A.toList.length := by simp; omega
    rw [Array.toList_setIfInBounds, List.take_add_one, List.take_set_of_le (Nat.le_refl _), List.getElem?_set_self ho]
    simp

theorem one_bytes (l : List Int) : ∀ v ∈ bytes l, v.oneCell' = true := by intro v hv; obtain ⟨x, _, rfl⟩ := List.mem_map.1 hv; rfl
theorem store_new {P : Program} (w : World) (t : TypeId) (A : Array Go.Value) (L : List Go.Value) (h : L.length = A.size) (h1 : ∀ v ∈ L, v.oneCell' = true) :
    (storeCells ⟨w.heap.size, 0, none⟩ L).run P (w.alloc (.cells A t)) = .ok () (w.alloc (.cells L.toArray t)) := by
  have hh := heap_alloc_new w (.cells A t)
  have := run_storeCells_cells (P := P) w.heap.size 0 L 0 (w.alloc (.cells A t)) (fun j hj => by
    rw [cell_of_row _ _ _ _ _ _ hh]; simp only [Nat.zero_add]; rw [Array.getElem?_eq_getElem (by omega)]; rfl) (fun j hj => frozen_of_row _ _ _ _ _ hh) h1
  rw [setCells_new w t L A (0 + 0) (by omega)] at this
  simpa using this

theorem load_new (w : World) (t : TypeId) (l : List Int) (h : l.length = 128) : (loadVar 22 ⟨w.heap.size, 0, none⟩).run Tryd.prog (w.alloc (.cells (bytes l).toArray t)) = .ok (.agg (bytes l).toArray) (w.alloc (.cells (bytes l).toArray t)) :=
  run_loadVar_mid _ _ 0 22 (bytes l) _ (fun j v hv => by
    rw [cell_of_row _ _ _ _ _ _ (heap_alloc_new w (.cells (bytes l).toArray t)), Nat.zero_add]
    simpa using hv) Tryd.underlying22 rfl (by rw [info128, bytes_length, h])

theorem zeroV128 (w : World) : (zeroValue 22).run Tryd.prog w = .ok (.agg (bytes zer).toArray) w := by
  have h : (Tryd.prog.info? 22).map (·.zero) = some (some (.agg (bytes zer).toArray)) := by kernel_rfl
  obtain ⟨i, h1, h2⟩ := Option.map_eq_some_iff.1 h
  simp [zeroValue, typeInfo, h1, h2]

set_option maxRecDepth 100000 in
set_option maxHeartbeats 1000000 in
theorem Ram_nil (w : World) : Calls Tryd.prog 10 #[.pointer none] w fun e w' => e = .returned (.agg (bytes zer).toArray) ∧ Below w.heap.size w w' := by
  have hz := zeroV128
  have hz2 := zero128
  have hl : (bytes zer).length = 128 := by rw [bytes_length]; rfl
  have hs := fun w : World => store_new (P := Tryd.prog) w 22 (bytes zer).toArray (bytes zer) (by simp) (one_bytes _)
  go_enter Tryd.func10, Tryd.ntmps10
  go_wp2
  refine bodyPost_ret (v := .agg (bytes zer).toArray) (by simp [results, Tryd.f10, asAddr, load_new w 22 zer rfl]) rfl ⟨rfl, by go_grown⟩

theorem infoMem : (Tryd.prog.info? 62).map (·.size) = some 128 := by kernel_rfl

set_option maxRecDepth 100000 in
set_option maxHeartbeats 1000000 in
theorem Ram (B : Rb) (r : Rs) (w : World) (h : RAt w B r) (h8 : r.ram.length = 128) : Calls Tryd.prog 10 #[.pointer (some ⟨B.b, 0, none⟩)] w fun e w' => e = .returned (.agg (bytes r.ram).toArray) ∧ Below w.heap.size w w' := by
  have hz := zeroV128
  have hz2 := zero128
  have hl : (bytes zer).length = 128 := by rw [bytes_length]; rfl
  have hl2 : (bytes r.ram).length = 128 := by rw [bytes_length, h8]
  have hs := fun w : World => store_new (P := Tryd.prog) w 22 (bytes zer).toArray (bytes r.ram) (by rw [hl2]; simp [hl]) (one_bytes _)
  have hrg : Hid ((w.alloc (.cells (bytes zer).toArray 22)).rangeAt B.b 0 (bytes r.ram)) := (h.below ((Below.refl _ _).alloc (Nat.le_refl _) _)).ram
  have HL := load_new w 22 r.ram h8
  clear h h8
  generalize r.ram = ex at *
  go_enter Tryd.func10, Tryd.ntmps10
  go_wp2_with (first | (refine wpList_load_mid rfl 62 _ rfl B.b 0 rfl (bytes ex) _ hrg.out Tryd.underlying62 rfl (by rw [infoMem, hl2]) ?_))
  refine bodyPost_ret (v := .agg (bytes ex).toArray) (by simp [results, Tryd.f10, asAddr, HL]) rfl ⟨rfl, by go_grown⟩

set_option maxHeartbeats 400000 in
theorem Timer (B : Rb) (r : Rs) (w : World) (h : RAt w B r) : Calls Tryd.prog 14 #[.pointer (some ⟨B.b, 0, none⟩)] w fun e w' => e = .returned (.int .u8 (r.t.v : Int)) ∧ w' = w := by
  have h2 := h.c2
  have H : Hid (RAt w B r) := h
  clear h
  go_enter Tryd.func14, Tryd.ntmps14
  go_wp2_with (go_at_call 36; refine (Tm.Value B.pt 0 r.t _ H.out.t).mono ?_; rintro e w2 ⟨rfl, rfl⟩)
  go_returns
  exact ⟨rfl, rfl⟩

end Go.Proofs.YtgclgegdojnpcaaDoor.Ri
