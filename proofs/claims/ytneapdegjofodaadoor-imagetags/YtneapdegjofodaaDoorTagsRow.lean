/- What Tags answers. -/
import Derived.Test.YtneapdegjofodaaDoorAwake4
namespace Go.Proofs.YtneapdegjofodaaDoor.Img
open Go.RowKit

theorem infoStr : (Tryd.prog.info? 9).map (fun i => (i.zero, i.size, i.bytes)) = some (some (.string ByteArray.empty), 1, 16) := by kernel_rfl

/-- A row of tags in block g. -/
def SRow (w : World) (g : Nat) (xs : List ByteArray) : Prop := w.heap[g]? = some (.cells (xs.map fun x => .string x).toArray 9 (0, 0))
theorem SRow.lt {w : World} {g : Nat} {xs : List ByteArray} (h : SRow w g xs) : g < w.heap.size := (Array.getElem?_eq_some_iff.1 h).1
theorem SRow.at_ {w : World} {g : Nat} {xs : List ByteArray} (h : SRow w g xs) {i : Nat} {x : ByteArray} (hi : xs[i]? = some x) : w.cell? ⟨g, i, none⟩ = some (.string x) ∧ w.frozen? ⟨g, i, none⟩ = false := by
  refine ⟨?_, frozen_of_row _ _ _ _ _ h⟩
  rw [Joins.cell_of_block h i]
  simp [hi]

/-- All tags. -/
def tags : List ByteArray := mps.map (·.tag)

set_option maxRecDepth 100000 in
set_option maxHeartbeats 2000000 in
theorem RTags (w : World) : Calls Tryd.prog 13 #[] w fun e w' => ∃ g, e = .returned (.slice (some ⟨g, 0, none⟩) 11 11) ∧ w.heap.size ≤ g ∧ SRow w' g tags ∧ Below w.heap.size w w' := by
  go_enter Tryd.func13, Tryd.ntmps13
  go_wp2
  go_ret
  exact ⟨w.heap.size, rfl, Nat.le_refl _, heap_alloc_new _ _, (Below.refl _ w).alloc (Nat.le_refl _) _⟩

theorem SRow.set {w : World} {g : Nat} {xs : List ByteArray} (h : SRow w g xs) (i : Nat) (x : ByteArray) : SRow (w.setCell ⟨g, i, none⟩ (.string x)) g (xs.set i x) := by
  unfold SRow
  rw [Joins.block_setCell h, List.map_set]
  congr 2
  simp
theorem srow_block {w : World} {base g n : Nat} {xs : List Value} (h : w.ownsRow base 9 1 (.slice (some ⟨g, 0, none⟩) n n) n xs) : w.heap[g]? = some (.cells xs.toArray 9 (0, 0)) := by
  rcases h.2 with ⟨h', _⟩ | ⟨g', cap', cur, h', _, hh, _, _, hs, ht⟩
  · cases h'
  · injection h' with h1 _ h3
    injection h1 with h1; injection h1 with h1
    subst h1; subst h3
    rw [hh]
    have : cur.toList = xs := by rw [← ht]; exact (List.take_of_length_le (by simp; omega)).symm
    rw [← this]
theorem smade_row {w : World} {base g n : Nat} (h : w.ownsRow base 9 1 (.slice (some ⟨g, 0, none⟩) n n) n (madeCells (Value.string ByteArray.empty).cells (n * 1)).toList) : SRow w g (List.replicate n ByteArray.empty) := by
  have e : (madeCells (Value.string ByteArray.empty).cells (n * 1)).toList = List.replicate n (Value.string ByteArray.empty) := by rw [Nat.mul_one]; exact toList_madeCells_one _ _
  rw [e] at h
  unfold SRow
  rw [srow_block h, List.map_replicate]
theorem tags_set {k : Nat} {x : ByteArray} (hk : k < 11) (hx : tags[k]? = some x) : (tags.take k ++ List.replicate (11 - k) ByteArray.empty).set k x = tags.take (k + 1) ++ List.replicate (11 - (k + 1)) ByteArray.empty := by
  have hl : (tags.take k).length = k := by rw [List.length_take]; have : tags.length = 11 := rfl; omega
  obtain ⟨j, hj⟩ : ∃ j, 11 - k = j + 1 := ⟨11 - k - 1, by omega⟩
  rw [List.set_append_right _ _ (by omega), hl, Nat.sub_self, hj, List.replicate_succ, List.set_cons_zero, List.take_add_one, hx, List.append_assoc, show 11 - (k + 1) = j from by omega]
  rfl

set_option maxRecDepth 100000 in
set_option maxHeartbeats 2000000 in
theorem Tags (w : World) (ht : Tab w) : Calls Tryd.prog 12 #[] w fun e w' => ∃ g, e = .returned (.slice (some ⟨g, 0, none⟩) 11 11) ∧ w.heap.size ≤ g ∧ SRow w' g tags ∧ Below w.heap.size w w' := by
  obtain ⟨i0, hi0, hz0, hz1, hz2⟩ := info_parts infoStr
  have h0 := ht.lt
  have HT : Hid (Tab w) := ht
  clear ht
  go_enter Tryd.func12, Tryd.ntmps12
  go_wp2_with (at_make; refine wpList_make_full _ rfl _ _ 35 rfl w.heap.size 9 i0 (.string ByteArray.empty) 1 Tryd.underlying35 hi0 hz0 hz1 _ _ _ _ 11 rfl rfl rfl rfl (by rw [hz2]; omega) (by unfold maxLen; omega) (Nat.le_refl _) ?_; intro w6 hown hgrow)
  have HB6 : Hid (Below w.heap.size w w6) := (Below.refl _ w).grown hgrow (Nat.le_refl _) (fun _ e => by cases e)
  have HR6 : Hid (SRow w6 w.heap.size (tags.take 0 ++ List.replicate (11 - 0) ByteArray.empty)) := by
    have := smade_row hown
    exact this
  clear hown hgrow hi0 hz0 hz1 hz2
  go_loopw [6] (fun v wr => ∃ k : Nat, k ≤ 11 ∧ v = .int .i64 (k : Int) ∧ SRow wr w.heap.size (tags.take k ++ List.replicate (11 - k) ByteArray.empty) ∧ Below w.heap.size w wr) (fun v _ => 11 - (intOf v).toNat)
  case atStart => exact ⟨0, by omega, rfl, HR6.out, HB6.out⟩
  case round =>
    obtain ⟨k, hk, rfl, hR, hB⟩ := hrel
    have HR : Hid (SRow wr w.heap.size (tags.take k ++ List.replicate (11 - k) ByteArray.empty)) := hR
    have HB : Hid (Below w.heap.size w wr) := hB
    clear HR6 HB6
    by_cases hl : k < 11
    · obtain ⟨m, hm⟩ : ∃ m, mps[k]? = some m := ⟨_, List.getElem?_eq_getElem (by rw [mps_length]; omega)⟩
      have hx : tags[k]? = some m.tag := by unfold tags; rw [List.getElem?_map, hm]; rfl
      obtain ⟨c0, _⟩ := (HT.out.below hB h0) k m hm
      obtain ⟨u, hu⟩ : ∃ u, (tags.take k ++ List.replicate (11 - k) ByteArray.empty)[k]? = some u := ⟨_, List.getElem?_eq_getElem (by
        have : (tags.take k).length = k := by rw [List.length_take]; have : tags.length = 11 := rfl; omega
        rw [List.length_append, this, List.length_replicate]; omega)⟩
      obtain ⟨ck, fk⟩ := hR.at_ hu
      have HS1 : Hid ((tags.take k ++ List.replicate (11 - k) ByteArray.empty).set k m.tag = tags.take (k + 1) ++ List.replicate (11 - (k + 1)) ByteArray.empty) := tags_set hl hx
      have k0 : (0 : Int) ≤ (k : Int) := by omega
      have k1 : (k : Int) < 11 := by omega
      clear hR hB hu hx hm
      go_wp2
      go_roundw
      case rel => exact ⟨k + 1, by omega, by go_num, by rw [← HS1.out]; exact HR.out.set k _, HB.out.setCell (p := ⟨w.heap.size, k, none⟩) (Nat.le_refl _) _⟩
      case measure => simp [intOf]; omega
    · have hkl : (11 : Int) ≤ (k : Int) := by omega
      have hkn : k = 11 := by omega
      have HR2 : Hid (SRow wr w.heap.size tags) := by
        have := HR.out
        rw [hkn] at this
        exact this
      clear hR hB hkn
      go_wp2
      go_ret
      exact ⟨w.heap.size, rfl, Nat.le_refl _, HR2.out, HB.out⟩

end Go.Proofs.YtneapdegjofodaaDoor.Img
