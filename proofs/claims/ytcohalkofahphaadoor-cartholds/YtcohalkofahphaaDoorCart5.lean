/- What Show, Extra, Copy do. -/
import Derived.Test.YtcohalkofahphaaDoorCart4
set_option linter.unusedSimpArgs false
set_option linter.unusedVariables false
namespace Go.Proofs.YtcohalkofahphaaDoor.Ca
open Go.RowKit Img

/-- The banks that n windows show. -/
def shown (c : Ct) (n : Nat) : List Int := [c.s0, c.s1, c.s2, c.s3].take n
theorem shown_length (c : Ct) {n : Nat} (h : n ≤ 4) : (shown c n).length = n := by unfold shown; rw [List.length_take]; simp; omega

theorem infoSize : (Tryd.prog.info? 3).map (·.size) = some 1 := by kernel_rfl
theorem splice_all {Z cs : List Value} (h : cs.length = Z.length) : splice Z 0 cs = cs := by
  unfold splice
  rw [List.take_zero, Nat.zero_add, h, List.drop_length]
  simp
theorem src_cells {w w1 : World} {b n : Nat} {c : Ct} (h : CAt w b c) (hb : Below w.heap.size w w1) : ∀ (j : Nat) (v : Value), ((shown c n).map fun x => Value.int .i64 x)[j]? = some v → w1.cell? ((⟨b, 5, none⟩ : Addr).add j) = some v := by
  intro j v hj
  have hj4 : j < 4 := by
    have := (List.getElem?_eq_some_iff.1 hj).1
    rw [List.length_map] at this
    unfold shown at this
    rw [List.length_take] at this
    simp at this
    omega
  rw [show (⟨b, 5, none⟩ : Addr).add j = ⟨b, 5 + j, none⟩ from by simp [Addr.add], hb.cell (p := ⟨b, 5 + j, none⟩) h.lt, h.shown hj4, ← hj, List.getElem?_map]
  have hjn : j < n := by
    have := (List.getElem?_eq_some_iff.1 hj).1
    rw [List.length_map] at this
    unfold shown at this
    rw [List.length_take] at this
    omega
  unfold shown
  rw [List.getElem?_take_of_lt hjn]
  match j, hj4 with
  | 0, _ => rfl
  | 1, _ => rfl
  | 2, _ => rfl
  | 3, _ => rfl

set_option maxRecDepth 100000 in
set_option maxHeartbeats 1000000 in
theorem banks_ (b n : Nat) (c : Ct) (w : World) (h : CAt w b c) (hn : c.win = (n : Int)) (hn4 : n ≤ 4) : Calls Tryd.prog 45 #[.pointer (some ⟨b, 0, none⟩)] w fun e w' => ∃ g, e = .returned (.slice (some ⟨g, 0, none⟩) n n) ∧ w.heap.size ≤ g ∧ Row w' g (shown c n) ∧ Below w.heap.size w w' := by
  obtain ⟨i0, hi0, hz0, hz1, hz2⟩ := info_parts infoInt
  have HC : Hid (CAt w b c) := h
  have c3 : w.cell? ⟨b, 3, none⟩ = some (.int .i64 (n : Int)) := by rw [h.cell 3, ← hn]; rfl
  have HL : Hid ((shown c n).length = n) := shown_length c hn4
  have hbl := h.lt
  clear h hn
  go_enter Tryd.func45, Tryd.ntmps45
  go_wp2_with (first
    | (at_make; refine wpList_make_full _ rfl _ _ 31 rfl w.heap.size 3 i0 (.int .i64 0) 1 Tryd.underlying31 hi0 hz0 hz1 _ _ _ _ n rfl rfl rfl rfl (by rw [hz2]; omega) (by unfold maxLen; omega) (Nat.le_refl _) ?_; intro w1 hown hgrow; have HW1 : Hid (w1.ownsRow _ _ _ _ _ _) := hown; have HB1 : Hid (Below w.heap.size w w1) := (Below.refl _ w).grown hgrow (Nat.le_refl _) (fun _ e => by cases e); clear hown hgrow)
    | (refine wpList_copy_splice rfl _ _ 31 31 rfl 3 Tryd.underlying31 infoSize _ _ n n 4 4 rfl rfl w.heap.size 0 ((List.replicate n (0 : Int)).map fun x => Value.int .i64 x) 3 (made_row HW1.out) ((shown c n).map fun x => Value.int .i64 x) (by rw [List.length_map, HL.out]; exact (Nat.min_eq_right (by omega)).symm) (fun _ => ⟨rfl, _, rfl, src_cells HC.out HB1.out⟩) (by rw [List.length_map, HL.out]; simp) (by intro v hv; obtain ⟨x, _, rfl⟩ := List.mem_map.1 hv; rfl) w.heap.size w HB1.out (Nat.le_refl _) ?_; intro w2 hrow2 hB2))
  go_returns
  refine ⟨_, rfl, Nat.le_refl _, ?_, hB2⟩
  have := hrow2.out
  unfold Row
  rw [this, splice_all (by rw [List.length_map, HL.out]; simp)]

set_option maxRecDepth 100000 in
set_option maxHeartbeats 1000000 in
theorem Show (b n : Nat) (c : Ct) (w : World) (h : CAt w b c) (hn : c.win = (n : Int)) (hn4 : n ≤ 4) : Calls Tryd.prog 27 #[.pointer (some ⟨b, 0, none⟩)] w fun e w' => ∃ g, e = .returned (.slice (some ⟨g, 0, none⟩) n n) ∧ w.heap.size ≤ g ∧ Row w' g (shown c n) ∧ Below w.heap.size w w' := by
  have HC : Hid (CAt w b c) := h
  clear h
  go_enter Tryd.func27, Tryd.ntmps27
  go_wp2_with (go_at_call 45; refine (banks_ b n c _ HC.out hn hn4).mono ?_; rintro e w2 ⟨g, rfl, hg, hR, hB⟩)
  go_returns
  exact ⟨g, rfl, hg, hR, hB⟩

set_option maxHeartbeats 400000 in
theorem Show_nil (w : World) : Calls Tryd.prog 27 #[.pointer none] w fun e w' => e = .returned (.slice none 0 0) ∧ w' = w := by
  go_enter Tryd.func27, Tryd.ntmps27
  go_wp2
  go_returns
  exact ⟨rfl, rfl⟩

set_option maxHeartbeats 400000 in
theorem Copy_nil (w : World) : Calls Tryd.prog 33 #[.pointer none] w fun e w' => e = .returned (.pointer none) ∧ w' = w := by
  go_enter Tryd.func33, Tryd.ntmps33
  go_wp2
  go_returns
  exact ⟨rfl, rfl⟩

end Go.Proofs.YtcohalkofahphaaDoor.Ca
