/- FieldLits, walked: whatever comes in, true comes out. -/
import Derived.Test.YtkondnlilkpdoaaDoorAwakeF
import Derived.Test.YtkondnlilkpdoaaDoorRFld
import Derived.Test.YtkondnlilkpdoaaDoorFrame
set_option linter.unusedVariables false
namespace Go.Proofs.YtkondnlilkpdoaaDoor.fieldLits
open Go.RowKit Fi

/-- Three bytes in their box; nothing old turned. -/
structure Pf (W : World) (g p0 p1 p2 : Nat) (w : World) : Prop where
  old : Below W.heap.size W w
  tab : Tab w
  c0 : w.cell? ⟨g, 0, none⟩ = some (.int .u8 (p0 : Int))
  c1 : w.cell? ⟨g, 1, none⟩ = some (.int .u8 (p1 : Int))
  c2 : w.cell? ⟨g, 2, none⟩ = some (.int .u8 (p2 : Int))
theorem Pf.below {W w w' : World} {g p0 p1 p2 : Nat} (h : Pf W g p0 p1 p2 w) (hb : Below w.heap.size w w') : Pf W g p0 p1 p2 w' :=
  have e := hb.block g (lt_of_cell h.c0)
  ⟨b_keep h.old hb, h.tab.below hb (Nat.le_refl _), (World.cell?_of_block (w := w) e).trans h.c0, (World.cell?_of_block (w := w) e).trans h.c1, (World.cell?_of_block (w := w) e).trans h.c2⟩
theorem Pf.draws {W w : World} {g p0 p1 p2 : Nat} (h : Pf W g p0 p1 p2 w) (q : Nat) : Pf W g p0 p1 p2 (w.drewN q) := h.below (below_drewN (Below.refl _ w) q)
theorem pf_new {W : World} (p0 p1 p2 : Nat) (hT : Tab W) : Pf W W.heap.size p0 p1 p2 (W.alloc (.cells #[.int .u8 (p0 : Int), .int .u8 (p1 : Int), .int .u8 (p2 : Int)] 22)) := by
  have hh := heap_alloc_new W (.cells #[.int .u8 (p0 : Int), .int .u8 (p1 : Int), .int .u8 (p2 : Int)] 22)
  have hb : Below W.heap.size W (W.alloc (.cells #[.int .u8 (p0 : Int), .int .u8 (p1 : Int), .int .u8 (p2 : Int)] 22)) := (Below.refl _ W).alloc (Nat.le_refl _) _
  exact ⟨hb, hT.below hb (Nat.le_refl _), cell_of_row _ _ _ _ _ _ hh, cell_of_row _ _ _ _ _ _ hh, cell_of_row _ _ _ _ _ _ hh⟩

set_option maxRecDepth 100000 in
set_option maxHeartbeats 2000000 in
theorem good (p0 p1 p2 c : Nat) (x : Int) (W : World) (r : Bool) (ht : Tab W) (hc : c < 256)
    (hl : ∀ w, Calls Tryd.prog 9 #[.agg #[.int .u8 (p0 : Int), .int .u8 (p1 : Int), .int .u8 (p2 : Int)], .int .u8 (c : Int), .int .i64 x] w fun e w' => e = .returned (.bool r) ∧ Below w.heap.size w w')
    (hr : ∀ w, Calls Tryd.prog 10 #[.agg #[.int .u8 (p0 : Int), .int .u8 (p1 : Int), .int .u8 (p2 : Int)], .int .i64 (c : Int), .int .i64 x] w fun e w' => e = .returned (.bool r) ∧ Below w.heap.size w w') :
    Calls Tryd.prog 3 #[.agg #[.int .u8 (p0 : Int), .int .u8 (p1 : Int), .int .u8 (p2 : Int)], .int .u8 (c : Int), .int .i64 x] W fun e w' => e = .returned (.bool true) ∧ Below W.heap.size W w' := by
  have HL : Hid (∀ w, Calls Tryd.prog 9 #[.agg #[.int .u8 (p0 : Int), .int .u8 (p1 : Int), .int .u8 (p2 : Int)], .int .u8 (c : Int), .int .i64 x] w fun e w' => e = .returned (.bool r) ∧ Below w.heap.size w w') := hl
  have HR : Hid (∀ w, Calls Tryd.prog 10 #[.agg #[.int .u8 (p0 : Int), .int .u8 (p1 : Int), .int .u8 (p2 : Int)], .int .i64 (c : Int), .int .i64 x] w fun e w' => e = .returned (.bool r) ∧ Below w.heap.size w w') := hr
  have H0 : Hid (Pf W W.heap.size p0 p1 p2 (W.alloc (.cells #[.int .u8 (p0 : Int), .int .u8 (p1 : Int), .int .u8 (p2 : Int)] 22))) := pf_new p0 p1 p2 ht
  have e3 : IntKind.i64.wrap (c : Int) = c := by rw [IntKind.wrap_i64]; omega
  clear hl hr ht
  go_enter Tryd.func3, Tryd.ntmps3
  go_wp2
  generalize W.alloc (.cells #[.int .u8 (p0 : Int), .int .u8 (p1 : Int), .int .u8 (p2 : Int)] 22) = v at *
  obtain ⟨g, hg⟩ : ∃ g, W.heap.size = g := ⟨_, rfl⟩
  have HG : Hid (W.heap.size = g) := hg
  have H1 : Hid (Pf W g p0 p1 p2 v) := (by rw [← hg]; exact H0.out : Pf W g p0 p1 p2 v)
  rw [hg]
  have a0 := H1.out.c0
  have a1 := H1.out.c1
  have a2 := H1.out.c2
  clear hg H0
  go_region_held3 (fun w' => w'.cell? ⟨g, 0, none⟩ = some (.int .u8 (p0 : Int)) ∧ w'.cell? ⟨g, 1, none⟩ = some (.int .u8 (p1 : Int)) ∧ w'.cell? ⟨g, 2, none⟩ = some (.int .u8 (p2 : Int))) (first | exact ⟨by assumption, by assumption, by assumption⟩ | go_keep) (first
    | (go_at_call 9; refine (HL.out _).mono ?_; rintro e w2 ⟨rfl, hB2'⟩; have H2 : Hid (Pf W g p0 p1 p2 w2) := (by first | exact H1.out.below hB2' | exact (H1.out.draws _).below hB2'); have b0 := H2.out.c0; have b1 := H2.out.c1; have b2 := H2.out.c2; clear hB2')
    | (go_at_call 10; refine (HR.out _).mono ?_; rintro e w3 ⟨rfl, hB3'⟩; have H3 : Hid (Pf W g p0 p1 p2 w3) := (by first | exact H2.out.below hB3' | exact (H2.out.draws _).below hB3'); have d0 := H3.out.c0; have d1 := H3.out.c1; have d2 := H3.out.c2; clear hB3')
    | (go_at_call 11; refine (awake18 _ (by first | exact H3.out.tab | exact (H3.out.draws _).tab)).mono ?_; rintro e w4 ⟨rfl, hB4'⟩; have H4 : Hid (Pf W g p0 p1 p2 w4) := (by first | exact H3.out.below hB4' | exact (H3.out.draws _).below hB4'); have f0 := H4.out.c0; have f1 := H4.out.c1; have f2 := H4.out.c2; clear hB4'))
  all_goals go_wp2
  all_goals go_returns
  all_goals exact ⟨rfl, by first | exact H4.out.old | exact (H4.out.draws _).old⟩

theorem walk (a0_0 a0_1 a0_2 : Int) (w0_0 : (Lit.int .u8 a0_0).wf = true) (w0_1 : (Lit.int .u8 a0_1).wf = true) (w0_2 : (Lit.int .u8 a0_2).wf = true) (a1 : Int) (w1 : (Lit.int .u8 a1).wf = true) (a2 : Int) (w2 : (Lit.int .i64 a2).wf = true) (W : World) (ht : Tab W) :
    Calls Tryd.prog 3 #[.agg #[.int .u8 a0_0, .int .u8 a0_1, .int .u8 a0_2], .int .u8 a1, .int .i64 a2] W fun e w' => e = .returned (.bool true) ∧ Below W.heap.size W w' := by
  have b0 := bounds_u8 w0_0
  have b1 := bounds_u8 w0_1
  have b2 := bounds_u8 w0_2
  have b3 := bounds_u8 w1
  obtain ⟨p0, rfl⟩ := Int.eq_ofNat_of_zero_le b0.1
  obtain ⟨p1, rfl⟩ := Int.eq_ofNat_of_zero_le b1.1
  obtain ⟨p2, rfl⟩ := Int.eq_ofNat_of_zero_le b2.1
  obtain ⟨c, rfl⟩ := Int.eq_ofNat_of_zero_le b3.1
  by_cases h : 0 ≤ a2 ∧ a2 ≤ 159
  · obtain ⟨x, rfl⟩ := Int.eq_ofNat_of_zero_le h.1
    exact good p0 p1 p2 c x W _ ht (by omega) (fun w => Fi.Lit p0 p1 p2 c x w (by omega) (by omega) (by omega) (by omega) (by omega)) (fun w => RLit p0 p1 p2 c x w (by omega) (by omega) (by omega) (by omega) (by omega))
  · exact good p0 p1 p2 c a2 W _ ht (by omega) (fun w => Lit_no p0 p1 p2 c a2 w (by omega)) (fun w => RLit_no p0 p1 p2 c a2 w (by omega))

end Go.Proofs.YtkondnlilkpdoaaDoor.fieldLits
