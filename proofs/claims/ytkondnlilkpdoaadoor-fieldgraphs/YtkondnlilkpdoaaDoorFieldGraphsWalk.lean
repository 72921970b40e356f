/- FieldGraphs, walked: whatever comes in, true comes out. -/
import Derived.Test.YtkondnlilkpdoaaDoorAwakeF
import Derived.Test.YtkondnlilkpdoaaDoorRFl2
import Derived.Test.YtkondnlilkpdoaaDoorFrame
set_option linter.unusedVariables false
namespace Go.Proofs.YtkondnlilkpdoaaDoor.fieldGraphs
open Go.RowKit Fi

set_option maxRecDepth 100000 in
set_option maxHeartbeats 2000000 in
theorem good (b : Nat) (mr : Bool) (wd dot : Int) (W : World) (r : Bool) (ht : Tab W) (hb : b < 256)
    (hl : ∀ w, Calls Tryd.prog 18 #[.int .u8 (b : Int), .bool mr, .int .i64 wd, .int .i64 dot] w fun e w' => e = .returned (.bool r) ∧ w' = w)
    (hr : ∀ w, Calls Tryd.prog 19 #[.int .i64 (b : Int), .bool mr, .int .i64 wd, .int .i64 dot] w fun e w' => e = .returned (.bool r) ∧ w' = w) :
    Calls Tryd.prog 6 #[.agg #[.int .u8 (b : Int), .bool mr, .int .i64 wd, .int .i64 dot]] W fun e w' => e = .returned (.bool true) ∧ Below W.heap.size W w' := by
  have HL : Hid (∀ w, Calls Tryd.prog 18 #[.int .u8 (b : Int), .bool mr, .int .i64 wd, .int .i64 dot] w fun e w' => e = .returned (.bool r) ∧ w' = w) := hl
  have HR : Hid (∀ w, Calls Tryd.prog 19 #[.int .i64 (b : Int), .bool mr, .int .i64 wd, .int .i64 dot] w fun e w' => e = .returned (.bool r) ∧ w' = w) := hr
  have hB0 : Below W.heap.size W (W.alloc (.cells #[.int .u8 (b : Int), .bool mr, .int .i64 wd, .int .i64 dot] 37)) := (Below.refl _ W).alloc (Nat.le_refl _) _
  have hh := heap_alloc_new W (.cells #[.int .u8 (b : Int), .bool mr, .int .i64 wd, .int .i64 dot] 37)
  have c0 : (W.alloc (.cells #[.int .u8 (b : Int), .bool mr, .int .i64 wd, .int .i64 dot] 37)).cell? ⟨W.heap.size, 0, none⟩ = some (.int .u8 (b : Int)) := cell_of_row _ _ _ _ _ _ hh
  have c1 : (W.alloc (.cells #[.int .u8 (b : Int), .bool mr, .int .i64 wd, .int .i64 dot] 37)).cell? ⟨W.heap.size, 1, none⟩ = some (.bool mr) := cell_of_row _ _ _ _ _ _ hh
  have c2 : (W.alloc (.cells #[.int .u8 (b : Int), .bool mr, .int .i64 wd, .int .i64 dot] 37)).cell? ⟨W.heap.size, 2, none⟩ = some (.int .i64 wd) := cell_of_row _ _ _ _ _ _ hh
  have c3 : (W.alloc (.cells #[.int .u8 (b : Int), .bool mr, .int .i64 wd, .int .i64 dot] 37)).cell? ⟨W.heap.size, 3, none⟩ = some (.int .i64 dot) := cell_of_row _ _ _ _ _ _ hh
  have HB0 : Hid (Below W.heap.size W (W.alloc (.cells #[.int .u8 (b : Int), .bool mr, .int .i64 wd, .int .i64 dot] 37)) ∧ Tab (W.alloc (.cells #[.int .u8 (b : Int), .bool mr, .int .i64 wd, .int .i64 dot] 37))) := ⟨hB0, ht.below hB0 (Nat.le_refl _)⟩
  have e3 : IntKind.i64.wrap (b : Int) = b := by rw [IntKind.wrap_i64]; omega
  clear hl hr ht hh hB0
  go_enter Tryd.func6, Tryd.ntmps6
  go_wp2
  generalize W.alloc (.cells #[.int .u8 (b : Int), .bool mr, .int .i64 wd, .int .i64 dot] 37) = v at *
  obtain ⟨g, hg⟩ : ∃ g, W.heap.size = g := ⟨_, rfl⟩
  have HG : Hid (W.heap.size = g) := hg
  rw [hg] at c0 c1 c2 c3 ⊢
  clear hg
  go_region_held3 (fun w' => w'.cell? ⟨g, 0, none⟩ = some (.int .u8 (b : Int)) ∧ w'.cell? ⟨g, 1, none⟩ = some (.bool mr) ∧ w'.cell? ⟨g, 2, none⟩ = some (.int .i64 wd) ∧ w'.cell? ⟨g, 3, none⟩ = some (.int .i64 dot)) (first | exact ⟨by assumption, by assumption, by assumption, by assumption⟩ | go_keep) (first
    | (go_at_call 18; refine (HL.out _).mono ?_; rintro e w2 ⟨rfl, rfl⟩)
    | (go_at_call 19; refine (HR.out _).mono ?_; rintro e w3 ⟨rfl, rfl⟩)
    | (go_at_call 11; refine (awake18 _ (by first | exact HB0.out.2 | exact HB0.out.2.below (below_drewN (Below.refl _ _) _) (Nat.le_refl _))).mono ?_; rintro e w4 ⟨rfl, hB4'⟩; have HB4 : Hid (Below W.heap.size W w4) := (by first | exact b_keep HB0.out.1 hB4' | exact b_keep (below_drewN HB0.out.1 _) hB4'); have d0 : w4.cell? ⟨g, 0, none⟩ = some (.int .u8 (b : Int)) := (World.cell?_of_block (hB4'.block g (lt_of_cell c0))).trans c0; have d1 : w4.cell? ⟨g, 1, none⟩ = some (.bool mr) := (World.cell?_of_block (hB4'.block g (lt_of_cell c0))).trans c1; have d2 : w4.cell? ⟨g, 2, none⟩ = some (.int .i64 wd) := (World.cell?_of_block (hB4'.block g (lt_of_cell c0))).trans c2; have d3 : w4.cell? ⟨g, 3, none⟩ = some (.int .i64 dot) := (World.cell?_of_block (hB4'.block g (lt_of_cell c0))).trans c3; clear hB4'))
  all_goals go_wp2
  all_goals go_returns
  all_goals exact ⟨rfl, by first | exact HB4.out | exact below_drewN HB4.out _⟩

theorem walk (b : Int) (w0 : (Lit.int .u8 b).wf = true) (mr : Bool) (wd dot : Int) (w1 : (Lit.int .i64 wd).wf = true) (w2 : (Lit.int .i64 dot).wf = true) (W : World) (ht : Tab W) :
    Calls Tryd.prog 6 #[.agg #[.int .u8 b, .bool mr, .int .i64 wd, .int .i64 dot]] W fun e w' => e = .returned (.bool true) ∧ Below W.heap.size W w' := by
  have b0 := bounds_u8 w0
  have b1 := bounds_i64 w2
  obtain ⟨b, rfl⟩ := Int.eq_ofNat_of_zero_le b0.1
  by_cases h : wd < 1 ∨ (1 ≤ wd ∧ dot < 0) ∨ (1 ≤ wd ∧ 0 ≤ dot ∧ 7 < dot / wd)
  · exact good b mr wd dot W _ ht (by omega) (fun w => Graph_no b mr wd dot w b1.2 h) (fun w => RGraph_no b mr wd dot w b1.2 h)
  · have h1 : 1 ≤ wd := by omega
    have h2 : 0 ≤ dot := by omega
    have h3 : 0 ≤ dot / wd := Int.ediv_nonneg h2 (by omega)
    obtain ⟨q, hq⟩ := Int.eq_ofNat_of_zero_le h3
    exact good b mr wd dot W _ ht (by omega) (fun w => Graph b mr wd dot q w (by omega) h1 h2 hq (by omega)) (fun w => RGraph b mr wd dot q w (by omega) h1 h2 hq (by omega))

end Go.Proofs.YtkondnlilkpdoaaDoor.fieldGraphs
