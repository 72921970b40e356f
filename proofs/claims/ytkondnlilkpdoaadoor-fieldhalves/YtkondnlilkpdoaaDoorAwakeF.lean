/- What the chapter's examples come to. -/
import Derived.Test.YtkondnlilkpdoaaDoorFldL
import Derived.Test.YtkondnlilkpdoaaDoorFld5
set_option linter.unusedVariables false
namespace Go.Proofs.YtkondnlilkpdoaaDoor.Fi
open Go.RowKit

/-- What the examples stand on. -/
structure Aw (W : World) (p d : Nat) (w : World) : Prop where
  old : Below W.heap.size W w
  tab : Tab w
  g0 : w.cell? ⟨p, 0, none⟩ = some (.int .u8 16)
  g1 : w.cell? ⟨p, 1, none⟩ = some (.int .u8 0)
  g2 : w.cell? ⟨p, 2, none⟩ = some (.int .u8 0)
  dots : DAt w d (six true false false false false true)
theorem Aw.below {W w w' : World} {p d : Nat} (h : Aw W p d w) (hb : Below w.heap.size w w') : Aw W p d w' :=
  have e := hb.block p (lt_of_cell h.g0)
  ⟨b_keep h.old hb, h.tab.below hb (Nat.le_refl _), (World.cell?_of_block (w := w) e).trans h.g0, (World.cell?_of_block (w := w) e).trans h.g1, (World.cell?_of_block (w := w) e).trans h.g2, h.dots.below hb⟩
theorem aw_new {w : World} (hT : Tab w) : Aw w w.heap.size (w.heap.size + 1) ((w.alloc (.cells #[.int .u8 16, .int .u8 0, .int .u8 0] 22)).alloc (.cells #[.bool true, .bool false, .bool false, .bool false, .bool false, .bool true] 26)) := by
  have hb1 : Below w.heap.size w (w.alloc (.cells #[.int .u8 16, .int .u8 0, .int .u8 0] 22)) := (Below.refl _ w).alloc (Nat.le_refl _) _
  have hb2 : Below (w.alloc (.cells #[.int .u8 16, .int .u8 0, .int .u8 0] 22)).heap.size (w.alloc (.cells #[.int .u8 16, .int .u8 0, .int .u8 0] 22)) ((w.alloc (.cells #[.int .u8 16, .int .u8 0, .int .u8 0] 22)).alloc (.cells #[.bool true, .bool false, .bool false, .bool false, .bool false, .bool true] 26)) := (Below.refl _ _).alloc (Nat.le_refl _) _
  have hh := heap_alloc_new w (.cells #[.int .u8 16, .int .u8 0, .int .u8 0] 22)
  have e := (hb2.block w.heap.size (by simp)).trans hh
  have hd := new_dots (w.alloc (.cells #[.int .u8 16, .int .u8 0, .int .u8 0] 22)) true false false false false true
  rw [show (w.alloc (.cells #[.int .u8 16, .int .u8 0, .int .u8 0] 22)).heap.size = w.heap.size + 1 by simp] at hd
  exact ⟨b_keep hb1 hb2, (hT.below hb1 (Nat.le_refl _)).below hb2 (Nat.le_refl _), cell_of_row _ _ _ _ _ _ e, cell_of_row _ _ _ _ _ _ e, cell_of_row _ _ _ _ _ _ e, hd⟩

set_option maxRecDepth 100000 in
set_option maxHeartbeats 4000000 in
theorem awake18 (w : World) (hT : Tab w) : Calls Tryd.prog 11 #[] w fun e w' => e = .returned (.bool true) ∧ Below w.heap.size w w' := by
  have HA : Hid (Aw w w.heap.size (w.heap.size + 1) ((w.alloc (.cells #[.int .u8 16, .int .u8 0, .int .u8 0] 22)).alloc (.cells #[.bool true, .bool false, .bool false, .bool false, .bool false, .bool true] 26))) := aw_new hT
  clear hT
  go_enter Tryd.func11, Tryd.ntmps11
  go_wp2_with (go_at_call 9; fail)
  generalize ((w.alloc (.cells #[.int .u8 16, .int .u8 0, .int .u8 0] 22)).alloc (.cells #[.bool true, .bool false, .bool false, .bool false, .bool false, .bool true] 26)) = v0 at *
  generalize w.heap.size + 1 = d at *
  obtain ⟨p, hp⟩ : ∃ p, w.heap.size = p := ⟨_, rfl⟩
  have HP : Hid (w.heap.size = p) := hp
  have H0 : Hid (Aw w p d v0) := (by rw [← hp]; exact HA.out : Aw w p d v0)
  rw [hp]
  clear hp HA
  refine (Lit 16 0 0 0 3 _ (by decide) (by decide) (by decide) (by decide) (by decide)).mono ?_
  rintro e v1 ⟨rfl, hB1⟩
  have H1 : Hid (Aw w p d v1) := H0.out.below hB1
  rw [show fbit 16 0 0 (at_ 0 3) = true by decide]
  have g0 := H1.out.g0
  have g1 := H1.out.g1
  have g2 := H1.out.g2
  clear hB1 H0
  go_wp2_with (go_at_call 9; fail)
  refine (Lit 16 0 0 0 4 _ (by decide) (by decide) (by decide) (by decide) (by decide)).mono ?_
  rintro e v2 ⟨rfl, hB2⟩
  have H2 : Hid (Aw w p d v2) := H1.out.below hB2
  rw [show fbit 16 0 0 (at_ 0 4) = false by decide]
  have g0 := H2.out.g0
  have g1 := H2.out.g1
  have g2 := H2.out.g2
  clear hB2 H1
  go_wp2_with (go_at_call 9; fail)
  refine (Lit 16 0 0 0 80 _ (by decide) (by decide) (by decide) (by decide) (by decide)).mono ?_
  rintro e v3 ⟨rfl, hB3⟩
  have H3 : Hid (Aw w p d v3) := H2.out.below hB3
  rw [show fbit 16 0 0 (at_ 0 80) = true by decide]
  have g0 := H3.out.g0
  have g1 := H3.out.g1
  have g2 := H3.out.g2
  clear hB3 H2
  go_wp2_with (go_at_call 9; fail)
  refine (Lit 16 0 0 1 80 _ (by decide) (by decide) (by decide) (by decide) (by decide)).mono ?_
  rintro e v4 ⟨rfl, hB4⟩
  have H4 : Hid (Aw w p d v4) := H3.out.below hB4
  rw [show fbit 16 0 0 (at_ 1 80) = false by decide]
  have g0 := H4.out.g0
  have g1 := H4.out.g1
  have g2 := H4.out.g2
  clear hB4 H3
  go_wp2_with (go_at_call 9; fail)
  refine (Lit 16 0 0 1 159 _ (by decide) (by decide) (by decide) (by decide) (by decide)).mono ?_
  rintro e v5 ⟨rfl, hB5⟩
  have H5 : Hid (Aw w p d v5) := H4.out.below hB5
  rw [show fbit 16 0 0 (at_ 1 159) = true by decide]
  have c0 : v5.cell? ⟨d, 0, none⟩ = some (.bool true) := H5.out.dots.c 0 (by decide)
  have c1 : v5.cell? ⟨d, 1, none⟩ = some (.bool false) := H5.out.dots.c 1 (by decide)
  have c2 : v5.cell? ⟨d, 2, none⟩ = some (.bool false) := H5.out.dots.c 2 (by decide)
  have c3 : v5.cell? ⟨d, 3, none⟩ = some (.bool false) := H5.out.dots.c 3 (by decide)
  have c4 : v5.cell? ⟨d, 4, none⟩ = some (.bool false) := H5.out.dots.c 4 (by decide)
  have c5 : v5.cell? ⟨d, 5, none⟩ = some (.bool true) := H5.out.dots.c 5 (by decide)
  clear hB5 H4
  go_wp2_with (go_at_call 13; fail)
  refine (Seen true false false false false true 0 0 true false false _ (by decide) rfl rfl rfl H5.out.tab).mono ?_
  rintro e v6 ⟨rfl, hB6⟩
  have H6 : Hid (Aw w p d v6) := H5.out.below hB6
  rw [show seenI false false true false false false false true true = 0 by decide]
  have c0 : v6.cell? ⟨d, 0, none⟩ = some (.bool true) := H6.out.dots.c 0 (by decide)
  have c1 : v6.cell? ⟨d, 1, none⟩ = some (.bool false) := H6.out.dots.c 1 (by decide)
  have c2 : v6.cell? ⟨d, 2, none⟩ = some (.bool false) := H6.out.dots.c 2 (by decide)
  have c3 : v6.cell? ⟨d, 3, none⟩ = some (.bool false) := H6.out.dots.c 3 (by decide)
  have c4 : v6.cell? ⟨d, 4, none⟩ = some (.bool false) := H6.out.dots.c 4 (by decide)
  have c5 : v6.cell? ⟨d, 5, none⟩ = some (.bool true) := H6.out.dots.c 5 (by decide)
  clear hB6 H5
  go_wp2_with (go_at_call 13; fail)
  refine (Seen true false false false false true 4 0 true true false _ (by decide) rfl rfl rfl H6.out.tab).mono ?_
  rintro e v7 ⟨rfl, hB7⟩
  have H7 : Hid (Aw w p d v7) := H6.out.below hB7
  rw [show seenI true false true false false false false true true = 2 by decide]
  have c0 : v7.cell? ⟨d, 0, none⟩ = some (.bool true) := H7.out.dots.c 0 (by decide)
  have c1 : v7.cell? ⟨d, 1, none⟩ = some (.bool false) := H7.out.dots.c 1 (by decide)
  have c2 : v7.cell? ⟨d, 2, none⟩ = some (.bool false) := H7.out.dots.c 2 (by decide)
  have c3 : v7.cell? ⟨d, 3, none⟩ = some (.bool false) := H7.out.dots.c 3 (by decide)
  have c4 : v7.cell? ⟨d, 4, none⟩ = some (.bool false) := H7.out.dots.c 4 (by decide)
  have c5 : v7.cell? ⟨d, 5, none⟩ = some (.bool true) := H7.out.dots.c 5 (by decide)
  clear hB7 H6
  go_wp2_with (go_at_call 12; fail)
  refine (Meet true false false false false true _ _ H7.out.tab rfl).mono ?_
  rintro e v8 ⟨rfl, hB8⟩
  have H8 : Hid (Aw w p d v8) := H7.out.below hB8
  rw [show mt (six true false false false false true) 15 = 16 by decide]
  have c0 : v8.cell? ⟨d, 0, none⟩ = some (.bool true) := H8.out.dots.c 0 (by decide)
  have c1 : v8.cell? ⟨d, 1, none⟩ = some (.bool false) := H8.out.dots.c 1 (by decide)
  have c2 : v8.cell? ⟨d, 2, none⟩ = some (.bool false) := H8.out.dots.c 2 (by decide)
  have c3 : v8.cell? ⟨d, 3, none⟩ = some (.bool false) := H8.out.dots.c 3 (by decide)
  have c4 : v8.cell? ⟨d, 4, none⟩ = some (.bool false) := H8.out.dots.c 4 (by decide)
  have c5 : v8.cell? ⟨d, 5, none⟩ = some (.bool true) := H8.out.dots.c 5 (by decide)
  clear hB8 H7
  go_wp2_with (go_at_call 13; fail)
  refine (Seen false false false false false false 0 0 true false false _ (by decide) rfl rfl rfl H8.out.tab).mono ?_
  rintro e v9 ⟨rfl, hB9⟩
  have H9 : Hid (Aw w p d v9) := H8.out.below hB9
  rw [show seenI false false false false false false false false true = 3 by decide]
  clear hB9 H8
  go_wp2
  go_returns
  exact ⟨rfl, by rw [HP.out]; exact HP.out ▸ H9.out.old⟩

end Go.Proofs.YtkondnlilkpdoaaDoor.Fi
