/- What is not there; a new thing, its words, its copy. -/
import Derived.Test.YtienmoannnhhmaaDoorSpr7
set_option linter.unusedVariables false
namespace Go.Proofs.YtienmoannnhhmaaDoor.Sp
open Go.RowKit Count

set_option maxRecDepth 100000 in
set_option maxHeartbeats 1000000 in
theorem Tick_nil (c : Int) (w : World) : Calls Tryd.prog 14 #[.pointer none, .int .u8 c] w fun e w' => e = .returned (.tuple #[]) ∧ w' = w := by
  go_enter Tryd.func14, Tryd.ntmps14
  go_wp2
  go_returns
  exact ⟨rfl, rfl⟩

set_option maxRecDepth 100000 in
set_option maxHeartbeats 1000000 in
theorem Count_nil (w : World) : Calls Tryd.prog 20 #[.pointer none] w fun e w' => e = .returned (.int .i64 0) ∧ w' = w := by
  go_enter Tryd.func20, Tryd.ntmps20
  go_wp2
  go_returns
  exact ⟨rfl, rfl⟩

set_option maxRecDepth 100000 in
set_option maxHeartbeats 1000000 in
theorem Put_nil (j : Int) (w : World) : Calls Tryd.prog 10 #[.pointer none, .int .i64 j] w fun e w' => e = .returned (.int .i64 1) ∧ w' = w := by
  go_enter Tryd.func10, Tryd.ntmps10
  go_wp2
  go_returns
  exact ⟨rfl, rfl⟩

set_option maxRecDepth 100000 in
set_option maxHeartbeats 1000000 in
theorem Dot_nil (j : Int) (w : World) : Calls Tryd.prog 16 #[.pointer none, .int .i64 j] w fun e w' => e = .returned (.int .i64 (-1)) ∧ w' = w := by
  go_enter Tryd.func16, Tryd.ntmps16
  go_wp2
  go_returns
  exact ⟨rfl, rfl⟩

set_option maxRecDepth 100000 in
set_option maxHeartbeats 1000000 in
theorem Words_nil (w : World) : Calls Tryd.prog 18 #[.pointer none] w fun e w' => e = .returned (.agg #[.int .i64 0, .int .i64 0, .int .i64 0]) ∧ Below w.heap.size w w' := by
  go_enter Tryd.func18, Tryd.ntmps18
  go_wp2
  go_returns
  exact ⟨rfl, by go_grown⟩

set_option maxRecDepth 100000 in
set_option maxHeartbeats 1000000 in
theorem Set_nil (x y z : Int) (w : World) : Calls Tryd.prog 11 #[.pointer none, .agg #[.int .i64 x, .int .i64 y, .int .i64 z]] w fun e w' => e = .returned (.int .i64 1) ∧ Below w.heap.size w w' := by
  go_enter Tryd.func11, Tryd.ntmps11
  go_wp2
  go_returns
  exact ⟨rfl, by go_grown⟩

set_option maxRecDepth 100000 in
set_option maxHeartbeats 1000000 in
theorem Copy_nil (w : World) : Calls Tryd.prog 25 #[.pointer none] w fun e w' => e = .returned (.pointer none) ∧ w' = w := by
  go_enter Tryd.func25, Tryd.ntmps25
  go_wp2
  go_returns
  exact ⟨rfl, rfl⟩

set_option maxRecDepth 100000 in
set_option maxHeartbeats 1000000 in
theorem New (w : World) : Calls Tryd.prog 8 #[] w fun e w' => ∃ b pb, e = .returned (.pointer (some ⟨b, 0, none⟩)) ∧ w.heap.size ≤ b ∧ w.heap.size ≤ pb ∧ TAt w' b pb 0 0 ∧ Below w.heap.size w w' := by
  go_enter Tryd.func8, Tryd.ntmps8
  go_wp2_with (go_at_call 26; fail)
  refine (Begin _).mono ?_
  rintro e w1 ⟨pb, rfl, hpb, hP, hB⟩
  go_wp2
  go_returns
  have hh := heap_alloc_new w1 (.cells #[.pointer (some ⟨pb, 0, none⟩), .int .u64 0, .int .u64 0, .int .u64 0, .int .u64 0] 60)
  have hBn : Below w1.heap.size w1 (w1.alloc (.cells #[.pointer (some ⟨pb, 0, none⟩), .int .u64 0, .int .u64 0, .int .u64 0, .int .u64 0] 60)) := (Below.refl _ w1).alloc (Nat.le_refl _) _
  have hlp := hP.lt
  refine ⟨_, pb, rfl, hB.size, hpb, ⟨cell_of_row _ _ _ _ _ _ hh, hP.below hBn hlp, ⟨fun i hi => ?_, fun i => frozen_of_row _ _ _ _ _ hh, by decide⟩, by omega⟩, hB.alloc hB.size _⟩
  rw [wd_zero]
  rcases (show i = 0 ∨ i = 1 ∨ i = 2 ∨ i = 3 by omega) with rfl | rfl | rfl | rfl
  all_goals exact cell_of_row _ _ _ _ _ _ hh

set_option maxRecDepth 100000 in
set_option maxHeartbeats 1000000 in
theorem Copy (b pb n X : Nat) (w : World) (h : TAt w b pb n X) : Calls Tryd.prog 25 #[.pointer (some ⟨b, 0, none⟩)] w fun e w' => ∃ c pc, e = .returned (.pointer (some ⟨c, 0, none⟩)) ∧ w.heap.size ≤ c ∧ w.heap.size ≤ pc ∧ TAt w' c pc n X ∧ Below w.heap.size w w' := by
  have p0 := h.p0
  have H : Hid (TAt w b pb n X) := h
  clear h
  go_enter Tryd.func25, Tryd.ntmps25
  go_wp2
  obtain ⟨u0, hu0⟩ : ∃ u, u = wd X 0 := ⟨_, rfl⟩
  obtain ⟨u1, hu1⟩ : ∃ u, u = wd X 1 := ⟨_, rfl⟩
  obtain ⟨u2, hu2⟩ : ∃ u, u = wd X 2 := ⟨_, rfl⟩
  obtain ⟨u3, hu3⟩ : ∃ u, u = wd X 3 := ⟨_, rfl⟩
  have HU : Hid (u0 = wd X 0 ∧ u1 = wd X 1 ∧ u2 = wd X 2 ∧ u3 = wd X 3) := ⟨hu0, hu1, hu2, hu3⟩
  have k0 : w.cell? ⟨b, 1, none⟩ = some (.int .u64 (u0 : Int)) := by rw [hu0]; exact H.out.dl.c 0 (by decide)
  have k1 : w.cell? ⟨b, 2, none⟩ = some (.int .u64 (u1 : Int)) := by rw [hu1]; exact H.out.dl.c 1 (by decide)
  have k2 : w.cell? ⟨b, 3, none⟩ = some (.int .u64 (u2 : Int)) := by rw [hu2]; exact H.out.dl.c 2 (by decide)
  have k3 : w.cell? ⟨b, 4, none⟩ = some (.int .u64 (u3 : Int)) := by rw [hu3]; exact H.out.dl.c 3 (by decide)
  have hlt := H.out.lt
  clear hu0 hu1 hu2 hu3
  go_region_held3 (fun w' => w'.cell? ⟨b, 0, none⟩ = some (.pointer (some ⟨pb, 0, none⟩)) ∧ w'.cell? ⟨b, 1, none⟩ = some (.int .u64 (u0 : Int)) ∧ w'.cell? ⟨b, 2, none⟩ = some (.int .u64 (u1 : Int)) ∧ w'.cell? ⟨b, 3, none⟩ = some (.int .u64 (u2 : Int)) ∧ w'.cell? ⟨b, 4, none⟩ = some (.int .u64 (u3 : Int))) (first | exact ⟨by assumption, by assumption, by assumption, by assumption, by assumption⟩ | go_keep) (first
    | (go_at_call 40; refine (PlCopy pb n _ (by first | exact H.out.pl | exact (H.out.draws 1).pl)).mono ?_; rintro e w2 ⟨pc, rfl, hpc, hPc, hB2⟩; have HB2 : Hid (Below w.heap.size w w2) := ⟨hB2.os, hB2.tape, hB2.output, hB2.size, hB2.block⟩; have HPc : Hid (PlAt w2 pc n ∧ w.heap.size ≤ pc) := ⟨hPc, hpc⟩; have jp := (HB2.out.cell (p := ⟨b, 0, none⟩) hlt).trans p0; have j0 := (HB2.out.cell (p := ⟨b, 1, none⟩) hlt).trans k0; have j1 := (HB2.out.cell (p := ⟨b, 2, none⟩) hlt).trans k1; have j2 := (HB2.out.cell (p := ⟨b, 3, none⟩) hlt).trans k2; have j3 := (HB2.out.cell (p := ⟨b, 4, none⟩) hlt).trans k3; clear hPc hpc hB2))
  all_goals
    go_wp2
    go_returns
    have hh := heap_alloc_new w2 (.cells #[.pointer (some ⟨pc, 0, none⟩), .int .u64 (u0 : Int), .int .u64 (u1 : Int), .int .u64 (u2 : Int), .int .u64 (u3 : Int)] 60)
    have hBn : Below w2.heap.size w2 (w2.alloc (.cells #[.pointer (some ⟨pc, 0, none⟩), .int .u64 (u0 : Int), .int .u64 (u1 : Int), .int .u64 (u2 : Int), .int .u64 (u3 : Int)] 60)) := (Below.refl _ w2).alloc (Nat.le_refl _) _
    have hlp := HPc.out.1.lt
    refine ⟨_, pc, rfl, HB2.out.size, HPc.out.2, ⟨cell_of_row _ _ _ _ _ _ hh, HPc.out.1.below hBn hlp, ⟨fun i hi => ?_, fun i => frozen_of_row _ _ _ _ _ hh, H.out.dl.lt⟩, by omega⟩, HB2.out.alloc HB2.out.size _⟩
    rcases (show i = 0 ∨ i = 1 ∨ i = 2 ∨ i = 3 by omega) with rfl | rfl | rfl | rfl
    · rw [← HU.out.1]; exact cell_of_row _ _ _ _ _ _ hh
    · rw [← HU.out.2.1]; exact cell_of_row _ _ _ _ _ _ hh
    · rw [← HU.out.2.2.1]; exact cell_of_row _ _ _ _ _ _ hh
    · rw [← HU.out.2.2.2]; exact cell_of_row _ _ _ _ _ _ hh

set_option maxRecDepth 100000 in
set_option maxHeartbeats 1000000 in
theorem WordsA (b pb n X y z : Nat) (w : World) (hy : y = (ag X).1) (hz : z = (ag X).2) (hT : Tb w) (h : TAt w b pb n X) : Calls Tryd.prog 18 #[.pointer (some ⟨b, 0, none⟩)] w fun e w' => e = .returned (.agg #[.int .i64 (n : Int), .int .i64 (y : Int), .int .i64 (z : Int)]) ∧ Below w.heap.size w w' := by
  have hh := heap_alloc_new w (.cells #[.int .i64 0, .int .i64 0, .int .i64 0] 29)
  have qf : ∀ i, (w.alloc (.cells #[.int .i64 0, .int .i64 0, .int .i64 0] 29)).frozen? ⟨w.heap.size, i, none⟩ = false := fun i => frozen_of_row _ _ _ _ _ hh
  obtain ⟨q0, q1, q2⟩ := cell3 hh
  have hBw : Below w.heap.size w (w.alloc (.cells #[.int .i64 0, .int .i64 0, .int .i64 0] 29)) := (Below.refl _ w).alloc (Nat.le_refl _) _
  have hs : w.heap.size < (w.alloc (.cells #[.int .i64 0, .int .i64 0, .int .i64 0] 29)).heap.size := by simp
  have HH : Hid (TAt (w.alloc (.cells #[.int .i64 0, .int .i64 0, .int .i64 0] 29)) b pb n X) := h.below hBw
  have HT : Hid (Tb (w.alloc (.cells #[.int .i64 0, .int .i64 0, .int .i64 0] 29))) := hT.below hBw
  have HYZ : Hid (y = (ag X).1 ∧ z = (ag X).2) := ⟨hy, hz⟩
  have p0 := HH.out.p0
  have hbw := h.lt
  have i0 := at2_0 (y : Int) (z : Int)
  have i1 := at2_1 (y : Int) (z : Int)
  clear h hh hT hy hz
  go_enter Tryd.func18, Tryd.ntmps18
  go_wp2_with (go_at_call 36; fail)
  generalize w.alloc (.cells #[.int .i64 0, .int .i64 0, .int .i64 0] 29) = wa at q0 q1 q2 qf hBw hs HH HT p0 ⊢
  refine (lastTwo b 1 X _ HT.out HH.out.dl).mono ?_
  rintro e w2 ⟨rfl, hb⟩
  rw [← HYZ.out.1, ← HYZ.out.2]
  have H2 : Hid (TAt w2 b pb n X) := HH.out.below hb
  have p2 := H2.out.p0
  have r0 := (hb.cell (p := ⟨w.heap.size, 0, none⟩) hs).trans q0
  have r1 := (hb.cell (p := ⟨w.heap.size, 1, none⟩) hs).trans q1
  have r2 := (hb.cell (p := ⟨w.heap.size, 2, none⟩) hs).trans q2
  have rf : ∀ i, w2.frozen? ⟨w.heap.size, i, none⟩ = false := fun i => (hb.frozen (p := ⟨w.heap.size, i, none⟩) hs).trans (qf i)
  have HO : Hid (Below w.heap.size w w2) := hBw.trans (hb.mono (by omega))
  have hs2 : w.heap.size < w2.heap.size := by have := hb.size; omega
  clear hb hBw q0 q1 q2 qf hs HH HT p0
  go_wp2
  have hh3 := heap_alloc_new w2 (.cells #[.int .i64 (y : Int), .int .i64 (z : Int)] 65)
  obtain ⟨l0, l1⟩ := cell2 hh3
  have hB3 : Below w2.heap.size w2 (w2.alloc (.cells #[.int .i64 (y : Int), .int .i64 (z : Int)] 65)) := (Below.refl _ w2).alloc (Nat.le_refl _) _
  have hs3 : w2.heap.size < (w2.alloc (.cells #[.int .i64 (y : Int), .int .i64 (z : Int)] 65)).heap.size := by simp
  generalize w2.alloc (.cells #[.int .i64 (y : Int), .int .i64 (z : Int)] 65) = w3 at l0 l1 hB3 hs3 ⊢
  have H3 : Hid (TAt w3 b pb n X) := H2.out.below hB3
  have p3 := H3.out.p0
  have t0 := (hB3.cell (p := ⟨w.heap.size, 0, none⟩) hs2).trans r0
  have t1 := (hB3.cell (p := ⟨w.heap.size, 1, none⟩) hs2).trans r1
  have t2 := (hB3.cell (p := ⟨w.heap.size, 2, none⟩) hs2).trans r2
  have tf : ∀ i, w3.frozen? ⟨w.heap.size, i, none⟩ = false := fun i => (hB3.frozen (p := ⟨w.heap.size, i, none⟩) hs2).trans (rf i)
  have HO3 : Hid (Below w.heap.size w w3) := HO.out.trans (hB3.mono (by omega))
  have hsr : w.heap.size < w3.heap.size := by omega
  obtain ⟨R, hR⟩ : ∃ R, R = w.heap.size := ⟨_, rfl⟩
  obtain ⟨L, hLL⟩ : ∃ L, L = w2.heap.size := ⟨_, rfl⟩
  have HR : Hid (R = w.heap.size) := hR
  rw [← hR] at t0 t1 t2 tf hsr HO3 ⊢
  rw [← hLL] at l0 l1 hs3 ⊢
  have hRL : ¬ R = L := by omega
  have hLR : ¬ L = R := by omega
  clear hh3 r0 r1 r2 rf p2 H2 HO hs2 hB3 hR hLL
  have hb3 := H3.out.lt
  have hbR : ¬ b = R := by have := HR.out; have := hbw; omega
  have hRb : ¬ R = b := fun e => hbR e.symm
  go_region_held3 (fun w' => w'.cell? ⟨b, 0, none⟩ = some (.pointer (some ⟨pb, 0, none⟩)) ∧ w'.cell? ⟨L, 0, none⟩ = some (.int .i64 (y : Int)) ∧ w'.cell? ⟨L, 1, none⟩ = some (.int .i64 (z : Int))) (first | exact ⟨by assumption, by assumption, by assumption⟩ | go_keep) (first
    | (go_at_call 33; refine (PlCount pb n _ (by first | exact H3.out.pl | exact (H3.out.draws 1).pl)).mono ?_; rintro e w4 ⟨rfl, hB4⟩; have HB4 : Hid (Below w3.heap.size w3 w4) := ⟨hB4.os, hB4.tape, hB4.output, hB4.size, hB4.block⟩; have jp := (HB4.out.cell (p := ⟨b, 0, none⟩) hb3).trans p3; have j0 := (HB4.out.cell (p := ⟨L, 0, none⟩) hs3).trans l0; have j1 := (HB4.out.cell (p := ⟨L, 1, none⟩) hs3).trans l1; have v0 := (HB4.out.cell (p := ⟨R, 0, none⟩) hsr).trans t0; have v1 := (HB4.out.cell (p := ⟨R, 1, none⟩) hsr).trans t1; have v2 := (HB4.out.cell (p := ⟨R, 2, none⟩) hsr).trans t2; have vf0 := (HB4.out.frozen (p := ⟨R, 0, none⟩) hsr).trans (tf 0); have vf1 := (HB4.out.frozen (p := ⟨R, 1, none⟩) hsr).trans (tf 1); have vf2 := (HB4.out.frozen (p := ⟨R, 2, none⟩) hsr).trans (tf 2); clear hB4))
  all_goals
    go_wp2
    have HB5 : Hid (Below R w w4) := HO3.out.trans (HB4.out.mono (by omega))
    clear j0 j1 jp vf0 vf1 vf2 HB4
    have s0 : (((w4.setCell ⟨R, 0, none⟩ (.int .i64 (n : Int))).setCell ⟨R, 1, none⟩ (.int .i64 (y : Int))).setCell ⟨R, 2, none⟩ (.int .i64 (z : Int))).cell? ⟨R, 0, none⟩ = some (.int .i64 (n : Int)) :=
      (World.cell?_setCell_other _ _ _ _ (by simp)).trans ((World.cell?_setCell_other _ _ _ _ (by simp)).trans (World.cell?_setCell_same' _ _ _ (by rw [v0]; rfl)))
    have s1 : (((w4.setCell ⟨R, 0, none⟩ (.int .i64 (n : Int))).setCell ⟨R, 1, none⟩ (.int .i64 (y : Int))).setCell ⟨R, 2, none⟩ (.int .i64 (z : Int))).cell? ⟨R, 1, none⟩ = some (.int .i64 (y : Int)) :=
      (World.cell?_setCell_other _ _ _ _ (by simp)).trans (World.cell?_setCell_same' _ _ _ (by rw [World.cell?_setCell_other _ _ _ _ (by simp), v1]; rfl))
    have s2 : (((w4.setCell ⟨R, 0, none⟩ (.int .i64 (n : Int))).setCell ⟨R, 1, none⟩ (.int .i64 (y : Int))).setCell ⟨R, 2, none⟩ (.int .i64 (z : Int))).cell? ⟨R, 2, none⟩ = some (.int .i64 (z : Int)) :=
      World.cell?_setCell_same' _ _ _ (by rw [World.cell?_setCell_other _ _ _ _ (by simp), World.cell?_setCell_other _ _ _ _ (by simp), v2]; rfl)
    have hT6 : Below R w (((w4.setCell ⟨R, 0, none⟩ (.int .i64 (n : Int))).setCell ⟨R, 1, none⟩ (.int .i64 (y : Int))).setCell ⟨R, 2, none⟩ (.int .i64 (z : Int))) := ((HB5.out.setCell (p := ⟨R, 0, none⟩) (Nat.le_refl _) _).setCell (p := ⟨R, 1, none⟩) (Nat.le_refl _) _).setCell (p := ⟨R, 2, none⟩) (Nat.le_refl _) _
    generalize ((w4.setCell ⟨R, 0, none⟩ (.int .i64 (n : Int))).setCell ⟨R, 1, none⟩ (.int .i64 (y : Int))).setCell ⟨R, 2, none⟩ (.int .i64 (z : Int)) = w6 at s0 s1 s2 hT6 ⊢
    refine bodyPost_ret (v := .agg #[.int .i64 (n : Int), .int .i64 (y : Int), .int .i64 (z : Int)]) (by simp [results, Tryd.f18, go_sem, s0, s1, s2]) rfl ?_
    exact ⟨rfl, by rw [← HR.out]; exact hT6⟩

theorem Words (b pb n X : Nat) (w : World) (hT : Tb w) (h : TAt w b pb n X) : Calls Tryd.prog 18 #[.pointer (some ⟨b, 0, none⟩)] w fun e w' => e = .returned (.agg #[.int .i64 (n : Int), .int .i64 ((ag X).1 : Int), .int .i64 ((ag X).2 : Int)]) ∧ Below w.heap.size w w' :=
  WordsA b pb n X _ _ w rfl rfl hT h

end Go.Proofs.YtienmoannnhhmaaDoor.Sp
