/- What the document's words of layer 20 are. -/
import Derived.Test.YtdnfclhljahghaaRefP
import Derived.Test.YtdnfclhljahghaaQStore
namespace Go.Proofs.Ytdnfclhljahghaa.Po
open Go.RowKit
set_option linter.unusedVariables false

set_option maxHeartbeats 400000 in
theorem Rone (x : Bool) (w : World) : Calls Try.prog 67 #[.bool x] w fun e w' => e = .returned (.int .i64 (oi x)) ∧ w' = w := by
  cases x
  all_goals
    go_enter Try.func67, Try.ntmps67
    go_wp2
    go_returns
    exact ⟨rfl, rfl⟩

set_option maxRecDepth 100000 in
set_option maxHeartbeats 4000000 in
theorem RWords (p : Pt) (w : World) : Calls Try.prog 42 #[p.rv] w fun e w' => e = .returned (.agg p.w.toArray) ∧ Below w.heap.size w w' := by
  obtain ⟨v0, v1, v2, v3, c, d, l, h0, t0, h1, t1⟩ := p
  unfold Pt.rv
  go_enter Try.func42, Try.ntmps42
  go_wp2_with (fail)
  generalize hw1 : World.alloc (World.alloc _ _) _ = w1
  have hrr : Row w1 w.heap.size (Pt.rc ⟨v0, v1, v2, v3, c, d, l, h0, t0, h1, t1⟩) ∧ Row w1 (w.heap.size + 1) zs ∧ Below w.heap.size w w1 := by rw [← hw1]; exact rows2 w _ _ _ _ (by simp)
  obtain ⟨hr, hz, hB⟩ := hrr
  have HB : Hid (Below w.heap.size w w1) := hB
  have HZ : Hid (Row w1 (w.heap.size + 1) zs) := hz
  have y0 := hr.at_ 0 _ rfl
  have y1 := hr.at_ 1 _ rfl
  have y2 := hr.at_ 2 _ rfl
  have y3 := hr.at_ 3 _ rfl
  have y4 := hr.at_ 4 _ rfl
  have y5 := hr.at_ 5 _ rfl
  have y6 := hr.at_ 6 _ rfl
  have y7 := hr.at_ 7 _ rfl
  have y8 := hr.at_ 8 _ rfl
  have y9 := hr.at_ 9 _ rfl
  have y10 := hr.at_ 10 _ rfl
  clear hr hw1 hz hB
  generalize hY : w.heap.size + 1 = Y at HZ ⊢
  have hXY : ¬ w.heap.size = Y := by omega
  have hY0 : w.heap.size ≤ Y := by omega
  clear hY
  generalize hX : w.heap.size = X at y0 y1 y2 y3 y4 y5 y6 y7 y8 y9 y10 HB hXY hY0 ⊢
  have HX : Hid (w.heap.size = X) := hX
  clear hX
  have z0 := HZ.out.at_ 0 _ rfl
  have z1 := HZ.out.at_ 1 _ rfl
  have z2 := HZ.out.at_ 2 _ rfl
  have z3 := HZ.out.at_ 3 _ rfl
  have z4 := HZ.out.at_ 4 _ rfl
  have z5 := HZ.out.at_ 5 _ rfl
  have z6 := HZ.out.at_ 6 _ rfl
  have z7 := HZ.out.at_ 7 _ rfl
  have z8 := HZ.out.at_ 8 _ rfl
  have z9 := HZ.out.at_ 9 _ rfl
  have z10 := HZ.out.at_ 10 _ rfl
  have fz := HZ.out.fz
  have f0 := fz 0
  have f1 := fz 1
  have f2 := fz 2
  have f3 := fz 3
  have f4 := fz 4
  have f5 := fz 5
  have f6 := fz 6
  have f7 := fz 7
  have f8 := fz 8
  have f9 := fz 9
  have f10 := fz 10
  clear fz
  have hYX : ¬ Y = X := fun e => hXY e.symm
  refine wp_region_then 37 1 (by kernel_rfl) (by kernel_rfl) ?_
  simp only [List.take_succ_cons, List.take_zero, List.drop_succ_cons, List.drop_zero]
  repeat (go_big_quiet_step ((go_at_call 67; exact Calls.quiet_of_same (Rone _ _))))
  refine wpQuiet_nil ?_
  rintro _ ⟨nq, rfl⟩
  go_wp2_with (fail)
  generalize hw3 : World.setCell _ _ _ = w3
  have H3 : Hid (Row w3 Y (Pt.w ⟨v0, v1, v2, v3, c, d, l, h0, t0, h1, t1⟩) ∧ Below X w w3) := by
    rw [← hw3]
    exact ⟨((((((((((((HZ.out.draws nq).put 0 _).put 1 _).put 2 _).put 3 _).put 4 _).put 5 _).put 6 _).put 7 _).put 8 _).put 9 _).put 10 _).to rfl, ((((((((((((below_drewN HB.out nq).setCell (p := ⟨Y, 0, none⟩) hY0 _).setCell (p := ⟨Y, 1, none⟩) hY0 _).setCell (p := ⟨Y, 2, none⟩) hY0 _).setCell (p := ⟨Y, 3, none⟩) hY0 _).setCell (p := ⟨Y, 4, none⟩) hY0 _).setCell (p := ⟨Y, 5, none⟩) hY0 _).setCell (p := ⟨Y, 6, none⟩) hY0 _).setCell (p := ⟨Y, 7, none⟩) hY0 _).setCell (p := ⟨Y, 8, none⟩) hY0 _).setCell (p := ⟨Y, 9, none⟩) hY0 _).setCell (p := ⟨Y, 10, none⟩) hY0 _)⟩
  clear hw3
  have k0 := H3.out.1.at_ 0 _ rfl
  have k1 := H3.out.1.at_ 1 _ rfl
  have k2 := H3.out.1.at_ 2 _ rfl
  have k3 := H3.out.1.at_ 3 _ rfl
  have k4 := H3.out.1.at_ 4 _ rfl
  have k5 := H3.out.1.at_ 5 _ rfl
  have k6 := H3.out.1.at_ 6 _ rfl
  have k7 := H3.out.1.at_ 7 _ rfl
  have k8 := H3.out.1.at_ 8 _ rfl
  have k9 := H3.out.1.at_ 9 _ rfl
  have k10 := H3.out.1.at_ 10 _ rfl
  refine bodyPost_ret (v := .agg (Pt.w ⟨v0, v1, v2, v3, c, d, l, h0, t0, h1, t1⟩).toArray) (by simp [results, Try.f42, go_sem, k0, k1, k2, k3, k4, k5, k6, k7, k8, k9, k10, Pt.w]) rfl ⟨rfl, by rw [HX.out]; exact H3.out.2⟩

end Go.Proofs.Ytdnfclhljahghaa.Po
