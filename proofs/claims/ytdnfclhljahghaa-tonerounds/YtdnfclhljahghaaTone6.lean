/- What Words, Set, Copy of package tone do; many ticks. (Written by wip/gen/gen_tone6.py.) -/
import Derived.Test.YtdnfclhljahghaaTone5
import Derived.Test.YtdnfclhljahghaaQStore
namespace Go.Proofs.Ytdnfclhljahghaa.To
open Go.RowKit
set_option linter.unusedVariables false

def oi (b : Bool) : Int := if b = true then 1 else 0
theorem oi_eq (b : Bool) : (oi b == 1) = b := by cases b <;> rfl
def Vo.w (p : Vo) : List Go.Value := [.int .i64 (p.c : Int), .int .i64 (p.r : Int), .int .i64 (p.v : Int), .int .i64 (p.f4 : Int), .int .i64 (p.f5 : Int), .int .i64 (p.f9 : Int), .int .i64 (p.k : Int), .int .i64 (oi p.hi)]

set_option maxRecDepth 100000 in
set_option maxHeartbeats 4000000 in
theorem Words (b : Nat) (p : Vo) (w : World) (h : VAt w b p) : Calls Try.prog 14 #[.pointer (some ⟨b, 0, none⟩)] w fun e w' => e = .returned (.agg p.w.toArray) ∧ Below w.heap.size w w' := by
  have H : Hid (VAt w b p) := h
  have hb := h.lt
  obtain ⟨a0, a1, a2, a3, a4, a5, a6⟩ := h.ok
  have e0 : IntKind.i64.wrap (p.c : Int) = p.c := IntWalk.i64_in _ (by omega)
  have e1 : IntKind.i64.wrap (p.r : Int) = p.r := IntWalk.i64_in _ (by omega)
  have e2 : IntKind.i64.wrap (p.v : Int) = p.v := IntWalk.i64_in _ (by omega)
  have e3 : IntKind.i64.wrap (p.f4 : Int) = p.f4 := IntWalk.i64_in _ (by omega)
  have e4 : IntKind.i64.wrap (p.f5 : Int) = p.f5 := IntWalk.i64_in _ (by omega)
  have e5 : IntKind.i64.wrap (p.f9 : Int) = p.f9 := IntWalk.i64_in _ (by omega)
  have q13 : ∀ o, (w.alloc o).cell? ⟨b, 13, none⟩ = some (.bool p.hi) := fun o => old_cell o (h.r.at_ 13 _ rfl)
  clear h
  obtain ⟨hi, hh⟩ : ∃ hi, p.hi = hi := ⟨_, rfl⟩
  have HH : Hid (p.hi = hi) := hh
  rw [hh] at q13
  clear hh
  cases hi
  all_goals
    go_enter Try.func14, Try.ntmps14
    go_wp2_with (fail)
    generalize hw1 : w.alloc _ = w1
    have H1 : Hid (VAt w1 b p ∧ Row w1 w.heap.size [.int .i64 0, .int .i64 0, .int .i64 0, .int .i64 0, .int .i64 0, .int .i64 0, .int .i64 0, .int .i64 0] ∧ Below w.heap.size w w1) := by rw [← hw1]; exact ⟨H.out.alloc _, Row.new w _ _, (Below.refl _ w).alloc (Nat.le_refl _) _⟩
    clear hw1 q13
    have hbX : ¬ b = w.heap.size := by omega
    generalize hX : w.heap.size = X at H1 hb hbX ⊢
    have HX : Hid (w.heap.size = X) := hX
    clear hX
    have hXb : ¬ X = b := fun e => hbX e.symm
    have c0 := H1.out.1.r.at_ 0 _ rfl
    have c1 := H1.out.1.r.at_ 1 _ rfl
    have c2 := H1.out.1.r.at_ 2 _ rfl
    have c12 := H1.out.1.r.at_ 12 _ rfl
    have z0 := H1.out.2.1.at_ 0 _ rfl
    have f0 := H1.out.2.1.fz 0
    have z1 := H1.out.2.1.at_ 1 _ rfl
    have f1 := H1.out.2.1.fz 1
    have z2 := H1.out.2.1.at_ 2 _ rfl
    have f2 := H1.out.2.1.fz 2
    have z3 := H1.out.2.1.at_ 3 _ rfl
    have f3 := H1.out.2.1.fz 3
    have z4 := H1.out.2.1.at_ 4 _ rfl
    have f4 := H1.out.2.1.fz 4
    have z5 := H1.out.2.1.at_ 5 _ rfl
    have f5 := H1.out.2.1.fz 5
    have z6 := H1.out.2.1.at_ 6 _ rfl
    have f6 := H1.out.2.1.fz 6
    have z7 := H1.out.2.1.at_ 7 _ rfl
    have f7 := H1.out.2.1.fz 7
    refine wp_region_then 36 1 (by kernel_rfl) (by kernel_rfl) ?_
    simp only [List.take_succ_cons, List.take_zero, List.drop_succ_cons, List.drop_zero]
    repeat (go_big_quiet_step (first
      | (go_at_call 51; exact Calls.quiet_of_same (Poly16.State b 9 p.f9 _ H1.out.1.p9.c0))
      | (go_at_call_of 50 (Value.pointer (some ⟨b, 3, none⟩)); exact Calls.quiet_of_same (Poly8.State b 3 p.f4 _ H1.out.1.p4.c0))
      | (go_at_call_of 50 (Value.pointer (some ⟨b, 6, none⟩)); exact Calls.quiet_of_same (Poly8.State b 6 p.f5 _ H1.out.1.p5.c0))))
    refine wpQuiet_nil ?_
    rintro _ ⟨nq, rfl⟩
    all_goals
      go_wp2_with (fail)
      generalize hw3 : World.setCell _ _ _ = w3
      have H3 : Hid (Row w3 X p.w ∧ Below w.heap.size w w3) := by
        rw [← hw3, HX.out]
        refine ⟨(((((((((H1.out.2.1.draws nq).put 0 _).put 1 _).put 2 _).put 3 _).put 4 _).put 5 _).put 6 _).put 7 _).to ?_, (((((((((below_drewN (HX.out ▸ H1.out.2.2 : Below X w w1) nq).setCell (p := ⟨X, 0, none⟩) (Nat.le_refl _) _).setCell (p := ⟨X, 1, none⟩) (Nat.le_refl _) _).setCell (p := ⟨X, 2, none⟩) (Nat.le_refl _) _).setCell (p := ⟨X, 3, none⟩) (Nat.le_refl _) _).setCell (p := ⟨X, 4, none⟩) (Nat.le_refl _) _).setCell (p := ⟨X, 5, none⟩) (Nat.le_refl _) _).setCell (p := ⟨X, 6, none⟩) (Nat.le_refl _) _).setCell (p := ⟨X, 7, none⟩) (Nat.le_refl _) _)⟩
        unfold Vo.w
        rw [HH.out]
        rfl
      clear hw3 H1
      have y0 := H3.out.1.at_ 0 _ rfl
      have y1 := H3.out.1.at_ 1 _ rfl
      have y2 := H3.out.1.at_ 2 _ rfl
      have y3 := H3.out.1.at_ 3 _ rfl
      have y4 := H3.out.1.at_ 4 _ rfl
      have y5 := H3.out.1.at_ 5 _ rfl
      have y6 := H3.out.1.at_ 6 _ rfl
      have y7 := H3.out.1.at_ 7 _ rfl
      refine bodyPost_ret (v := .agg p.w.toArray) (by simp [results, Try.f14, go_sem, y0, y1, y2, y3, y4, y5, y6, y7, Vo.w]) rfl ⟨rfl, H3.out.2⟩

end Go.Proofs.Ytdnfclhljahghaa.To
