/- What Words of package pot tells. -/
import Derived.Test.YtdnfclhljahghaaPot4
import Derived.Deep.RegionHeld
namespace Go.Proofs.Ytdnfclhljahghaa.Po
open Go.RowKit
set_option linter.unusedVariables false

def oi (b : Bool) : Int := if b = true then 1 else 0

set_option maxRecDepth 100000 in
set_option maxHeartbeats 400000 in
theorem oneIf (x : Bool) (w : World) : Calls Try.prog 66 #[.bool x] w fun e w' => e = .returned (.int .i64 (oi x)) ∧ w' = w := by
  cases x
  all_goals
    go_enter Try.func66, Try.ntmps66
    go_wp2
    go_returns
    exact ⟨rfl, rfl⟩

/-- The words. -/
def Pt.w (p : Pt) : List Go.Value := [.int .i64 (p.v0 : Int), .int .i64 (p.v1 : Int), .int .i64 (p.v2 : Int), .int .i64 (p.v3 : Int), .int .i64 (p.c : Int), .int .i64 (oi p.d), .int .i64 (oi p.h0), .int .i64 (oi p.h1), .int .i64 (oi p.l), .int .i64 (oi p.t0), .int .i64 (oi p.t1)]
def zs : List Go.Value := [.int .i64 0, .int .i64 0, .int .i64 0, .int .i64 0, .int .i64 0, .int .i64 0, .int .i64 0, .int .i64 0, .int .i64 0, .int .i64 0, .int .i64 0]

/-- Under way: the ports b, the words' box X, the result's box R. -/
structure Wd (W : World) (b : Nat) (p : Pt) (R X : Nat) (cs : List Go.Value) (w : World) : Prop where
  p : PAt w b p
  x : Row w X cs
  r : Row w R zs
  old : Below W.heap.size W w
  hb : b < W.heap.size
  hr : W.heap.size ≤ R
  rx : R < X
  hx : X < w.heap.size
section
variable {W w w' : World} {b R X : Nat} {p : Pt} {cs : List Go.Value}
theorem Wd.put (h : Wd W b p R X cs w) (i : Nat) (v : Go.Value) : Wd W b p R X (cs.set i v) (w.setCell ⟨X, i, none⟩ v) :=
  ⟨⟨h.p.r.far v (by have := h.hb; have := h.hr; have := h.rx; omega), h.p.ok⟩, h.x.put i v, h.r.far v (by have := h.rx; omega), h.old.setCell (p := ⟨X, i, none⟩) (by have := h.hr; have := h.rx; simp only; omega) _, h.hb, h.hr, h.rx, by simpa [World.setCell] using h.hx⟩
theorem Wd.draws (h : Wd W b p R X cs w) (q : Nat) : Wd W b p R X cs (w.drewN q) := ⟨h.p.draws q, h.x.draws q, h.r.draws q, below_drewN h.old q, h.hb, h.hr, h.rx, h.hx⟩
theorem Wd.alloc (h : Wd W b p R X cs w) (hc : 0 < cs.length) (o : Obj) : Wd W b p R X cs (w.alloc o) := ⟨h.p.alloc o, h.x.alloc hc o, h.r.alloc (by decide) o, h.old.trans (((Below.refl _ w).alloc (Nat.le_refl _) o).mono h.old.size), h.hb, h.hr, h.rx, by simp; have := h.hx; omega⟩
theorem Wd.to {cs' : List Go.Value} (h : Wd W b p R X cs w) (e : cs = cs') : Wd W b p R X cs' w := e ▸ h
end

theorem ix4 (a b c d : Go.Value) (w : World) : ((Instr.index 39 (.agg #[a, b, c, d]) (.int .i64 0)).run Try.prog w = .ok a w ∧ (Instr.index 39 (.agg #[a, b, c, d]) (.int .i64 1)).run Try.prog w = .ok b w) ∧
    ((Instr.index 39 (.agg #[a, b, c, d]) (.int .i64 2)).run Try.prog w = .ok c w ∧ (Instr.index 39 (.agg #[a, b, c, d]) (.int .i64 3)).run Try.prog w = .ok d w) := by
  refine ⟨⟨?_, ?_⟩, ?_, ?_⟩ <;> kernel_rfl

set_option maxRecDepth 100000 in
set_option maxHeartbeats 4000000 in
theorem Words (b : Nat) (p : Pt) (w : World) (h : PAt w b p) : Calls Try.prog 41 #[.pointer (some ⟨b, 0, none⟩)] w fun e w' => e = .returned (.agg p.w.toArray) ∧ Below w.heap.size w w' := by
  have H : Hid (PAt w b p) := h
  obtain ⟨⟨c0, c1, c2, c3, -, -⟩, -⟩ := h.all
  have i0 := fun a b c d w => (ix4 a b c d w).1.1
  have i1 := fun a b c d w => (ix4 a b c d w).1.2
  have i2 := fun a b c d w => (ix4 a b c d w).2.1
  have i3 := fun a b c d w => (ix4 a b c d w).2.2
  have j0 := idx0
  have j1 := idx1
  have q0 : ∀ o o', ((w.alloc o).alloc o').cell? ⟨b, 0, none⟩ = some (.int .u8 (p.v0 : Int)) := fun o o' => old_cell o' (old_cell o c0)
  have q1 : ∀ o o', ((w.alloc o).alloc o').cell? ⟨b, 1, none⟩ = some (.int .u8 (p.v1 : Int)) := fun o o' => old_cell o' (old_cell o c1)
  have q2 : ∀ o o', ((w.alloc o).alloc o').cell? ⟨b, 2, none⟩ = some (.int .u8 (p.v2 : Int)) := fun o o' => old_cell o' (old_cell o c2)
  have q3 : ∀ o o', ((w.alloc o).alloc o').cell? ⟨b, 3, none⟩ = some (.int .u8 (p.v3 : Int)) := fun o o' => old_cell o' (old_cell o c3)
  obtain ⟨a0, a1, a2, a3, a4⟩ := h.ok
  have k0 : IntKind.i64.wrap (p.v0 : Int) = (p.v0 : Int) := IntWalk.i64_in _ (by omega)
  have k1 : IntKind.i64.wrap (p.v1 : Int) = (p.v1 : Int) := IntWalk.i64_in _ (by omega)
  have k2 : IntKind.i64.wrap (p.v2 : Int) = (p.v2 : Int) := IntWalk.i64_in _ (by omega)
  have k3 : IntKind.i64.wrap (p.v3 : Int) = (p.v3 : Int) := IntWalk.i64_in _ (by omega)
  clear h c0 c1 c2 c3
  go_enter Try.func41, Try.ntmps41
  go_wp2_with (fail)
  generalize hw1 : World.alloc (World.alloc _ _) _ = w1
  have H1 : Hid (Wd w b p w.heap.size (w.heap.size + 1) zs w1) := by
    rw [← hw1]
    have e1 : (w.alloc (.cells zs.toArray 55)).heap.size = w.heap.size + 1 := by simp
    exact ⟨(H.out.alloc _).alloc _, e1 ▸ Row.newL _ zs _, (Row.newL w zs _).alloc (by decide) _, ((Below.refl _ w).alloc (Nat.le_refl _) _).alloc (by simp) _, H.out.lt, Nat.le_refl _, by omega, by simp⟩
  clear hw1 q0 q1 q2 q3
  generalize hX : w.heap.size + 1 = X at H1 ⊢
  generalize hR : w.heap.size = R at H1 ⊢
  have HR : Hid (w.heap.size = R) := hR
  clear hX hR
  have x0 := H1.out.x.at_ 0 _ rfl
  have x1 := H1.out.x.at_ 1 _ rfl
  have x2 := H1.out.x.at_ 2 _ rfl
  have x3 := H1.out.x.at_ 3 _ rfl
  have g0 := H1.out.x.fz 0
  have g1 := H1.out.x.fz 1
  have g2 := H1.out.x.fz 2
  have g3 := H1.out.x.fz 3
  refine wp_loop_rounds 6 ?_
  rw [rounds_succ]
  go_wp2_with (fail)
  rw [rounds_succ]
  go_wp2_with (fail)
  rw [rounds_succ]
  go_wp2_with (fail)
  rw [rounds_succ]
  go_wp2_with (fail)
  generalize hw2 : World.setCell _ _ _ = w2
  have H2 : Hid (Wd w b p R X [.int .i64 (p.v0 : Int), .int .i64 (p.v1 : Int), .int .i64 (p.v2 : Int), .int .i64 (p.v3 : Int), .int .i64 0, .int .i64 0, .int .i64 0, .int .i64 0, .int .i64 0, .int .i64 0, .int .i64 0] w2) := by
    rw [← hw2]; exact ((((H1.out.put 0 _).put 1 _).put 2 _).put 3 _).to rfl
  clear hw2 x0 x1 x2 x3 g0 g1 g2 g3 H1
  have c7 := H2.out.p.r.at_ 7 _ rfl
  have c8 := H2.out.p.r.at_ 8 _ rfl
  have c9 := H2.out.p.r.at_ 9 _ rfl
  have c10 := H2.out.p.r.at_ 10 _ rfl
  rw [rounds_succ]
  go_wp2_with (fail)
  clear c7 c8 c9 c10
  refine wp_loop_rounds 4 ?_
  rw [rounds_succ]
  go_wp2_with (fail)
  generalize hw3 : w2.alloc _ = w3
  have H3 : Hid (Wd w b p R X [.int .i64 (p.v0 : Int), .int .i64 (p.v1 : Int), .int .i64 (p.v2 : Int), .int .i64 (p.v3 : Int), .int .i64 0, .int .i64 0, .int .i64 0, .int .i64 0, .int .i64 0, .int .i64 0, .int .i64 0] w3) := by
    rw [← hw3]; exact H2.out.alloc (by simp) _
  have y0 : w3.cell? ⟨w2.heap.size, 0, none⟩ = some (.bool p.h0) := by rw [← hw3]; exact (Row.new w2 _ _).at_ 0 _ rfl
  have y1 : w3.cell? ⟨w2.heap.size, 1, none⟩ = some (.bool p.t0) := by rw [← hw3]; exact (Row.new w2 _ _).at_ 1 _ rfl
  have hxy : X < w2.heap.size := H2.out.hx
  clear hw3
  generalize w2.heap.size = Y at y0 y1 hxy ⊢
  have x6 := H3.out.x.at_ 6 _ rfl
  have x9 := H3.out.x.at_ 9 _ rfl
  have g6 := H3.out.x.fz 6
  have g9 := H3.out.x.fz 9
  clear H2
  have hXY : ¬ X = Y := by omega
  have hYX : ¬ Y = X := fun e => hXY e.symm
  have e9 : IntKind.i64.wrap ((9 : Int) + 0) = 9 := by decide
  have e6 : IntKind.i64.wrap ((6 : Int) + 0) = 6 := by decide
  go_region_held (fun w' => w'.cell? ⟨Y, 0, none⟩ = some (.bool p.h0) ∧ w'.cell? ⟨Y, 1, none⟩ = some (.bool p.t0)) (first | exact ⟨by assumption, by assumption⟩ | go_keep) (first | (go_at_call 66; refine (oneIf _ _).mono ?_; rintro e w5 ⟨rfl, rfl⟩))
  all_goals
    generalize hw4 : World.drew _ = w4
    have H4 : Hid (Wd w b p R X [.int .i64 (p.v0 : Int), .int .i64 (p.v1 : Int), .int .i64 (p.v2 : Int), .int .i64 (p.v3 : Int), .int .i64 0, .int .i64 0, .int .i64 (oi p.h0), .int .i64 0, .int .i64 0, .int .i64 (oi p.t0), .int .i64 0] w4) := by
      rw [← hw4]; exact (((H3.out.put 6 _).put 9 _).draws 1).to rfl
    clear hw4 H3 y0 y1 x6 x9 g6 g9 hXY hYX hxy e6 e9
    go_wp2_with (fail)
    rw [rounds_succ]
    go_wp2_with (fail)
    generalize hw3 : w4.alloc _ = w5
    have H5 : Hid (Wd w b p R X [.int .i64 (p.v0 : Int), .int .i64 (p.v1 : Int), .int .i64 (p.v2 : Int), .int .i64 (p.v3 : Int), .int .i64 0, .int .i64 0, .int .i64 (oi p.h0), .int .i64 0, .int .i64 0, .int .i64 (oi p.t0), .int .i64 0] w5) := by
      rw [← hw3]; exact H4.out.alloc (by simp) _
    have y0 : w5.cell? ⟨w4.heap.size, 0, none⟩ = some (.bool p.h1) := by rw [← hw3]; exact (Row.new w4 _ _).at_ 0 _ rfl
    have y1 : w5.cell? ⟨w4.heap.size, 1, none⟩ = some (.bool p.t1) := by rw [← hw3]; exact (Row.new w4 _ _).at_ 1 _ rfl
    have hxy : X < w4.heap.size := H4.out.hx
    clear hw3
    generalize w4.heap.size = Z at y0 y1 hxy ⊢
    have x7 := H5.out.x.at_ 7 _ rfl
    have x10 := H5.out.x.at_ 10 _ rfl
    have g7 := H5.out.x.fz 7
    have g10 := H5.out.x.fz 10
    clear H4
    have hXY : ¬ X = Z := by omega
    have hYX : ¬ Z = X := fun e => hXY e.symm
    go_region_held (fun w' => w'.cell? ⟨Z, 0, none⟩ = some (.bool p.h1) ∧ w'.cell? ⟨Z, 1, none⟩ = some (.bool p.t1)) (first | exact ⟨by assumption, by assumption⟩ | go_keep) (first | (go_at_call 66; refine (oneIf _ _).mono ?_; rintro e w6 ⟨rfl, rfl⟩))
  all_goals
    generalize hw4 : World.drew _ = w4
    have H4 : Hid (Wd w b p R X [.int .i64 (p.v0 : Int), .int .i64 (p.v1 : Int), .int .i64 (p.v2 : Int), .int .i64 (p.v3 : Int), .int .i64 0, .int .i64 0, .int .i64 (oi p.h0), .int .i64 (oi p.h1), .int .i64 0, .int .i64 (oi p.t0), .int .i64 (oi p.t1)] w4) := by
      rw [← hw4]; exact (((H5.out.put 7 _).put 10 _).draws 1).to rfl
    clear hw4 H5 y0 y1 x7 x10 g7 g10 hXY hYX hxy
    go_wp2_with (fail)
    rw [rounds_succ]
    go_wp2_with (fail)
    have c4 := H4.out.p.r.at_ 4 _ rfl
    have c5 := H4.out.p.r.at_ 5 _ rfl
    have c6 := H4.out.p.r.at_ 6 _ rfl
    have x4 := H4.out.x.at_ 4 _ rfl
    have x5 := H4.out.x.at_ 5 _ rfl
    have x8 := H4.out.x.at_ 8 _ rfl
    have g4 := H4.out.x.fz 4
    have g5 := H4.out.x.fz 5
    have g8 := H4.out.x.fz 8
    have hbx : ¬ b = X := by have := H4.out.hb; have := H4.out.hr; have := H4.out.rx; omega
    have hxb : ¬ X = b := fun e => hbx e.symm
    go_region_held (fun w' => w'.cell? ⟨b, 4, none⟩ = some (.int .i64 (p.c : Int)) ∧ w'.cell? ⟨b, 5, none⟩ = some (.bool p.d) ∧ w'.cell? ⟨b, 6, none⟩ = some (.bool p.l)) (first | exact ⟨by assumption, by assumption, by assumption⟩ | go_keep) (first | (go_at_call 66; refine (oneIf _ _).mono ?_; rintro e w6 ⟨rfl, rfl⟩))
  all_goals
    generalize hw8 : World.drew _ = w8
    have H8 : Hid (Wd w b p R X p.w w8) := by
      rw [← hw8]; exact ((((H4.out.put 4 _).put 5 _).put 8 _).draws 1).to rfl
    clear hw8 H4 c4 c5 c6 x4 x5 x8 g4 g5 g8 hbx hxb
    have x0 := H8.out.x.at_ 0 _ rfl
    have r0 := H8.out.r.at_ 0 _ rfl
    have g0 := H8.out.r.fz 0
    have x1 := H8.out.x.at_ 1 _ rfl
    have r1 := H8.out.r.at_ 1 _ rfl
    have g1 := H8.out.r.fz 1
    have x2 := H8.out.x.at_ 2 _ rfl
    have r2 := H8.out.r.at_ 2 _ rfl
    have g2 := H8.out.r.fz 2
    have x3 := H8.out.x.at_ 3 _ rfl
    have r3 := H8.out.r.at_ 3 _ rfl
    have g3 := H8.out.r.fz 3
    have x4 := H8.out.x.at_ 4 _ rfl
    have r4 := H8.out.r.at_ 4 _ rfl
    have g4 := H8.out.r.fz 4
    have x5 := H8.out.x.at_ 5 _ rfl
    have r5 := H8.out.r.at_ 5 _ rfl
    have g5 := H8.out.r.fz 5
    have x6 := H8.out.x.at_ 6 _ rfl
    have r6 := H8.out.r.at_ 6 _ rfl
    have g6 := H8.out.r.fz 6
    have x7 := H8.out.x.at_ 7 _ rfl
    have r7 := H8.out.r.at_ 7 _ rfl
    have g7 := H8.out.r.fz 7
    have x8 := H8.out.x.at_ 8 _ rfl
    have r8 := H8.out.r.at_ 8 _ rfl
    have g8 := H8.out.r.fz 8
    have x9 := H8.out.x.at_ 9 _ rfl
    have r9 := H8.out.r.at_ 9 _ rfl
    have g9 := H8.out.r.fz 9
    have x10 := H8.out.x.at_ 10 _ rfl
    have r10 := H8.out.r.at_ 10 _ rfl
    have g10 := H8.out.r.fz 10
    go_wp2_with (fail)
    generalize hw9 : World.setCell _ _ _ = w9
    have H9 : Hid (Row w9 R p.w ∧ Below w.heap.size w w9) := by
      rw [← hw9]
      exact ⟨(((((((((((H8.out.r.put 0 _).put 1 _).put 2 _).put 3 _).put 4 _).put 5 _).put 6 _).put 7 _).put 8 _).put 9 _).put 10 _).to rfl, (((((((((((H8.out.old.setCell (p := ⟨R, 0, none⟩) H8.out.hr _).setCell (p := ⟨R, 1, none⟩) H8.out.hr _).setCell (p := ⟨R, 2, none⟩) H8.out.hr _).setCell (p := ⟨R, 3, none⟩) H8.out.hr _).setCell (p := ⟨R, 4, none⟩) H8.out.hr _).setCell (p := ⟨R, 5, none⟩) H8.out.hr _).setCell (p := ⟨R, 6, none⟩) H8.out.hr _).setCell (p := ⟨R, 7, none⟩) H8.out.hr _).setCell (p := ⟨R, 8, none⟩) H8.out.hr _).setCell (p := ⟨R, 9, none⟩) H8.out.hr _).setCell (p := ⟨R, 10, none⟩) H8.out.hr _)⟩
    clear hw9 H8 x0 r0 g0 x1 r1 g1 x2 r2 g2 x3 r3 g3 x4 r4 g4 x5 r5 g5 x6 r6 g6 x7 r7 g7 x8 r8 g8 x9 r9 g9 x10 r10 g10
    have x0 := H9.out.1.at_ 0 _ rfl
    have x1 := H9.out.1.at_ 1 _ rfl
    have x2 := H9.out.1.at_ 2 _ rfl
    have x3 := H9.out.1.at_ 3 _ rfl
    have x4 := H9.out.1.at_ 4 _ rfl
    have x5 := H9.out.1.at_ 5 _ rfl
    have x6 := H9.out.1.at_ 6 _ rfl
    have x7 := H9.out.1.at_ 7 _ rfl
    have x8 := H9.out.1.at_ 8 _ rfl
    have x9 := H9.out.1.at_ 9 _ rfl
    have x10 := H9.out.1.at_ 10 _ rfl
    refine bodyPost_ret (v := .agg p.w.toArray) (by simp [results, Try.f41, go_sem, x0, x1, x2, x3, x4, x5, x6, x7, x8, x9, x10, Pt.w]) rfl ⟨rfl, H9.out.2⟩

end Go.Proofs.Ytdnfclhljahghaa.Po
