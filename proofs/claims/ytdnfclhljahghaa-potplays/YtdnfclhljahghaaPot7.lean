/- Ports made of words. -/
import Derived.Test.YtdnfclhljahghaaPot5
import Derived.Test.YtdnfclhljahghaaPot6
import Derived.Deep.RegionHeld
namespace Go.Proofs.Ytdnfclhljahghaa.Po
open Go.RowKit
set_option linter.unusedVariables false

theorem oi_eq (b : Bool) : (oi b == 1) = b := by cases b <;> rfl

/-- Under way: the words' box B, the result's box R, the ports' box X. -/
structure Fo (W : World) (B : Nat) (p : Pt) (R X : Nat) (q : Pt) (w : World) : Prop where
  a : Row w B p.w
  r : Row w R (⟨0, 0, 0, 0, 0, false, false, false, false, false, false⟩ : Pt).cells
  x : Row w X q.cells
  old : Below W.heap.size W w
  hb : W.heap.size ≤ B
  hr : W.heap.size ≤ R
  hx : W.heap.size ≤ X
  br : B ≠ R
  bx : B ≠ X
  rx : R ≠ X
section
variable {W w w' : World} {B R X : Nat} {p q : Pt}
theorem Fo.put (h : Fo W B p R X q w) (i : Nat) (v : Go.Value) {q' : Pt} (e : q.cells.set i v = q'.cells) : Fo W B p R X q' (w.setCell ⟨X, i, none⟩ v) :=
  ⟨h.a.far v h.bx, h.r.far v h.rx, (h.x.put i v).to e, h.old.setCell (p := ⟨X, i, none⟩) h.hx _, h.hb, h.hr, h.hx, h.br, h.bx, h.rx⟩
theorem Fo.new (w : World) (p q : Pt) (s t u : TypeId) : Fo w w.heap.size p (w.heap.size + 1) (w.heap.size + 1 + 1) q (((w.alloc (.cells p.w.toArray s)).alloc (.cells (⟨0, 0, 0, 0, 0, false, false, false, false, false, false⟩ : Pt).cells.toArray t)).alloc (.cells q.cells.toArray u)) := by
  obtain ⟨r1, r2, r3, hB⟩ := rows3 w p.w.toArray (⟨0, 0, 0, 0, 0, false, false, false, false, false, false⟩ : Pt).cells.toArray q.cells.toArray s t u (by simp [Pt.w]) (by simp [Pt.cells])
  exact ⟨r1, r2, r3, hB, Nat.le_refl _, by omega, by omega, by omega, by omega, by omega⟩
theorem Fo.draws (h : Fo W B p R X q w) (n : Nat) : Fo W B p R X q (w.drewN n) := ⟨h.a.draws n, h.r.draws n, h.x.draws n, below_drewN h.old n, h.hb, h.hr, h.hx, h.br, h.bx, h.rx⟩
end

set_option maxRecDepth 100000 in
set_option maxHeartbeats 4000000 in
theorem of (p : Pt) (hp : p.ok) (w : World) : Calls Try.prog 64 #[.agg #[.int .i64 (p.v0 : Int), .int .i64 (p.v1 : Int), .int .i64 (p.v2 : Int), .int .i64 (p.v3 : Int), .int .i64 (p.c : Int), .int .i64 (oi p.d), .int .i64 (oi p.h0), .int .i64 (oi p.h1), .int .i64 (oi p.l), .int .i64 (oi p.t0), .int .i64 (oi p.t1)]] w fun e w' => e = .returned (.agg #[.int .u8 (p.v0 : Int), .int .u8 (p.v1 : Int), .int .u8 (p.v2 : Int), .int .u8 (p.v3 : Int), .int .i64 (p.c : Int), .bool p.d, .bool p.l, .bool p.h0, .bool p.t0, .bool p.h1, .bool p.t1]) ∧ Below w.heap.size w w' := by
  have HP : Hid p.ok := hp
  obtain ⟨a0, a1, a2, a3, a4⟩ := hp
  have ed := oi_eq p.d
  have eh0 := oi_eq p.h0
  have eh1 := oi_eq p.h1
  have el := oi_eq p.l
  have et0 := oi_eq p.t0
  have et1 := oi_eq p.t1
  go_enter Try.func64, Try.ntmps64
  go_wp2_with (fail)
  generalize hw1 : World.alloc (World.alloc (World.alloc _ _) _) _ = w1
  have H1 : Hid (Fo w w.heap.size p (w.heap.size + 1) (w.heap.size + 1 + 1) ⟨0, 0, 0, 0, p.c, p.d, p.l, false, false, false, false⟩ w1) := by
    rw [← hw1]
    exact Fo.new w p ⟨0, 0, 0, 0, p.c, p.d, p.l, false, false, false, false⟩ _ _ _
  clear hw1
  generalize hX : w.heap.size + 1 + 1 = X at H1 ⊢
  generalize hR : w.heap.size + 1 = R at H1 ⊢
  generalize hB : w.heap.size = B at H1 ⊢
  have HB : Hid (w.heap.size = B) := hB
  clear hX hR hB
  have b0 := H1.out.a.at_ 0 _ rfl
  have x0 := H1.out.x.at_ 0 _ rfl
  have g0 := H1.out.x.fz 0
  have b1 := H1.out.a.at_ 1 _ rfl
  have x1 := H1.out.x.at_ 1 _ rfl
  have g1 := H1.out.x.fz 1
  have b2 := H1.out.a.at_ 2 _ rfl
  have x2 := H1.out.x.at_ 2 _ rfl
  have g2 := H1.out.x.fz 2
  have b3 := H1.out.a.at_ 3 _ rfl
  have x3 := H1.out.x.at_ 3 _ rfl
  have g3 := H1.out.x.fz 3
  have m0 : (p.v0 : Int) % 256 = p.v0 := by omega
  have m1 : (p.v1 : Int) % 256 = p.v1 := by omega
  have m2 : (p.v2 : Int) % 256 = p.v2 := by omega
  have m3 : (p.v3 : Int) % 256 = p.v3 := by omega
  refine wp_loop_rounds 6 ?_
  rw [rounds_succ]
  go_wp2_with (fail)
  rw [rounds_succ]
  go_wp2_with (fail)
  rw [rounds_succ]
  go_wp2_with (fail)
  rw [rounds_succ]
  go_wp2_with (fail)
  rw [rounds_succ]
  go_wp2_with (fail)
  generalize hw2 : World.setCell _ _ _ = w2
  have H2 : Hid (Fo w B p R X ⟨p.v0, p.v1, p.v2, p.v3, p.c, p.d, p.l, false, false, false, false⟩ w2) := by
    rw [← hw2]; exact (((H1.out.put 0 (.int .u8 (p.v0 : Int)) (q' := ⟨p.v0, 0, 0, 0, p.c, p.d, p.l, false, false, false, false⟩) rfl).put 1 (.int .u8 (p.v1 : Int)) (q' := ⟨p.v0, p.v1, 0, 0, p.c, p.d, p.l, false, false, false, false⟩) rfl).put 2 (.int .u8 (p.v2 : Int)) (q' := ⟨p.v0, p.v1, p.v2, 0, p.c, p.d, p.l, false, false, false, false⟩) rfl).put 3 (.int .u8 (p.v3 : Int)) rfl
  clear hw2 H1 b0 b1 b2 b3 x0 x1 x2 x3 g0 g1 g2 g3 m0 m1 m2 m3
  have b6 := H2.out.a.at_ 6 _ rfl
  have b7 := H2.out.a.at_ 7 _ rfl
  have b9 := H2.out.a.at_ 9 _ rfl
  have b10 := H2.out.a.at_ 10 _ rfl
  have x7 := H2.out.x.at_ 7 _ rfl
  have x8 := H2.out.x.at_ 8 _ rfl
  have x9 := H2.out.x.at_ 9 _ rfl
  have x10 := H2.out.x.at_ 10 _ rfl
  have g7 := H2.out.x.fz 7
  have g8 := H2.out.x.fz 8
  have g9 := H2.out.x.fz 9
  have g10 := H2.out.x.fz 10
  refine wp_loop_rounds 4 ?_
  rw [rounds_succ]
  go_wp2_with (fail)
  have hBX : ¬ B = X := H2.out.bx
  have hXB : ¬ X = B := fun e => hBX e.symm
  go_region_held (fun w' => w'.cell? ⟨B, 6, none⟩ = some (.int .i64 (oi p.h0)) ∧ w'.cell? ⟨B, 9, none⟩ = some (.int .i64 (oi p.t0))) (first | exact ⟨by assumption, by assumption⟩ | go_keep) (fail)
  all_goals
    go_wp2_with (fail)
    generalize hw2 : World.drew _ = w3
    have H3 : Hid (Fo w B p R X ⟨p.v0, p.v1, p.v2, p.v3, p.c, p.d, p.l, p.h0, p.t0, false, false⟩ w3) := by
      rw [← hw2]; exact ((H2.out.put 7 (.bool p.h0) (q' := ⟨p.v0, p.v1, p.v2, p.v3, p.c, p.d, p.l, p.h0, false, false, false⟩) rfl).put 8 (.bool p.t0) rfl).draws 1
    clear hw2 H2 b6 b7 b9 b10 x7 x8 x9 x10 g7 g8 g9 g10
    have b7 := H3.out.a.at_ 7 _ rfl
    have b10 := H3.out.a.at_ 10 _ rfl
    have x9 := H3.out.x.at_ 9 _ rfl
    have x10 := H3.out.x.at_ 10 _ rfl
    have g9 := H3.out.x.fz 9
    have g10 := H3.out.x.fz 10
    rw [rounds_succ]
    go_wp2_with (fail)
    go_region_held (fun w' => w'.cell? ⟨B, 7, none⟩ = some (.int .i64 (oi p.h1)) ∧ w'.cell? ⟨B, 10, none⟩ = some (.int .i64 (oi p.t1))) (first | exact ⟨by assumption, by assumption⟩ | go_keep) (fail)
  all_goals
    go_wp2_with (fail)
    generalize hw2 : World.drew _ = w4
    have H4 : Hid (Fo w B p R X p w4) := by
      rw [← hw2]; exact ((H3.out.put 9 (.bool p.h1) (q' := ⟨p.v0, p.v1, p.v2, p.v3, p.c, p.d, p.l, p.h0, p.t0, p.h1, false⟩) rfl).put 10 (.bool p.t1) rfl).draws 1
    clear hw2 H3 b7 b10 x9 x10 g9 g10
    have x0 := H4.out.x.at_ 0 _ rfl
    have r0 := H4.out.r.at_ 0 _ rfl
    have g0 := H4.out.r.fz 0
    have x1 := H4.out.x.at_ 1 _ rfl
    have r1 := H4.out.r.at_ 1 _ rfl
    have g1 := H4.out.r.fz 1
    have x2 := H4.out.x.at_ 2 _ rfl
    have r2 := H4.out.r.at_ 2 _ rfl
    have g2 := H4.out.r.fz 2
    have x3 := H4.out.x.at_ 3 _ rfl
    have r3 := H4.out.r.at_ 3 _ rfl
    have g3 := H4.out.r.fz 3
    have x4 := H4.out.x.at_ 4 _ rfl
    have r4 := H4.out.r.at_ 4 _ rfl
    have g4 := H4.out.r.fz 4
    have x5 := H4.out.x.at_ 5 _ rfl
    have r5 := H4.out.r.at_ 5 _ rfl
    have g5 := H4.out.r.fz 5
    have x6 := H4.out.x.at_ 6 _ rfl
    have r6 := H4.out.r.at_ 6 _ rfl
    have g6 := H4.out.r.fz 6
    have x7 := H4.out.x.at_ 7 _ rfl
    have r7 := H4.out.r.at_ 7 _ rfl
    have g7 := H4.out.r.fz 7
    have x8 := H4.out.x.at_ 8 _ rfl
    have r8 := H4.out.r.at_ 8 _ rfl
    have g8 := H4.out.r.fz 8
    have x9 := H4.out.x.at_ 9 _ rfl
    have r9 := H4.out.r.at_ 9 _ rfl
    have g9 := H4.out.r.fz 9
    have x10 := H4.out.x.at_ 10 _ rfl
    have r10 := H4.out.r.at_ 10 _ rfl
    have g10 := H4.out.r.fz 10
    rw [rounds_succ]
    go_wp2_with (fail)
    generalize hw9 : World.setCell _ _ _ = w9
    have H9 : Hid (Row w9 R p.cells ∧ Below w.heap.size w w9) := by
      rw [← hw9]
      exact ⟨(((((((((((H4.out.r.put 0 _).put 1 _).put 2 _).put 3 _).put 4 _).put 5 _).put 6 _).put 7 _).put 8 _).put 9 _).put 10 _).to rfl, (((((((((((H4.out.old.setCell (p := ⟨R, 0, none⟩) H4.out.hr _).setCell (p := ⟨R, 1, none⟩) H4.out.hr _).setCell (p := ⟨R, 2, none⟩) H4.out.hr _).setCell (p := ⟨R, 3, none⟩) H4.out.hr _).setCell (p := ⟨R, 4, none⟩) H4.out.hr _).setCell (p := ⟨R, 5, none⟩) H4.out.hr _).setCell (p := ⟨R, 6, none⟩) H4.out.hr _).setCell (p := ⟨R, 7, none⟩) H4.out.hr _).setCell (p := ⟨R, 8, none⟩) H4.out.hr _).setCell (p := ⟨R, 9, none⟩) H4.out.hr _).setCell (p := ⟨R, 10, none⟩) H4.out.hr _)⟩
    clear hw9 H4 x0 r0 g0 x1 r1 g1 x2 r2 g2 x3 r3 g3 x4 r4 g4 x5 r5 g5 x6 r6 g6 x7 r7 g7 x8 r8 g8 x9 r9 g9 x10 r10 g10
    have x0 := H9.out.1.at_ 0 _ rfl
    have x1 := H9.out.1.at_ 1 _ rfl
    have x2 := H9.out.1.at_ 2 _ rfl
    have x3 := H9.out.1.at_ 3 _ rfl
    have x4 := H9.out.1.at_ 4 _ rfl
    have x5 := H9.out.1.at_ 5 _ rfl
    have x6 := H9.out.1.at_ 6 _ rfl
    have x7 := H9.out.1.at_ 7 _ rfl
    have x8 := H9.out.1.at_ 8 _ rfl
    have x9 := H9.out.1.at_ 9 _ rfl
    have x10 := H9.out.1.at_ 10 _ rfl
    refine bodyPost_ret (v := .agg #[.int .u8 (p.v0 : Int), .int .u8 (p.v1 : Int), .int .u8 (p.v2 : Int), .int .u8 (p.v3 : Int), .int .i64 (p.c : Int), .bool p.d, .bool p.l, .bool p.h0, .bool p.t0, .bool p.h1, .bool p.t1]) (by simp [results, Try.f64, go_sem, x0, x1, x2, x3, x4, x5, x6, x7, x8, x9, x10]) rfl ⟨rfl, H9.out.2⟩

theorem eqB (h t u : Bool) (w : World) : (Op.equalIn 10000 94 (.agg #[.bool h, .bool t]) (.agg #[.bool h, .bool u])).run Try.prog w = .ok (t == u) w := by
  cases h <;> cases t <;> cases u <;> kernel_rfl

/-- Can ports have all of this together? -/
def Pt.can (p : Pt) : Bool := !(p.d && (p.c != 0)) && ((p.t0 == un p.l p.h0 p.t0) && (p.t1 == un p.l p.h1 p.t1))

end Go.Proofs.Ytdnfclhljahghaa.Po
