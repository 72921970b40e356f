/- What Latch, In and High of package pot do. -/
import Derived.Test.YtdnfclhljahghaaPot1
namespace Go.Proofs.Ytdnfclhljahghaa.Po
open Go.RowKit
set_option linter.unusedVariables false

theorem idx0 (a b c d : Go.Value) (w : World) : (Instr.index 95 (.agg #[a, b, c, d]) (.int .i64 0)).run Try.prog w = .ok (.agg #[a, b]) w := by kernel_rfl
theorem idx1 (a b c d : Go.Value) (w : World) : (Instr.index 95 (.agg #[a, b, c, d]) (.int .i64 1)).run Try.prog w = .ok (.agg #[c, d]) w := by kernel_rfl

set_option maxRecDepth 100000 in
set_option maxHeartbeats 2000000 in
theorem Latch (b : Nat) (p : Pt) (on : Bool) (w : World) (h : PAt w b p) : Calls Try.prog 34 #[.pointer (some ⟨b, 0, none⟩), .bool on] w fun e w' => e = .returned (.tuple #[]) ∧ PAt w' b (p.latch on) ∧ Turn b w w' := by
  have H : Hid (PAt w b p) := h
  obtain ⟨⟨-, -, -, -, -, -⟩, c6, c7, c8, c9, c10⟩ := h.all
  have f6 := h.r.fz 6
  have f7 := h.r.fz 7
  have f8 := h.r.fz 8
  have f9 := h.r.fz 9
  have f10 := h.r.fz 10
  have i0 := idx0
  have i1 := idx1
  clear h
  go_enter Try.func34, Try.ntmps34
  go_wp2_with (fail)
  generalize hw1 : w.setCell _ _ = w1
  have H1 : Hid (Row w1 b ({ p with l := on } : Pt).cells ∧ Turn b w w1 ∧ b < w1.heap.size) := by
    rw [← hw1]; exact ⟨(H.out.r.put 6 _).to rfl, (Turn.refl _ _).set _ _, by simpa [World.setCell] using H.out.lt⟩
  clear hw1 c6 c7 c8 c9 c10 f6 f7 f8 f9 f10
  refine wp_loop_rounds 4 ?_
  rw [rounds_succ]
  go_wp2_with (fail)
  generalize hw2 : w1.alloc _ = w2
  have H2 : Hid (Row w2 b ({ p with l := on } : Pt).cells ∧ Turn b w w2 ∧ b < w1.heap.size ∧ b < w2.heap.size) := by
    rw [← hw2]; exact ⟨H1.out.1.alloc (Pt.pos _) _, H1.out.2.1.alloc _, H1.out.2.2, by simp; have := H1.out.2.2; omega⟩
  have x0 : w2.cell? ⟨w1.heap.size, 0, none⟩ = some (.bool p.h0) := by rw [← hw2]; exact (Row.new w1 _ _).at_ 0 _ rfl
  have x1 : w2.cell? ⟨w1.heap.size, 1, none⟩ = some (.bool p.t0) := by rw [← hw2]; exact (Row.new w1 _ _).at_ 1 _ rfl
  have c7 := H2.out.1.at_ 7 _ rfl
  have c8 := H2.out.1.at_ 8 _ rfl
  have f7 := H2.out.1.fz 7
  have f8 := H2.out.1.fz 8
  clear hw2
  go_region_with (go_at_call 62; refine (under p.h0 p.t0 on _).mono ?_; rintro e w3 ⟨rfl, hB⟩; have d7 := (hB.cell (p := ⟨b, 7, none⟩) H2.out.2.2.2).trans c7; have d8 := (hB.cell (p := ⟨b, 8, none⟩) H2.out.2.2.2).trans c8; have e7 := (hB.frozen (p := ⟨b, 7, none⟩) H2.out.2.2.2).trans f7; have e8 := (hB.frozen (p := ⟨b, 8, none⟩) H2.out.2.2.2).trans f8)
  have hB' : Below w2.heap.size w2 w3 := ⟨hB.os, hB.tape, hB.output, hB.size, hB.block⟩
  generalize hw4 : World.setCell (World.setCell _ _ _) _ _ = w4
  have H4 : Hid (Row w4 b ({ p with l := on, t0 := un on p.h0 p.t0 } : Pt).cells ∧ Turn b w w4 ∧ b < w4.heap.size) := by
    rw [← hw4]
    have r3 := H2.out.1.below (Pt.pos _) hB'
    exact ⟨((r3.put 7 _).put 8 _).to rfl, ((H2.out.2.1.belowR hB').set _ _).set _ _, by simp [World.setCell]; have := hB'.size; have := H2.out.2.2.2; omega⟩
  clear hw4 hB hB' d7 d8 e7 e8 c7 c8 f7 f8 x0 x1 H1 H2
  go_wp2_with (fail)
  rw [rounds_succ]
  go_wp2_with (fail)
  generalize hw2 : w4.alloc _ = w2
  have H2 : Hid (Row w2 b ({ p with l := on, t0 := un on p.h0 p.t0 } : Pt).cells ∧ Turn b w w2 ∧ b < w4.heap.size ∧ b < w2.heap.size) := by
    rw [← hw2]; exact ⟨H4.out.1.alloc (Pt.pos _) _, H4.out.2.1.alloc _, H4.out.2.2, by simp; have := H4.out.2.2; omega⟩
  have x0 : w2.cell? ⟨w4.heap.size, 0, none⟩ = some (.bool p.h1) := by rw [← hw2]; exact (Row.new w4 _ _).at_ 0 _ rfl
  have x1 : w2.cell? ⟨w4.heap.size, 1, none⟩ = some (.bool p.t1) := by rw [← hw2]; exact (Row.new w4 _ _).at_ 1 _ rfl
  have c7 := H2.out.1.at_ 9 _ rfl
  have c8 := H2.out.1.at_ 10 _ rfl
  have f7 := H2.out.1.fz 9
  have f8 := H2.out.1.fz 10
  clear hw2
  go_region_with (go_at_call 62; refine (under p.h1 p.t1 on _).mono ?_; rintro e w3 ⟨rfl, hB⟩; have d7 := (hB.cell (p := ⟨b, 9, none⟩) H2.out.2.2.2).trans c7; have d8 := (hB.cell (p := ⟨b, 10, none⟩) H2.out.2.2.2).trans c8; have e7 := (hB.frozen (p := ⟨b, 9, none⟩) H2.out.2.2.2).trans f7; have e8 := (hB.frozen (p := ⟨b, 10, none⟩) H2.out.2.2.2).trans f8)
  have hB' : Below w2.heap.size w2 w3 := ⟨hB.os, hB.tape, hB.output, hB.size, hB.block⟩
  generalize hw5 : World.setCell (World.setCell _ _ _) _ _ = w5
  have H5 : Hid (PAt w5 b (p.latch on) ∧ Turn b w w5) := by
    rw [← hw5]
    have r3 := H2.out.1.below (Pt.pos _) hB'
    exact ⟨⟨((r3.put 9 _).put 10 _).to rfl, H.out.ok.latch on⟩, ((H2.out.2.1.belowR hB').set _ _).set _ _⟩
  clear hw5 hB hB' d7 d8 e7 e8 c7 c8 f7 f8 x0 x1 H4 H2
  go_wp2_with (fail)
  rw [rounds_succ]
  go_wp2_with (fail)
  go_end0
  exact ⟨rfl, H5.out⟩

set_option maxRecDepth 100000 in
set_option maxHeartbeats 1000000 in
theorem In_no (b : Nat) (n : Int) (v : Nat) (w : World) (hn : ¬ (0 ≤ n ∧ n < 6)) : Calls Try.prog 28 #[.pointer (some ⟨b, 0, none⟩), .int .i64 n, .int .u8 (v : Int)] w fun e w' => e = .returned (.tuple #[]) ∧ w' = w := by
  by_cases h0 : n < 0
  · clear hn
    go_enter Try.func28, Try.ntmps28
    go_wp2
    go_end0
    exact ⟨rfl, rfl⟩
  · have h6 : 6 ≤ n := by omega
    clear hn
    go_enter Try.func28, Try.ntmps28
    go_wp2
    go_end0
    exact ⟨rfl, rfl⟩

set_option maxRecDepth 100000 in
set_option maxHeartbeats 1000000 in
theorem In_paddle (b : Nat) (p : Pt) (k v : Nat) (w : World) (hk : k < 4) (hv : v < 256) (h : PAt w b p) : Calls Try.prog 28 #[.pointer (some ⟨b, 0, none⟩), .int .i64 (k : Int), .int .u8 (v : Int)] w fun e w' => e = .returned (.tuple #[]) ∧ PAt w' b (p.in_ k v) ∧ Turn b w w' := by
  have H : Hid (PAt w b p) := h
  obtain ⟨⟨c0, c1, c2, c3, -, -⟩, -⟩ := h.all
  have f0 := h.r.fz 0
  have f1 := h.r.fz 1
  have f2 := h.r.fz 2
  have f3 := h.r.fz 3
  clear h
  rcases (show k = 0 ∨ k = 1 ∨ k = 2 ∨ k = 3 by omega) with rfl | rfl | rfl | rfl
  all_goals
    go_enter Try.func28, Try.ntmps28
    go_wp2
    go_end0
    refine ⟨rfl, ⟨?_, H.out.ok.in_ _ _ hv⟩, (Turn.refl _ _).set _ _⟩
  · exact (H.out.r.put 0 _).to rfl
  · exact (H.out.r.put 1 _).to rfl
  · exact (H.out.r.put 2 _).to rfl
  · exact (H.out.r.put 3 _).to rfl

end Go.Proofs.Ytdnfclhljahghaa.Po
