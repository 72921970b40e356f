/- What In does to a button; what High tells; what the calls do of ports that are not there. -/
import Derived.Test.YtdnfclhljahghaaPot2
namespace Go.Proofs.Ytdnfclhljahghaa.Po
open Go.RowKit
set_option linter.unusedVariables false

set_option maxRecDepth 100000 in
set_option maxHeartbeats 2000000 in
theorem In_4 (b : Nat) (p : Pt) (v : Nat) (w : World) (hv : v < 256) (h : PAt w b p) : Calls Try.prog 28 #[.pointer (some ⟨b, 0, none⟩), .int .i64 4, .int .u8 (v : Int)] w fun e w' => e = .returned (.tuple #[]) ∧ PAt w' b (p.in_ 4 v) ∧ Turn b w w' := by
  have H : Hid (PAt w b p) := h
  obtain ⟨⟨-, -, -, -, -, -⟩, c6, c7, c8, c9, c10⟩ := h.all
  have f7 := h.r.fz 7
  have f8 := h.r.fz 8
  have hb7 := bit7 v hv
  obtain ⟨hx, hh⟩ : ∃ hx, hx = decide (128 ≤ v) := ⟨_, rfl⟩
  rw [← hh] at hb7
  have HH : Hid (hx = decide (128 ≤ v)) := hh
  clear h hh
  go_enter Try.func28, Try.ntmps28
  go_wp2_with (fail)
  generalize hw1 : w.setCell _ _ = w1
  have H1 : Hid (Row w1 b ({ p with h0 := hx } : Pt).cells ∧ Turn b w w1 ∧ b < w1.heap.size) := by
    rw [← hw1]; exact ⟨(H.out.r.put 7 _).to rfl, (Turn.refl _ _).set _ _, by simpa [World.setCell] using H.out.lt⟩
  clear hw1 c6 c7 c8 c9 c10 f7 f8
  have c6 := H1.out.1.at_ 6 _ rfl
  have c7 := H1.out.1.at_ 7 _ rfl
  have c8 := H1.out.1.at_ 8 _ rfl
  have f7 := H1.out.1.fz 7
  have f8 := H1.out.1.fz 8
  go_region_with (go_at_call 62; refine (under hx p.t0 p.l _).mono ?_; rintro e w3 ⟨rfl, hB⟩; have d7 := (hB.cell (p := ⟨b, 7, none⟩) H1.out.2.2).trans c7; have d8 := (hB.cell (p := ⟨b, 8, none⟩) H1.out.2.2).trans c8; have e7 := (hB.frozen (p := ⟨b, 7, none⟩) H1.out.2.2).trans f7; have e8 := (hB.frozen (p := ⟨b, 8, none⟩) H1.out.2.2).trans f8)
  all_goals
    have hB' : Below w1.heap.size w1 w3 := ⟨hB.os, hB.tape, hB.output, hB.size, hB.block⟩
    generalize hw5 : World.setCell (World.setCell _ _ _) _ _ = w5
    have H5 : Hid (PAt w5 b (p.in_ 4 v) ∧ Turn b w w5) := by
      rw [← hw5]
      have r3 := H1.out.1.below (Pt.pos _) hB'
      have e : (p.in_ 4 v).cells = ({ p with h0 := hx, t0 := un p.l hx p.t0 } : Pt).cells := by rw [HH.out]; rfl
      exact ⟨⟨((r3.put 7 _).put 8 _).to (by rw [e]; rfl), H.out.ok.in_ _ _ hv⟩, ((H1.out.2.1.belowR hB').set _ _).set _ _⟩
    clear hw5 hB hB' d7 d8 e7 e8 c7 c8 f7 f8 H1
    (try go_wp2_with (fail))
    go_end0
    exact ⟨rfl, H5.out⟩

set_option maxRecDepth 100000 in
set_option maxHeartbeats 2000000 in
theorem In_5 (b : Nat) (p : Pt) (v : Nat) (w : World) (hv : v < 256) (h : PAt w b p) : Calls Try.prog 28 #[.pointer (some ⟨b, 0, none⟩), .int .i64 5, .int .u8 (v : Int)] w fun e w' => e = .returned (.tuple #[]) ∧ PAt w' b (p.in_ 5 v) ∧ Turn b w w' := by
  have H : Hid (PAt w b p) := h
  obtain ⟨⟨-, -, -, -, -, -⟩, c6, c7, c8, c9, c10⟩ := h.all
  have f7 := h.r.fz 9
  have f8 := h.r.fz 10
  have hb7 := bit7 v hv
  obtain ⟨hx, hh⟩ : ∃ hx, hx = decide (128 ≤ v) := ⟨_, rfl⟩
  rw [← hh] at hb7
  have HH : Hid (hx = decide (128 ≤ v)) := hh
  clear h hh
  go_enter Try.func28, Try.ntmps28
  go_wp2_with (fail)
  generalize hw1 : w.setCell _ _ = w1
  have H1 : Hid (Row w1 b ({ p with h1 := hx } : Pt).cells ∧ Turn b w w1 ∧ b < w1.heap.size) := by
    rw [← hw1]; exact ⟨(H.out.r.put 9 _).to rfl, (Turn.refl _ _).set _ _, by simpa [World.setCell] using H.out.lt⟩
  clear hw1 c6 c7 c8 c9 c10 f7 f8
  have c6 := H1.out.1.at_ 6 _ rfl
  have c7 := H1.out.1.at_ 9 _ rfl
  have c8 := H1.out.1.at_ 10 _ rfl
  have f7 := H1.out.1.fz 9
  have f8 := H1.out.1.fz 10
  go_region_with (go_at_call 62; refine (under hx p.t1 p.l _).mono ?_; rintro e w3 ⟨rfl, hB⟩; have d7 := (hB.cell (p := ⟨b, 9, none⟩) H1.out.2.2).trans c7; have d8 := (hB.cell (p := ⟨b, 10, none⟩) H1.out.2.2).trans c8; have e7 := (hB.frozen (p := ⟨b, 9, none⟩) H1.out.2.2).trans f7; have e8 := (hB.frozen (p := ⟨b, 10, none⟩) H1.out.2.2).trans f8)
  all_goals
    have hB' : Below w1.heap.size w1 w3 := ⟨hB.os, hB.tape, hB.output, hB.size, hB.block⟩
    generalize hw5 : World.setCell (World.setCell _ _ _) _ _ = w5
    have H5 : Hid (PAt w5 b (p.in_ 5 v) ∧ Turn b w w5) := by
      rw [← hw5]
      have r3 := H1.out.1.below (Pt.pos _) hB'
      have e : (p.in_ 5 v).cells = ({ p with h1 := hx, t1 := un p.l hx p.t1 } : Pt).cells := by rw [HH.out]; rfl
      exact ⟨⟨((r3.put 9 _).put 10 _).to (by rw [e]; rfl), H.out.ok.in_ _ _ hv⟩, ((H1.out.2.1.belowR hB').set _ _).set _ _⟩
    clear hw5 hB hB' d7 d8 e7 e8 c7 c8 f7 f8 H1
    (try go_wp2_with (fail))
    go_end0
    exact ⟨rfl, H5.out⟩

/-- In, of any line. -/
theorem In (b : Nat) (p : Pt) (n : Int) (v : Nat) (w : World) (hv : v < 256) (h : PAt w b p) : Calls Try.prog 28 #[.pointer (some ⟨b, 0, none⟩), .int .i64 n, .int .u8 (v : Int)] w fun e w' => e = .returned (.tuple #[]) ∧ PAt w' b (p.in_ n v) ∧ Turn b w w' := by
  by_cases hn : 0 ≤ n ∧ n < 6
  · rcases six hn with rfl | rfl | rfl | rfl | rfl | rfl
    · exact In_paddle b p 0 v w (by decide) hv h
    · exact In_paddle b p 1 v w (by decide) hv h
    · exact In_paddle b p 2 v w (by decide) hv h
    · exact In_paddle b p 3 v w (by decide) hv h
    · exact In_4 b p v w hv h
    · exact In_5 b p v w hv h
  · refine (In_no b n v w hn).mono ?_
    rintro e w' ⟨rfl, rfl⟩
    rw [in_no hn]
    exact ⟨rfl, h, Turn.refl _ _⟩

set_option maxRecDepth 100000 in
set_option maxHeartbeats 1000000 in
theorem High_no (b : Nat) (n : Int) (w : World) (hn : ¬ (0 ≤ n ∧ n < 6)) : Calls Try.prog 39 #[.pointer (some ⟨b, 0, none⟩), .int .i64 n] w fun e w' => e = .returned (.bool false) ∧ w' = w := by
  by_cases h0 : n < 0
  · clear hn
    go_enter Try.func39, Try.ntmps39
    go_wp2
    go_returns
    exact ⟨rfl, rfl⟩
  · have h6 : 6 ≤ n := by omega
    clear hn
    go_enter Try.func39, Try.ntmps39
    go_wp2
    go_returns
    exact ⟨rfl, rfl⟩

set_option maxRecDepth 100000 in
set_option maxHeartbeats 1000000 in
theorem High_pad (b : Nat) (k v c : Nat) (d : Bool) (w : World) (hk : k < 4) (hv : v < 256) (h0 : w.cell? ⟨b, k, none⟩ = some (.int .u8 (v : Int))) (h4 : w.cell? ⟨b, 4, none⟩ = some (.int .i64 (c : Int))) (h5 : w.cell? ⟨b, 5, none⟩ = some (.bool d)) :
    Calls Try.prog 39 #[.pointer (some ⟨b, 0, none⟩), .int .i64 (k : Int)] w fun e w' => e = .returned (.bool (!d && decide (v < c))) ∧ Below w.heap.size w w' := by
  have HV : Hid (decide ((v : Int) < (c : Int)) = decide (v < c)) := (show decide ((v : Int) < (c : Int)) = decide (v < c) by simp)
  have ec : IntKind.i64.wrap (v : Int) = (v : Int) := IntWalk.i64_in _ (by omega)
  rcases (show k = 0 ∨ k = 1 ∨ k = 2 ∨ k = 3 by omega) with rfl | rfl | rfl | rfl
  all_goals
    cases d
    · go_enter Try.func39, Try.ntmps39
      go_wp2_with (fail)
      go_quiet (fail)
      go_wp2
      go_returns
      exact ⟨ret_bool (by simp), below_drewN (Below.refl _ w) _⟩
    · go_enter Try.func39, Try.ntmps39
      go_wp2_with (fail)
      go_quiet (fail)
      go_wp2
      go_returns
      exact ⟨rfl, below_drewN (Below.refl _ w) _⟩

set_option maxRecDepth 100000 in
set_option maxHeartbeats 1000000 in
theorem High_but (b : Nat) (k o : Nat) (hh t l : Bool) (w : World) (hk : k = 4 ∧ o = 7 ∨ k = 5 ∧ o = 9) (h0 : w.cell? ⟨b, o, none⟩ = some (.bool hh)) (h1 : w.cell? ⟨b, o + 1, none⟩ = some (.bool t)) (h6 : w.cell? ⟨b, 6, none⟩ = some (.bool l)) :
    Calls Try.prog 39 #[.pointer (some ⟨b, 0, none⟩), .int .i64 (k : Int)] w fun e w' => e = .returned (.bool (if l = true then t else hh)) ∧ Below w.heap.size w w' := by
  have q6 : ∀ o, (w.alloc o).cell? ⟨b, 6, none⟩ = some (.bool l) := fun o => old_cell o h6
  rcases hk with ⟨rfl, rfl⟩ | ⟨rfl, rfl⟩
  all_goals
    simp only [Nat.reduceAdd] at h1
    cases l
    all_goals
      go_enter Try.func39, Try.ntmps39
      go_wp2
      go_returns
      exact ⟨rfl, by go_grown⟩

/-- High, of any line. -/
theorem High (b : Nat) (p : Pt) (n : Int) (w : World) (h : PAt w b p) : Calls Try.prog 39 #[.pointer (some ⟨b, 0, none⟩), .int .i64 n] w fun e w' => e = .returned (.bool (p.high n)) ∧ Below w.heap.size w w' := by
  obtain ⟨⟨c0, c1, c2, c3, c4, c5⟩, c6, c7, c8, c9, c10⟩ := h.all
  by_cases hn : 0 ≤ n ∧ n < 6
  · rcases six hn with rfl | rfl | rfl | rfl | rfl | rfl
    · exact High_pad b 0 p.v0 p.c p.d w (by decide) h.ok.v0 c0 c4 c5
    · exact High_pad b 1 p.v1 p.c p.d w (by decide) h.ok.v1 c1 c4 c5
    · exact High_pad b 2 p.v2 p.c p.d w (by decide) h.ok.v2 c2 c4 c5
    · exact High_pad b 3 p.v3 p.c p.d w (by decide) h.ok.v3 c3 c4 c5
    · exact High_but b 4 7 p.h0 p.t0 p.l w (by decide) c7 c8 c6
    · exact High_but b 5 9 p.h1 p.t1 p.l w (by decide) c9 c10 c6
  · refine (High_no b n w hn).mono ?_
    rintro e w' ⟨rfl, rfl⟩
    rw [high_no hn]
    exact ⟨rfl, Below.refl _ _⟩

set_option maxHeartbeats 400000 in
theorem In_nil (n v : Int) (w : World) : Calls Try.prog 28 #[.pointer none, .int .i64 n, .int .u8 v] w fun e w' => e = .returned (.tuple #[]) ∧ w' = w := by
  go_enter Try.func28, Try.ntmps28
  go_wp2
  go_end0
  exact ⟨rfl, rfl⟩
set_option maxHeartbeats 400000 in
theorem Line_nil (w : World) : Calls Try.prog 30 #[.pointer none] w fun e w' => e = .returned (.tuple #[]) ∧ w' = w := by
  go_enter Try.func30, Try.ntmps30
  go_wp2
  go_end0
  exact ⟨rfl, rfl⟩
set_option maxHeartbeats 400000 in
theorem Dump_nil (on : Bool) (w : World) : Calls Try.prog 32 #[.pointer none, .bool on] w fun e w' => e = .returned (.tuple #[]) ∧ w' = w := by
  go_enter Try.func32, Try.ntmps32
  go_wp2
  first | (go_end0; exact ⟨rfl, rfl⟩) | (go_returns; exact ⟨rfl, rfl⟩)
set_option maxHeartbeats 400000 in
theorem Latch_nil (on : Bool) (w : World) : Calls Try.prog 34 #[.pointer none, .bool on] w fun e w' => e = .returned (.tuple #[]) ∧ w' = w := by
  go_enter Try.func34, Try.ntmps34
  go_wp2
  first | (go_end0; exact ⟨rfl, rfl⟩) | (go_returns; exact ⟨rfl, rfl⟩)
set_option maxHeartbeats 400000 in
theorem High_nil (n : Int) (w : World) : Calls Try.prog 39 #[.pointer none, .int .i64 n] w fun e w' => e = .returned (.bool false) ∧ w' = w := by
  go_enter Try.func39, Try.ntmps39
  go_wp2
  go_returns
  exact ⟨rfl, rfl⟩
set_option maxHeartbeats 400000 in
theorem Copy_nil (w : World) : Calls Try.prog 44 #[.pointer none] w fun e w' => e = .returned (.pointer none) ∧ w' = w := by
  go_enter Try.func44, Try.ntmps44
  go_wp2
  go_returns
  exact ⟨rfl, rfl⟩

/-- Eleven zeros. -/
def zeros : Go.Value := .agg #[.int .i64 0, .int .i64 0, .int .i64 0, .int .i64 0, .int .i64 0, .int .i64 0, .int .i64 0, .int .i64 0, .int .i64 0, .int .i64 0, .int .i64 0]

set_option maxRecDepth 100000 in
set_option maxHeartbeats 1000000 in
theorem Words_nil (w : World) : Calls Try.prog 41 #[.pointer none] w fun e w' => e = .returned zeros ∧ Below w.heap.size w w' := by
  go_enter Try.func41, Try.ntmps41
  go_wp2
  go_returns
  exact ⟨rfl, by go_grown⟩

set_option maxRecDepth 100000 in
set_option maxHeartbeats 1000000 in
theorem Set_nil (v : Go.Value) (w : World) : Calls Try.prog 36 #[.pointer none, zeros] w fun e w' => e = .returned (.int .i64 1) ∧ Below w.heap.size w w' := by
  unfold zeros
  go_enter Try.func36, Try.ntmps36
  go_wp2
  go_returns
  exact ⟨rfl, by go_grown⟩

end Go.Proofs.Ytdnfclhljahghaa.Po
