/- What the small calls of package pot do: one contract a function. -/
import Derived.Test.YtdnfclhljahghaaPotM
namespace Go.Proofs.Ytdnfclhljahghaa.Po
open Go.RowKit
set_option linter.unusedVariables false

set_option maxRecDepth 100000 in
set_option maxHeartbeats 1000000 in
theorem under (h t on : Bool) (w : World) : Calls Try.prog 62 #[.agg #[.bool h, .bool t], .bool on] w fun e w' => e = .returned (.agg #[.bool h, .bool (un on h t)]) ∧ Below w.heap.size w w' := by
  cases on <;> cases t <;> cases h
  all_goals
    go_enter Try.func62, Try.ntmps62
    go_wp2
    go_returns
    exact ⟨rfl, by go_grown⟩

set_option maxRecDepth 100000 in
set_option maxHeartbeats 1000000 in
theorem New (w : World) : Calls Try.prog 26 #[] w fun e w' => ∃ b, e = .returned (.pointer (some ⟨b, 0, none⟩)) ∧ w.heap.size ≤ b ∧ PAt w' b Pt.new ∧ Below w.heap.size w w' := by
  go_enter Try.func26, Try.ntmps26
  go_wp2
  generalize hb : w.heap.size = b at *
  have HE : Hid (w.heap.size = b) := hb
  generalize hw1 : w.alloc _ = w1
  have HR : Hid (Row w1 b ({ Pt.new with h0 := false, t0 := false, h1 := false, t1 := false } : Pt).cells) := by
    rw [← hw1, ← hb]; exact Row.new w _ _
  have HB : Hid (Below b w w1) := by rw [← hw1, ← hb]; exact (Below.refl _ w).alloc (Nat.le_refl _) _
  have c7 := HR.out.at_ 7 _ rfl
  have c8 := HR.out.at_ 8 _ rfl
  have c9 := HR.out.at_ 9 _ rfl
  have c10 := HR.out.at_ 10 _ rfl
  have f7 := HR.out.fz 7
  have f8 := HR.out.fz 8
  have f9 := HR.out.fz 9
  have f10 := HR.out.fz 10
  clear hw1 hb
  refine wp_loop_rounds 4 ?_
  rw [rounds_succ]
  go_wp2
  rw [rounds_succ]
  go_wp2
  rw [rounds_succ]
  go_wp2
  go_returns
  refine ⟨b, rfl, Nat.le_of_eq HE.out, ⟨(((((HR.out.put 7 _).put 8 _).put 9 _).put 10 _).to rfl), Pt.ok.new⟩, ?_⟩
  rw [HE.out]
  exact (((HB.out.setCell (p := ⟨b, 7, none⟩) (Nat.le_refl _) _).setCell (p := ⟨b, 8, none⟩) (Nat.le_refl _) _).setCell (p := ⟨b, 9, none⟩) (Nat.le_refl _) _).setCell (p := ⟨b, 10, none⟩) (Nat.le_refl _) _

set_option maxRecDepth 100000 in
set_option maxHeartbeats 1000000 in
theorem Dump (b : Nat) (p : Pt) (on : Bool) (w : World) (h : PAt w b p) : Calls Try.prog 32 #[.pointer (some ⟨b, 0, none⟩), .bool on] w fun e w' => e = .returned (.tuple #[]) ∧ PAt w' b (p.dump on) ∧ Turn b w w' := by
  have H : Hid (PAt w b p) := h
  have c4 := h.all.1.2.2.2.2.1
  have c5 := h.all.1.2.2.2.2.2
  have f4 := h.r.fz 4
  have f5 := h.r.fz 5
  clear h
  cases on
  · go_enter Try.func32, Try.ntmps32
    go_wp2
    go_end0
    exact ⟨rfl, ⟨(H.out.r.put 5 _).to rfl, H.out.ok.dump _⟩, (Turn.refl _ _).set _ _⟩
  · go_enter Try.func32, Try.ntmps32
    go_wp2
    go_end0
    exact ⟨rfl, ⟨((H.out.r.put 5 _).put 4 _).to rfl, H.out.ok.dump _⟩, ((Turn.refl _ _).set _ _).set _ _⟩

set_option maxRecDepth 100000 in
set_option maxHeartbeats 1000000 in
theorem Line (b : Nat) (p : Pt) (w : World) (h : PAt w b p) : Calls Try.prog 30 #[.pointer (some ⟨b, 0, none⟩)] w fun e w' => e = .returned (.tuple #[]) ∧ PAt w' b p.line ∧ Turn b w w' := by
  have H : Hid (PAt w b p) := h
  have c4 := h.all.1.2.2.2.2.1
  have c5 := h.all.1.2.2.2.2.2
  have f4 := h.r.fz 4
  have hc := h.ok.c
  obtain ⟨d, hd⟩ : ∃ d, d = p.d := ⟨_, rfl⟩
  obtain ⟨c, hcc⟩ : ∃ c, c = p.c := ⟨_, rfl⟩
  have HD : Hid (d = p.d ∧ c = p.c) := ⟨hd, hcc⟩
  rw [← hcc] at c4 hc
  rw [← hd] at c5
  clear h hd hcc
  cases d
  · have e1 : IntKind.i64.wrap ((c : Int) + 1) = (c : Int) + 1 := IntWalk.i64_in _ (by omega)
    obtain ⟨m, hm⟩ : ∃ m, m = min (c + 1) 511 := ⟨_, rfl⟩
    have HM : Hid (m = min (c + 1) 511) := hm
    clear hm
    by_cases hx : (c : Int) + 1 ≤ 511
    · go_enter Try.func30, Try.ntmps30
      go_wp2
      go_end0
      refine ⟨rfl, ⟨(H.out.r.put 4 _).to ?_, H.out.ok.line⟩, (Turn.refl _ _).set _ _⟩
      unfold Pt.line
      rw [← HD.out.1, if_neg (by decide), ← HD.out.2]
      simp only [Pt.cells, List.set_cons_succ, List.set_cons_zero, HD.out.1]
      rw [show ((min (c + 1) 511 : Nat) : Int) = (c : Int) + 1 by omega]
    · go_enter Try.func30, Try.ntmps30
      go_wp2
      go_end0
      refine ⟨rfl, ⟨(H.out.r.put 4 _).to ?_, H.out.ok.line⟩, (Turn.refl _ _).set _ _⟩
      unfold Pt.line
      rw [← HD.out.1, if_neg (by decide), ← HD.out.2]
      simp only [Pt.cells, List.set_cons_succ, List.set_cons_zero, HD.out.1]
      rw [show ((min (c + 1) 511 : Nat) : Int) = 511 by omega]
  · go_enter Try.func30, Try.ntmps30
    go_wp2
    go_end0
    refine ⟨rfl, ?_, Turn.refl _ _⟩
    unfold Pt.line
    rw [← HD.out.1, if_pos rfl]
    exact H.out

end Go.Proofs.Ytdnfclhljahghaa.Po
