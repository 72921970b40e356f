/- What a beat, and a tick, make of a voice. -/
import Derived.Test.YtdnfclhljahghaaTone1
namespace Go.Proofs.Ytdnfclhljahghaa.To
open Go.RowKit
set_option linter.unusedVariables false

set_option maxRecDepth 100000 in
set_option maxHeartbeats 4000000 in
theorem beat (b : Nat) (p : Vo) (w : World) (h : VAt w b p) : Calls Try.prog 61 #[.pointer (some ⟨b, 0, none⟩)] w fun e w' => e = .returned (.tuple #[]) ∧ VAt w' b p.beat ∧ Turn b w w' := by
  have H : Hid (VAt w b p) := h
  have t4 := and4 p.c h.ok.c
  have t8 := and8 p.c h.ok.c
  clear h
  obtain ⟨five, h5⟩ : ∃ five, decide (p.f5 % 2 = 1) = five := ⟨_, rfl⟩
  have H5 : Hid (decide (p.f5 % 2 = 1) = five) := h5
  clear h5
  go_enter Try.func61, Try.ntmps61
  go_wp2_with (go_at_call 72; fail)
  refine (falls8 b 6 p.f5 5 2 _ H.out.g5 H.out.p5).mono ?_
  rintro e w1 ⟨rfl, hw1⟩
  obtain ⟨q, hq⟩ : ∃ q : Vo, q = { p with f5 := nxt 5 2 p.f5 } := ⟨_, rfl⟩
  have HQ : Hid (q = { p with f5 := nxt 5 2 p.f5 }) := hq
  have ok0 := H.out.ok
  have H1 : Hid (VAt w1 b q ∧ Turn b w w1) := by
    rw [hw1, hq]
    exact ⟨⟨(H.out.r.put 6 _).to rfl, ⟨ok0.c, ok0.r, ok0.v, ok0.f4, n5 ok0.f5, ok0.f9, ok0.k⟩⟩, (Turn.refl _ _).set _ _⟩
  have ec : p.c = q.c := by rw [hq]
  clear hw1 hq ok0
  rw [H5.out]
  rw [ec] at t4 t8
  go_wp2_with (go_at_call 73; fail)
  refine (goesOn b q five _ H1.out.1).mono ?_
  rintro e w2 ⟨rfl, hB2⟩
  have H2 : Hid (VAt w2 b q ∧ Turn b w w2) := ⟨H1.out.1.below hB2, H1.out.2.belowR hB2⟩
  clear hB2 H1
  obtain ⟨g, hg⟩ : ∃ g, goB q.c q.f5 five = g := ⟨_, rfl⟩
  have HG : Hid (goB p.c (nxt 5 2 p.f5) (decide (p.f5 % 2 = 1)) = g) := (show goB p.c (nxt 5 2 p.f5) (decide (p.f5 % 2 = 1)) = g by rw [H5.out, ← hg, HQ.out])
  rw [hg]
  clear hg
  have EC : Hid (p.c = q.c) := ec
  clear ec
  cases g
  · go_wp2
    go_end0
    exact ⟨rfl, by unfold Vo.beat; rw [if_pos HG.out, ← HQ.out]; exact H2.out.1, H2.out.2⟩
  have c0 := H2.out.1.r.at_ 0 _ rfl
  have c13 := H2.out.1.r.at_ 13 _ rfl
  have f13 := H2.out.1.r.fz 13
  have hnf : Hid (¬ goB p.c (nxt 5 2 p.f5) (decide (p.f5 % 2 = 1)) = false) := (show ¬ goB p.c (nxt 5 2 p.f5) (decide (p.f5 % 2 = 1)) = false by rw [HG.out]; decide)
  have ok2 : Hid q.ok := H2.out.1.ok
  by_cases h4 : q.c / 4 % 2 = 1
  · rw [decide_eq_true h4] at t4
    have HB : Hid (p.beat = { q with hi := !q.hi }) := (show p.beat = { q with hi := !q.hi } by unfold Vo.beat; rw [if_neg hnf.out, if_pos (by rw [EC.out]; exact h4), HQ.out])
    clear h4 t8
    go_wp2
    go_end0
    exact ⟨rfl, by rw [HB.out]; exact ⟨(H2.out.1.r.put 13 _).to rfl, ⟨ok2.out.c, ok2.out.r, ok2.out.v, ok2.out.f4, ok2.out.f5, ok2.out.f9, ok2.out.k⟩⟩, H2.out.2.set _ _⟩
  rw [decide_eq_false h4] at t4
  by_cases h8 : q.c = 8
  · have e8 : ((q.c : Int) == 8) = true := by rw [h8]; rfl
    have HB : Hid (p.beat = { q with hi := decide (q.f9 % 2 = 1), f9 := nxt 9 4 q.f9 }) := (show p.beat = { q with hi := decide (q.f9 % 2 = 1), f9 := nxt 9 4 q.f9 } by unfold Vo.beat; rw [if_neg hnf.out, if_neg (by rw [EC.out]; exact h4), if_pos (by rw [EC.out]; exact h8), HQ.out])
    clear h4 h8 t8
    obtain ⟨x, hx⟩ : ∃ x, decide (q.f9 % 2 = 1) = x := ⟨_, rfl⟩
    have HX : Hid (decide (q.f9 % 2 = 1) = x) := hx
    clear hx
    go_wp2_with (go_at_call 74; refine (falls16 b 9 q.f9 9 4 _ H2.out.1.g9 H2.out.1.p9).mono ?_; rintro e w3 ⟨rfl, rfl⟩; rw [HX.out])
    go_end0
    exact ⟨rfl, by rw [HB.out, HX.out]; exact ⟨((H2.out.1.r.put 9 _).put 13 _).to rfl, ⟨ok2.out.c, ok2.out.r, ok2.out.v, ok2.out.f4, ok2.out.f5, n9 ok2.out.f9, ok2.out.k⟩⟩, (H2.out.2.set _ _).set _ _⟩
  have e8 : ((q.c : Int) == 8) = false := beq_eq_false_iff_ne.2 (by omega)
  by_cases h9 : 8 ≤ q.c
  · rw [decide_eq_true h9] at t8
    have HB : Hid (p.beat = { q with hi := five }) := (show p.beat = { q with hi := five } by unfold Vo.beat; rw [if_neg hnf.out, if_neg (by rw [EC.out]; exact h4), if_neg (by rw [EC.out]; exact h8), if_pos (by rw [EC.out]; exact h9), H5.out, HQ.out])
    clear h4 h8 h9
    go_wp2
    go_end0
    exact ⟨rfl, by rw [HB.out]; exact ⟨(H2.out.1.r.put 13 _).to rfl, ⟨ok2.out.c, ok2.out.r, ok2.out.v, ok2.out.f4, ok2.out.f5, ok2.out.f9, ok2.out.k⟩⟩, H2.out.2.set _ _⟩
  · rw [decide_eq_false h9] at t8
    have HB : Hid (p.beat = { q with hi := decide (q.f4 % 2 = 1), f4 := nxt 4 1 q.f4 }) := (show p.beat = { q with hi := decide (q.f4 % 2 = 1), f4 := nxt 4 1 q.f4 } by unfold Vo.beat; rw [if_neg hnf.out, if_neg (by rw [EC.out]; exact h4), if_neg (by rw [EC.out]; exact h8), if_neg (by rw [EC.out]; exact h9), HQ.out])
    clear h4 h8 h9
    obtain ⟨x, hx⟩ : ∃ x, decide (q.f4 % 2 = 1) = x := ⟨_, rfl⟩
    have HX : Hid (decide (q.f4 % 2 = 1) = x) := hx
    clear hx
    go_wp2_with (go_at_call 72; refine (falls8 b 3 q.f4 4 1 _ H2.out.1.g4 H2.out.1.p4).mono ?_; rintro e w3 ⟨rfl, rfl⟩; rw [HX.out])
    go_end0
    exact ⟨rfl, by rw [HB.out, HX.out]; exact ⟨((H2.out.1.r.put 3 _).put 13 _).to rfl, ⟨ok2.out.c, ok2.out.r, ok2.out.v, n4 ok2.out.f4, ok2.out.f5, ok2.out.f9, ok2.out.k⟩⟩, (H2.out.2.set _ _).set _ _⟩

set_option maxRecDepth 100000 in
set_option maxHeartbeats 2000000 in
theorem Tick (b : Nat) (p : Vo) (w : World) (h : VAt w b p) (hk : p.k ≤ 95) : Calls Try.prog 25 #[.pointer (some ⟨b, 0, none⟩)] w fun e w' => e = .returned (.tuple #[]) ∧ VAt w' b p.tick ∧ Turn b w w' := by
  have H : Hid (VAt w b p) := h
  have c12 := h.r.at_ 12 _ rfl
  have f12 := h.r.fz 12
  have hl := Vo.len_le (p := p) h.ok.r
  clear h
  have e1 : IntKind.i64.wrap ((p.k : Int) + 1) = (p.k : Int) + 1 := IntWalk.i64_in _ (by omega)
  go_enter Try.func25, Try.ntmps25
  go_wp2_with (fail)
  generalize hw1 : w.setCell _ _ = w1
  have ok0 := H.out.ok
  have H1 : Hid (VAt w1 b { p with k := p.k + 1 } ∧ Turn b w w1) := by
    rw [← hw1]
    exact ⟨⟨(H.out.r.put 12 _).to (by simp [Vo.cells]), ⟨ok0.c, ok0.r, ok0.v, ok0.f4, ok0.f5, ok0.f9, by simp only; omega⟩⟩, (Turn.refl _ _).set _ _⟩
  clear hw1 c12 f12 ok0
  obtain ⟨n, hn⟩ : ∃ n, p.len = n := ⟨_, rfl⟩
  have HN : Hid (p.len = n) := hn
  rw [hn] at hl
  clear hn
  have c12 : w1.cell? ⟨b, 12, none⟩ = some (.int .i64 ((p.k : Int) + 1)) := by have := H1.out.1.r.at_ 12 _ rfl; simpa using this
  have f12 := H1.out.1.r.fz 12
  by_cases hx : p.k + 1 < n
  · have hx' : ¬ (n : Int) ≤ (p.k : Int) + 1 := by omega
    go_region_with (go_at_call 60; refine (length b { p with k := p.k + 1 } _ (by first | exact H1.out.1 | exact H1.out.1.drew)).mono ?_; rintro e w2 ⟨rfl, rfl⟩; rw [show ({ p with k := p.k + 1 } : Vo).len = n from HN.out])
    all_goals
      go_wp2
      go_end0
      refine ⟨rfl, ?_, ?_⟩
      · unfold Vo.tick
        rw [HN.out, if_pos hx]
        exact H1.out.1.draws _
      · exact H1.out.2.drewsR _
  · have hx' : (n : Int) ≤ (p.k : Int) + 1 := by omega
    go_region_with (go_at_call 60; refine (length b { p with k := p.k + 1 } _ (by first | exact H1.out.1 | exact H1.out.1.drew)).mono ?_; rintro e w2 ⟨rfl, rfl⟩; rw [show ({ p with k := p.k + 1 } : Vo).len = n from HN.out])
    all_goals
      go_wp2_with (go_at_call 61; fail)
      generalize hw3 : World.setCell _ _ _ = w3
      have ok1 := H.out.ok
      have H3 : Hid (VAt w3 b { p with k := 0 } ∧ Turn b w w3) := by
        rw [← hw3]
        exact ⟨⟨(H1.out.1.r.put 12 _).to rfl, ⟨ok1.c, ok1.r, ok1.v, ok1.f4, ok1.f5, ok1.f9, by simp⟩⟩, H1.out.2.set _ _⟩
      clear hw3 c12 f12 H1
      refine (beat b { p with k := 0 } _ H3.out.1.drew).mono ?_
      rintro e w4 ⟨rfl, h4, t4⟩
      go_wp2
      go_end0
      refine ⟨rfl, ?_, H3.out.2.trans (turn_drew t4)⟩
      unfold Vo.tick
      rw [HN.out, if_neg hx]
      exact h4

end Go.Proofs.Ytdnfclhljahghaa.To
