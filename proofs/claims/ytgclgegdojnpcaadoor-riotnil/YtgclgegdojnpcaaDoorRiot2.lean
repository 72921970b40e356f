/- What the calls of a riot do, but New, Words and what stands on them. -/
import Derived.Test.YtgclgegdojnpcaaDoorRiot1
namespace Go.Proofs.YtgclgegdojnpcaaDoor.Ri
open Go.RowKit Po

theorem LevelA {B : Rb} {r : Rs} {w : World} (h : RAt w B r) (hr : r.a.ok) : Calls Tryd.prog 40 #[.pointer (some ⟨B.pa, 0, none⟩)] w fun e w' => e = .returned (.int .u8 (lev r.a : Int)) ∧ RAt w' B r ∧ Rt B w w' :=
  (Level B.pa r.a w hr h.a).mono fun _ _ ⟨he, q, hw⟩ => ⟨he, hw ▸ h.draws q, hw ▸ Rt.draws q⟩
theorem SeeK {B : Rb} {r : Rs} {w : World} (x : Bool) (hB : B.ok) (h : RAt w B r) : Calls Tryd.prog 39 #[.pointer (some ⟨B.pe, 0, none⟩), .bool x] w fun e w' => e = .returned (.tuple #[]) ∧ RAt w' B ⟨r.ram, r.a, r.b, r.t, see r.e x⟩ ∧ Rt B w w' :=
  (See B.pe x r.e w h.e).mono fun _ _ ⟨he, ha, ht⟩ => ⟨he, h.turn_e hB ht ha, Rt.of_turn ht B.in4⟩

theorem rt_draws {B : Rb} {w w' : World} {q : Nat} (h : Rt B (w.drewN q) w') : Rt B w w' := (Rt.draws q).trans h

set_option maxHeartbeats 2000000 in
theorem Tick (B : Rb) (r : Rs) (w : World) (hB : B.ok) (hr : r.ok) (h : RAt w B r) : Calls Tryd.prog 18 #[.pointer (some ⟨B.b, 0, none⟩)] w fun e w' => e = .returned (.tuple #[]) ∧ RAt w' B (tick r) ∧ Rt B w w' := by
  have H : Hid (RAt w B r) := h
  have HO : Hid r.ok := hr
  have HB : Hid B.ok := hB
  have h2 := h.c2
  clear h hr hB
  go_enter Tryd.func18, Tryd.ntmps18
  go_wp2_with (go_at_call 38; fail)
  refine (Tm.Tick B.pt 0 r.t _ HO.out.t H.out.t).mono ?_
  rintro e w2 ⟨rfl, hA2, hT2⟩
  have H2 : Hid (RAt w2 B ⟨r.ram, r.a, r.b, Tm.tick r.t, r.e⟩) := H.out.turn_t HB.out hT2 hA2
  have HT2 : Hid (Rt B w w2) := Rt.of_turn hT2 B.in3
  clear hA2 hT2 h2 H
  have c0 := H2.out.c0
  have c3 := H2.out.c3
  obtain ⟨l, hl⟩ : ∃ l, lev r.a = l := ⟨_, rfl⟩
  have hl2 : l < 256 := hl ▸ lev_lt HO.out.a
  have hl1 : bits .and .u8 (l : Int) 128 = ((if 128 ≤ l then 128 else 0 : Nat) : Int) := by
    have := u8_and_nat l 128 hl2 (by decide)
    rw [and_line _ hl2] at this
    exact this
  have HL : Hid (∀ w, RAt w B ⟨r.ram, r.a, r.b, Tm.tick r.t, r.e⟩ → Calls Tryd.prog 40 #[.pointer (some ⟨B.pa, 0, none⟩)] w fun e w' => e = .returned (.int .u8 (l : Int)) ∧ RAt w' B ⟨r.ram, r.a, r.b, Tm.tick r.t, r.e⟩ ∧ Rt B w w') := fun w h => hl ▸ LevelA h HO.out.a
  have HT : Hid (tick r = ⟨r.ram, r.a, r.b, Tm.tick r.t, see r.e (decide (128 ≤ l))⟩) := (by unfold tick; rw [hl] : tick r = ⟨r.ram, r.a, r.b, Tm.tick r.t, see r.e (decide (128 ≤ l))⟩)
  clear hl
  by_cases hc : 128 ≤ l
  · rw [if_pos hc] at hl1
    have HD : Hid (decide (128 ≤ l) = true) := decide_eq_true hc
    clear hc
    go_wp2
    go_region_held3 (fun w' => w'.cell? ⟨B.b, 128, none⟩ = some (.pointer (some ⟨B.pa, 0, none⟩)) ∧ w'.cell? ⟨B.b, 131, none⟩ = some (.pointer (some ⟨B.pe, 0, none⟩))) (first | exact ⟨by assumption, by assumption⟩ | go_keep) (first
      | (go_at_call 40; refine (HL.out _ (by first | exact H2.out | exact H2.out.draws _)).mono ?_; rintro e w3 ⟨rfl, hR3, hT3⟩; have H3 : Hid (RAt w3 B ⟨r.ram, r.a, r.b, Tm.tick r.t, r.e⟩) := hR3; have HT3 : Hid (Rt B w2 w3) := (by first | exact hT3 | exact rt_draws hT3); have d0 := hR3.c0; have d3 := hR3.c3; clear hR3 hT3)
      | (go_at_call 39; refine (SeeK true HB.out H3.out).mono ?_; rintro e w4 ⟨rfl, hR4, hT4⟩; have H4 : Hid (RAt w4 B ⟨r.ram, r.a, r.b, Tm.tick r.t, see r.e true⟩) := hR4; have HT4 : Hid (Rt B w3 w4) := hT4; have d0' := hR4.c0; have d3' := hR4.c3; clear hR4 hT4))
    all_goals (try go_wp2)
    all_goals go_returns
    all_goals
      rw [HT.out, HD.out]
      exact ⟨rfl, H4.out, (HT2.out.trans HT3.out).trans HT4.out⟩
  · rw [if_neg hc] at hl1
    have HD : Hid (decide (128 ≤ l) = false) := decide_eq_false hc
    clear hc
    go_wp2
    go_region_held3 (fun w' => w'.cell? ⟨B.b, 128, none⟩ = some (.pointer (some ⟨B.pa, 0, none⟩)) ∧ w'.cell? ⟨B.b, 131, none⟩ = some (.pointer (some ⟨B.pe, 0, none⟩))) (first | exact ⟨by assumption, by assumption⟩ | go_keep) (first
      | (go_at_call 40; refine (HL.out _ (by first | exact H2.out | exact H2.out.draws _)).mono ?_; rintro e w3 ⟨rfl, hR3, hT3⟩; have H3 : Hid (RAt w3 B ⟨r.ram, r.a, r.b, Tm.tick r.t, r.e⟩) := hR3; have HT3 : Hid (Rt B w2 w3) := (by first | exact hT3 | exact rt_draws hT3); have d0 := hR3.c0; have d3 := hR3.c3; clear hR3 hT3)
      | (go_at_call 39; refine (SeeK false HB.out H3.out).mono ?_; rintro e w4 ⟨rfl, hR4, hT4⟩; have H4 : Hid (RAt w4 B ⟨r.ram, r.a, r.b, Tm.tick r.t, see r.e false⟩) := hR4; have HT4 : Hid (Rt B w3 w4) := hT4; have d0' := hR4.c0; have d3' := hR4.c3; clear hR4 hT4))
    all_goals (try go_wp2)
    all_goals go_returns
    all_goals
      rw [HT.out, HD.out]
      exact ⟨rfl, H4.out, (HT2.out.trans HT3.out).trans HT4.out⟩

set_option maxHeartbeats 2000000 in
theorem In (B : Rb) (r : Rs) (x y : Nat) (w : World) (hB : B.ok) (h : RAt w B r) : Calls Tryd.prog 19 #[.pointer (some ⟨B.b, 0, none⟩), .int .u8 (x : Int), .int .u8 (y : Int)] w fun e w' => e = .returned (.tuple #[]) ∧ RAt w' B (inn r x y) ∧ Rt B w w' := by
  have H : Hid (RAt w B r) := h
  have HB : Hid B.ok := hB
  have h0 := h.c0
  clear h hB
  go_enter Tryd.func19, Tryd.ntmps19
  go_wp2_with (go_at_call 41; fail)
  refine (Po.In B.pa x r.a _ H.out.a).mono ?_
  rintro e w2 ⟨rfl, hA2, hT2⟩
  have H2 : Hid (RAt w2 B ⟨r.ram, ⟨x, r.a.o, r.a.v⟩, r.b, r.t, r.e⟩) := H.out.turn_a HB.out hT2 hA2
  have HT2 : Hid (Rt B w w2) := Rt.of_turn hT2 B.in1
  clear hA2 hT2 h0 H
  have h1 := H2.out.c1
  go_wp2_with (go_at_call 41; fail)
  refine (Po.In B.pb y r.b _ H2.out.b).mono ?_
  rintro e w3 ⟨rfl, hA3, hT3⟩
  have H3 : Hid (RAt w3 B (inn r x y)) := H2.out.turn_b HB.out hT3 hA3
  have HT3 : Hid (Rt B w w3) := HT2.out.trans (Rt.of_turn hT3 B.in2)
  clear hA3 hT3 h1 H2 HT2
  go_wp2
  go_returns
  exact ⟨rfl, H3.out, HT3.out⟩

end Go.Proofs.YtgclgegdojnpcaaDoor.Ri
