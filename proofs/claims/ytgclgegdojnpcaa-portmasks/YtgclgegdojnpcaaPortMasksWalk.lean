/- PortMasks, walked: whatever comes in, true comes out. -/
import Derived.Test.YtgclgegdojnpcaaAwake7
namespace Go.Proofs.Ytgclgegdojnpcaa.portMasks
open Go.RowKit Po

theorem out_mask {p : Pt} (h : p.ok) : lev p &&& p.v = p.o &&& p.v := by
  obtain ⟨h1, h2, h3⟩ := h
  apply Nat.eq_of_testBit_eq
  intro k
  rw [Nat.testBit_and, Nat.testBit_and]
  by_cases hk : k < 8
  · rw [lev_bit ⟨h1, h2, h3⟩ hk]
    cases p.v.testBit k <;> simp
  · have : p.v.testBit k = false := Nat.testBit_lt_two_pow (Nat.lt_of_le_of_lt h3 (Nat.lt_of_lt_of_le (show 255 < 2 ^ 8 by decide) (Nat.pow_le_pow_right (by decide) (by omega))))
    rw [this]; simp

theorem in_mask {p : Pt} (h : p.ok) : lev p &&& (255 - p.v) = p.i &&& (255 - p.v) := by
  obtain ⟨h1, h2, h3⟩ := h
  apply Nat.eq_of_testBit_eq
  intro k
  rw [Nat.testBit_and, Nat.testBit_and]
  have e : 255 - p.v = 2 ^ 8 - (p.v + 1) := by omega
  rw [e, Nat.testBit_two_pow_sub_succ (by omega)]
  by_cases hk : k < 8
  · rw [lev_bit ⟨h1, h2, h3⟩ hk]
    cases p.v.testBit k <;> simp
  · simp [hk]

theorem and8 {p : Pt} (h : p.ok) {v : Nat} (hv : v ≤ 255) : bits .and .u8 (lev p : Int) (v : Int) = ((lev p &&& v : Nat) : Int) := u8_and_nat _ _ (lev_lt h) (by omega)
theorem not8 {p : Pt} (h : p.ok) {v : Nat} (hv : v ≤ 255) : bits .andNot .u8 (lev p : Int) (v : Int) = ((lev p &&& (255 - v) : Nat) : Int) := u8_andNot_nat _ _ (lev_lt h) (by omega)

/-- The box of the four bytes, nothing old turned. -/
structure B0 (W : World) (g x0 x1 x2 x3 : Nat) (w : World) : Prop where
  row : w.heap[g]? = some (.cells #[.int .u8 (x0 : Int), .int .u8 (x1 : Int), .int .u8 (x2 : Int), .int .u8 (x3 : Int)] 48 (0, 0))
  old : Below W.heap.size W w
  ge : W.heap.size ≤ g
section
variable {W w w' : World} {g x0 x1 x2 x3 : Nat}
theorem B0.lt (h : B0 W g x0 x1 x2 x3 w) : g < w.heap.size := (Array.getElem?_eq_some_iff.1 h.row).1
theorem B0.draws (h : B0 W g x0 x1 x2 x3 w) (q : Nat) : B0 W g x0 x1 x2 x3 (w.drewN q) := ⟨h.row, below_drewN h.old q, h.ge⟩
theorem B0.below (h : B0 W g x0 x1 x2 x3 w) (hb : Below w.heap.size w w') : B0 W g x0 x1 x2 x3 w' := ⟨(hb.block g h.lt).trans h.row, h.old.trans (hb.mono h.old.size), h.ge⟩
theorem B0.turn {b : Nat} (h : B0 W g x0 x1 x2 x3 w) (hb : Turn b w w') (h1 : W.heap.size ≤ b) (h2 : b ≠ g) : B0 W g x0 x1 x2 x3 w' := ⟨(hb.block g h.lt (Ne.symm h2)).trans h.row, h.old.trans (hb.below h1 h.old.size), h.ge⟩
theorem B0.cells (h : B0 W g x0 x1 x2 x3 w) : w.cell? ⟨g, 0, none⟩ = some (.int .u8 (x0 : Int)) ∧ w.cell? ⟨g, 1, none⟩ = some (.int .u8 (x1 : Int)) ∧ w.cell? ⟨g, 2, none⟩ = some (.int .u8 (x2 : Int)) ∧ w.cell? ⟨g, 3, none⟩ = some (.int .u8 (x3 : Int)) :=
  ⟨cell_of_row _ _ _ _ _ _ h.row, cell_of_row _ _ _ _ _ _ h.row, cell_of_row _ _ _ _ _ _ h.row, cell_of_row _ _ _ _ _ _ h.row⟩
theorem NewK (n : Nat) (h : B0 W g x0 x1 x2 x3 w) : Calls Try.prog 8 #[.int .u8 (n : Int)] w fun e w' => ∃ b, e = .returned (.pointer (some ⟨b, 0, none⟩)) ∧ W.heap.size ≤ b ∧ b ≠ g ∧ PAt w' b ⟨n, 0, 0⟩ ∧ B0 W g x0 x1 x2 x3 w' ∧ ∀ c p, PAt w c p → PAt w' c p ∧ c ≠ b :=
  (New n w).mono fun _ _ ⟨b, he, hb, ha, hB⟩ => ⟨b, he, Nat.le_trans h.old.size hb, by have := h.lt; omega, ha, h.below hB, fun c p hc => ⟨hc.below hB, by have := hc.lt; omega⟩⟩
end

/-- And two ports. -/
structure B2 (W : World) (g x0 x1 x2 x3 b c : Nat) (P Q : Pt) (w : World) : Prop where
  o : B0 W g x0 x1 x2 x3 w
  p : PAt w b P
  q : PAt w c Q
  bc : b ≠ c
  b1 : W.heap.size ≤ b
  b2 : b ≠ g
  c1 : W.heap.size ≤ c
  c2 : c ≠ g
section
variable {W w w' : World} {g x0 x1 x2 x3 b c : Nat} {P Q : Pt}
theorem B2.draws (h : B2 W g x0 x1 x2 x3 b c P Q w) (q : Nat) : B2 W g x0 x1 x2 x3 b c P Q (w.drewN q) := ⟨h.o.draws q, h.p.draws q, h.q.draws q, h.bc, h.b1, h.b2, h.c1, h.c2⟩
theorem B2.turn_b {P' : Pt} (h : B2 W g x0 x1 x2 x3 b c P Q w) (ht : Turn b w w') (hp : PAt w' b P') : B2 W g x0 x1 x2 x3 b c P' Q w' := ⟨h.o.turn ht h.b1 h.b2, hp, h.q.turn ht (Ne.symm h.bc), h.bc, h.b1, h.b2, h.c1, h.c2⟩
theorem B2.turn_c {Q' : Pt} (h : B2 W g x0 x1 x2 x3 b c P Q w) (ht : Turn c w w') (hp : PAt w' c Q') : B2 W g x0 x1 x2 x3 b c P Q' w' := ⟨h.o.turn ht h.c1 h.c2, h.p.turn ht h.bc, hp, h.bc, h.b1, h.b2, h.c1, h.c2⟩
theorem B2.below (h : B2 W g x0 x1 x2 x3 b c P Q w) (hb : Below w.heap.size w w') : B2 W g x0 x1 x2 x3 b c P Q w' := ⟨h.o.below hb, h.p.below hb, h.q.below hb, h.bc, h.b1, h.b2, h.c1, h.c2⟩
theorem awakeK (h : B2 W g x0 x1 x2 x3 b c P Q w) : Calls Try.prog 18 #[] w fun e w' => e = .returned (.bool true) ∧ B2 W g x0 x1 x2 x3 b c P Q w' :=
  (awake7 w).mono fun _ _ ⟨he, hb⟩ => ⟨he, h.below hb⟩
theorem OutB (n : Nat) (h : B2 W g x0 x1 x2 x3 b c P Q w) : Calls Try.prog 10 #[.pointer (some ⟨b, 0, none⟩), .int .u8 (n : Int)] w fun e w' => e = .returned (.tuple #[]) ∧ B2 W g x0 x1 x2 x3 b c ⟨P.i, n, P.v⟩ Q w' :=
  (Out b n P w h.p).mono fun _ _ ⟨he, ha, ht⟩ => ⟨he, h.turn_b ht ha⟩
theorem OutC (n : Nat) (h : B2 W g x0 x1 x2 x3 b c P Q w) : Calls Try.prog 10 #[.pointer (some ⟨c, 0, none⟩), .int .u8 (n : Int)] w fun e w' => e = .returned (.tuple #[]) ∧ B2 W g x0 x1 x2 x3 b c P ⟨Q.i, n, Q.v⟩ w' :=
  (Out c n Q w h.q).mono fun _ _ ⟨he, ha, ht⟩ => ⟨he, h.turn_c ht ha⟩
theorem WayB (n : Nat) (h : B2 W g x0 x1 x2 x3 b c P Q w) : Calls Try.prog 11 #[.pointer (some ⟨b, 0, none⟩), .int .u8 (n : Int)] w fun e w' => e = .returned (.tuple #[]) ∧ B2 W g x0 x1 x2 x3 b c ⟨P.i, P.o, n⟩ Q w' :=
  (Po.Way b n P w h.p).mono fun _ _ ⟨he, ha, ht⟩ => ⟨he, h.turn_b ht ha⟩
theorem WayC (n : Nat) (h : B2 W g x0 x1 x2 x3 b c P Q w) : Calls Try.prog 11 #[.pointer (some ⟨c, 0, none⟩), .int .u8 (n : Int)] w fun e w' => e = .returned (.tuple #[]) ∧ B2 W g x0 x1 x2 x3 b c P ⟨Q.i, Q.o, n⟩ w' :=
  (Po.Way c n Q w h.q).mono fun _ _ ⟨he, ha, ht⟩ => ⟨he, h.turn_c ht ha⟩
theorem LevB (h : B2 W g x0 x1 x2 x3 b c P Q w) (hp : P.ok) : Calls Try.prog 14 #[.pointer (some ⟨b, 0, none⟩)] w fun e w' => e = .returned (.int .u8 (lev P : Int)) ∧ B2 W g x0 x1 x2 x3 b c P Q w' :=
  (Level b P w hp h.p).mono fun _ _ ⟨he, q, hw⟩ => ⟨he, hw ▸ h.draws q⟩
theorem LevC (h : B2 W g x0 x1 x2 x3 b c P Q w) (hp : Q.ok) : Calls Try.prog 14 #[.pointer (some ⟨c, 0, none⟩)] w fun e w' => e = .returned (.int .u8 (lev Q : Int)) ∧ B2 W g x0 x1 x2 x3 b c P Q w' :=
  (Level c Q w hp h.q).mono fun _ _ ⟨he, q, hw⟩ => ⟨he, hw ▸ h.draws q⟩
end

set_option maxRecDepth 100000 in
set_option maxHeartbeats 2000000 in
theorem good (x0 x1 x2 x3 : Nat) (W : World) (h0 : x0 ≤ 255) (h1 : x1 ≤ 255) (h2 : x2 ≤ 255) (h3 : x3 ≤ 255) :
    Calls Try.prog 5 #[.agg #[.int .u8 (x0 : Int), .int .u8 (x1 : Int), .int .u8 (x2 : Int), .int .u8 (x3 : Int)]] W fun e w' => e = .returned (.bool true) ∧ Below W.heap.size W w' := by
  go_enter Try.func5, Try.ntmps5
  go_wp2
  generalize hw1 : W.alloc _ = w1
  have HB : Hid (B0 W W.heap.size x0 x1 x2 x3 w1) := (by rw [← hw1]; exact ⟨heap_alloc_new _ _, (Below.refl _ _).alloc (Nat.le_refl _) _, Nat.le_refl _⟩ : B0 W W.heap.size x0 x1 x2 x3 w1)
  clear hw1
  generalize W.heap.size = g at *
  obtain ⟨c0, c1, c2, c3⟩ := HB.out.cells
  go_region_held3 (fun w' => w'.cell? ⟨g, 0, none⟩ = some (.int .u8 (x0 : Int)) ∧ w'.cell? ⟨g, 3, none⟩ = some (.int .u8 (x3 : Int))) (first | exact ⟨by assumption, by assumption⟩ | go_keep) (first
    | (go_at_call 8; refine (NewK x0 (by first | exact HBq.out | exact HB.out | exact HB.out.draws _)).mono ?_; rintro e wp ⟨b, rfl, hb1, hb2, hbA, hbB, hbK⟩; have HBp : Hid (B0 W g x0 x1 x2 x3 wp) := hbB; obtain ⟨d0, -, -, d3⟩ := hbB.cells)
    | (go_at_call 8; refine (NewK x3 (by first | exact HBp.out | exact HB.out | exact HB.out.draws _)).mono ?_; rintro e wq ⟨c, rfl, hc1, hc2, hcA, hcB, hcK⟩; have HBq : Hid (B0 W g x0 x1 x2 x3 wq) := hcB; obtain ⟨d0', -, -, d3'⟩ := hcB.cells))
  all_goals first
    | have HK0 : Hid (B2 W g x0 x1 x2 x3 b c ⟨x0, 0, 0⟩ ⟨x3, 0, 0⟩ wq) := ⟨hcB, (hcK b _ hbA).1, hcA, (hcK b _ hbA).2, hb1, hb2, hc1, hc2⟩
    | have HK0 : Hid (B2 W g x0 x1 x2 x3 b c ⟨x0, 0, 0⟩ ⟨x3, 0, 0⟩ wp) := ⟨hbB, hbA, (hbK c _ hcA).1, Ne.symm (hbK c _ hcA).2, hb1, hb2, hc1, hc2⟩
  all_goals
    clear HBp HBq HB c0 c1 c2 c3 d0 d3 d0' d3' hcK hbK hcB hbB hcA hbA hb1 hb2 hc1 hc2
    obtain ⟨-, c1, c2, -⟩ := HK0.out.o.cells
    go_wp2_with (go_at_call 10; fail)
    refine (OutB x1 HK0.out).mono ?_
    rintro e w2 ⟨rfl, hK⟩
    have HK1 : Hid (B2 W g x0 x1 x2 x3 b c ⟨x0, x1, 0⟩ ⟨x3, 0, 0⟩ w2) := hK
    clear hK HK0 c1 c2
    obtain ⟨-, c1, c2, -⟩ := HK1.out.o.cells
    go_wp2_with (go_at_call 11; fail)
    refine (WayB x2 HK1.out).mono ?_
    rintro e w3 ⟨rfl, hK⟩
    have HK2 : Hid (B2 W g x0 x1 x2 x3 b c ⟨x0, x1, x2⟩ ⟨x3, 0, 0⟩ w3) := hK
    clear hK HK1 c1 c2
    obtain ⟨-, c1, c2, -⟩ := HK2.out.o.cells
    go_wp2_with (go_at_call 10; fail)
    refine (OutC x1 HK2.out).mono ?_
    rintro e w4 ⟨rfl, hK⟩
    have HK3 : Hid (B2 W g x0 x1 x2 x3 b c ⟨x0, x1, x2⟩ ⟨x3, x1, 0⟩ w4) := hK
    clear hK HK2 c1 c2
    obtain ⟨-, c1, c2, -⟩ := HK3.out.o.cells
    go_wp2_with (go_at_call 11; fail)
    refine (WayC x2 HK3.out).mono ?_
    rintro e w5 ⟨rfl, hK⟩
    have HK4 : Hid (B2 W g x0 x1 x2 x3 b c ⟨x0, x1, x2⟩ ⟨x3, x1, x2⟩ w5) := hK
    clear hK HK3 c1 c2
    obtain ⟨-, c1, c2, -⟩ := HK4.out.o.cells
    have hP : Pt.ok ⟨x0, x1, x2⟩ := ⟨h0, h1, h2⟩
    have hQ : Pt.ok ⟨x3, x1, x2⟩ := ⟨h3, h1, h2⟩
    have hR : Pt.ok ⟨x0, x3, x2⟩ := ⟨h0, h3, h2⟩
    have HP : Hid (Pt.ok ⟨x0, x1, x2⟩) := hP
    have HQ : Hid (Pt.ok ⟨x3, x1, x2⟩) := hQ
    have HR : Hid (Pt.ok ⟨x0, x3, x2⟩) := hR
    have e1 : bits .and .u8 (lev ⟨x0, x1, x2⟩ : Int) (x2 : Int) = ((x1 &&& x2 : Nat) : Int) := (and8 hP h2).trans (congrArg _ (out_mask hP))
    have e2 : bits .and .u8 (lev ⟨x3, x1, x2⟩ : Int) (x2 : Int) = ((x1 &&& x2 : Nat) : Int) := (and8 hQ h2).trans (congrArg _ (out_mask hQ))
    have e3 : bits .and .u8 (x1 : Int) (x2 : Int) = ((x1 &&& x2 : Nat) : Int) := u8_and_nat _ _ (by omega) (by omega)
    have e4 : bits .andNot .u8 (lev ⟨x0, x1, x2⟩ : Int) (x2 : Int) = ((x0 &&& (255 - x2) : Nat) : Int) := (not8 hP h2).trans (congrArg _ (in_mask hP))
    have e5 : bits .andNot .u8 (lev ⟨x0, x3, x2⟩ : Int) (x2 : Int) = ((x0 &&& (255 - x2) : Nat) : Int) := (not8 hR h2).trans (congrArg _ (in_mask hR))
    have e6 : bits .andNot .u8 (x0 : Int) (x2 : Int) = ((x0 &&& (255 - x2) : Nat) : Int) := u8_andNot_nat _ _ (by omega) (by omega)
    clear hP hQ hR
    generalize hl1 : lev ⟨x0, x1, x2⟩ = l1 at e1 e4
    generalize hl2 : lev ⟨x3, x1, x2⟩ = l2 at e2
    generalize hl3 : lev ⟨x0, x3, x2⟩ = l3 at e5
    have HL1 : Hid (lev ⟨x0, x1, x2⟩ = l1) := hl1
    have HL2 : Hid (lev ⟨x3, x1, x2⟩ = l2) := hl2
    have HL3 : Hid (lev ⟨x0, x3, x2⟩ = l3) := hl3
    clear hl1 hl2 hl3
    generalize x1 &&& x2 = m at e1 e2 e3
    generalize x0 &&& (255 - x2) = m' at e4 e5 e6
    go_wp2
    have LB : Hid (∀ w, PAt w b ⟨x0, x1, x2⟩ → Calls Try.prog 14 #[.pointer (some ⟨b, 0, none⟩)] w fun e w' => e = .returned (.int .u8 (l1 : Int)) ∧ ∃ q, w' = w.drewN q) := fun w h => HL1.out ▸ Level b _ w HP.out h
    have LC : Hid (∀ w, PAt w c ⟨x3, x1, x2⟩ → Calls Try.prog 14 #[.pointer (some ⟨c, 0, none⟩)] w fun e w' => e = .returned (.int .u8 (l2 : Int)) ∧ ∃ q, w' = w.drewN q) := fun w h => HL2.out ▸ Level c _ w HQ.out h
    go_quiet (first
      | (go_at_call_of 14 (Value.pointer (some ⟨b, 0, none⟩)); exact Calls.quiet_of (LB.out _ (HK4.out.p.draws _)))
      | (go_at_call_of 14 (Value.pointer (some ⟨c, 0, none⟩)); exact Calls.quiet_of (LC.out _ (HK4.out.q.draws _))))
    go_wp2_with (go_at_call 14; fail)
    refine (LB.out _ (HK4.out.p.draws _)).mono ?_
    rintro e w6 ⟨rfl, q6, hw6⟩
    have HK5 : Hid (B2 W g x0 x1 x2 x3 b c ⟨x0, x1, x2⟩ ⟨x3, x1, x2⟩ w6) := (hw6 ▸ (HK4.out.draws _).draws _ : B2 W g x0 x1 x2 x3 b c ⟨x0, x1, x2⟩ ⟨x3, x1, x2⟩ w6)
    clear hw6 HK4 c1 c2
    obtain ⟨-, -, -, c3⟩ := HK5.out.o.cells
    go_wp2_with (go_at_call 10; fail)
    refine (OutB x3 HK5.out).mono ?_
    rintro e w7 ⟨rfl, hK⟩
    have HK6 : Hid (B2 W g x0 x1 x2 x3 b c ⟨x0, x3, x2⟩ ⟨x3, x1, x2⟩ w7) := hK
    clear hK HK5 c3
    obtain ⟨c0, -, c2, -⟩ := HK6.out.o.cells
    have LD : Hid (∀ w, B2 W g x0 x1 x2 x3 b c ⟨x0, x3, x2⟩ ⟨x3, x1, x2⟩ w → Calls Try.prog 14 #[.pointer (some ⟨b, 0, none⟩)] w fun e w' => e = .returned (.int .u8 (l3 : Int)) ∧ B2 W g x0 x1 x2 x3 b c ⟨x0, x3, x2⟩ ⟨x3, x1, x2⟩ w') := fun w h => HL3.out ▸ LevB h HR.out
    go_wp2
    go_region_held3 (fun w' => w'.cell? ⟨g, 0, none⟩ = some (.int .u8 (x0 : Int)) ∧ w'.cell? ⟨g, 2, none⟩ = some (.int .u8 (x2 : Int))) (first | exact ⟨by assumption, by assumption⟩ | go_keep) (first
      | (go_at_call 14; refine (LD.out _ (by first | exact HK6.out | exact HK6.out.draws _)).mono ?_; rintro e w8 ⟨rfl, hK8⟩; have HK8 : Hid (B2 W g x0 x1 x2 x3 b c ⟨x0, x3, x2⟩ ⟨x3, x1, x2⟩ w8) := hK8; obtain ⟨d0, -, d2, -⟩ := hK8.o.cells; clear hK8)
      | (go_at_call 18; refine (awakeK (W := W) (g := g) (x0 := x0) (x1 := x1) (x2 := x2) (x3 := x3) (b := b) (c := c) (P := ⟨x0, x3, x2⟩) (Q := ⟨x3, x1, x2⟩) HK8.out).mono ?_; rintro e w9 ⟨rfl, hK9⟩; have HK9 : Hid (B2 W g x0 x1 x2 x3 b c ⟨x0, x3, x2⟩ ⟨x3, x1, x2⟩ w9) := hK9; obtain ⟨d0', -, d2', -⟩ := hK9.o.cells; clear hK9))
    all_goals go_wp2
    all_goals go_returns
    all_goals exact ⟨rfl, HK9.out.o.old⟩

theorem walk (a0 a1 a2 a3 : Int) (w0 : (Lit.int .u8 a0).wf = true) (w1 : (Lit.int .u8 a1).wf = true) (w2 : (Lit.int .u8 a2).wf = true) (w3 : (Lit.int .u8 a3).wf = true) (W : World) :
    Calls Try.prog 5 #[.agg #[.int .u8 a0, .int .u8 a1, .int .u8 a2, .int .u8 a3]] W fun e w' => e = .returned (.bool true) ∧ Below W.heap.size W w' := by
  obtain ⟨x0, y0⟩ : 0 ≤ a0 ∧ a0 ≤ 255 := by have := bounds_u8 w0; omega
  obtain ⟨x1, y1⟩ : 0 ≤ a1 ∧ a1 ≤ 255 := by have := bounds_u8 w1; omega
  obtain ⟨x2, y2⟩ : 0 ≤ a2 ∧ a2 ≤ 255 := by have := bounds_u8 w2; omega
  obtain ⟨x3, y3⟩ : 0 ≤ a3 ∧ a3 ≤ 255 := by have := bounds_u8 w3; omega
  obtain ⟨n0, rfl⟩ := Int.eq_ofNat_of_zero_le x0
  obtain ⟨n1, rfl⟩ := Int.eq_ofNat_of_zero_le x1
  obtain ⟨n2, rfl⟩ := Int.eq_ofNat_of_zero_le x2
  obtain ⟨n3, rfl⟩ := Int.eq_ofNat_of_zero_le x3
  exact good n0 n1 n2 n3 W (by omega) (by omega) (by omega) (by omega)

end Go.Proofs.Ytgclgegdojnpcaa.portMasks
