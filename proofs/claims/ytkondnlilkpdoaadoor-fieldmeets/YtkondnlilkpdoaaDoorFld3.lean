/- Six dots in their block; the tables; what a pair is. -/
import Derived.Test.YtkondnlilkpdoaaDoorFld2
import Derived.Deep.MidRow
set_option linter.unusedVariables false
namespace Go.Proofs.YtkondnlilkpdoaaDoor.Fi
open Go.RowKit

/-- The pairs that may meet, and the things that have a colour. -/
def pairL : List (Nat × Nat) := [(2, 1), (2, 0), (3, 0), (3, 1), (0, 5), (0, 4), (1, 5), (1, 4), (2, 5), (2, 4), (3, 5), (3, 4), (4, 5), (0, 1), (2, 3)]
def haveL : List (Nat × Nat) := [(0, 2), (1, 3), (4, 5)]
def pA (k : Nat) : Nat := (pairL.getD k (0, 0)).1
def pB (k : Nat) : Nat := (pairL.getD k (0, 0)).2
def hA (k : Nat) : Nat := (haveL.getD k (0, 0)).1
def hB (k : Nat) : Nat := (haveL.getD k (0, 0)).2
theorem pA_lt : ∀ k, k < 15 → pA k < 6 := by decide
theorem pB_lt : ∀ k, k < 15 → pB k < 6 := by decide
theorem hA_lt : ∀ k, k < 3 → hA k < 6 := by decide
theorem hB_lt : ∀ k, k < 3 → hB k < 6 := by decide

/-- The tables as they are laid. -/
structure Tab (w : World) : Prop where
  p0 : ∀ k, k < 15 → w.cell? ⟨0, k * 2, none⟩ = some (.int .i64 (pA k : Int))
  p1 : ∀ k, k < 15 → w.cell? ⟨0, k * 2 + 1, none⟩ = some (.int .i64 (pB k : Int))
  h0 : ∀ k, k < 3 → w.cell? ⟨1, k * 2, none⟩ = some (.int .i64 (hA k : Int))
  h1 : ∀ k, k < 3 → w.cell? ⟨1, k * 2 + 1, none⟩ = some (.int .i64 (hB k : Int))
theorem Tab.lt0 {w : World} (h : Tab w) : 0 < w.heap.size := lt_of_cell (h.p0 0 (by decide))
theorem Tab.lt1 {w : World} (h : Tab w) : 1 < w.heap.size := lt_of_cell (h.h0 0 (by decide))
theorem Tab.below {w w' : World} {n : Nat} (h : Tab w) (hb : Below n w w') (hn : w.heap.size ≤ n) : Tab w' :=
  have e0 := hb.block 0 (Nat.lt_of_lt_of_le h.lt0 hn)
  have e1 := hb.block 1 (Nat.lt_of_lt_of_le h.lt1 hn)
  ⟨fun k hk => (World.cell?_of_block (w := w) e0).trans (h.p0 k hk), fun k hk => (World.cell?_of_block (w := w) e0).trans (h.p1 k hk), fun k hk => (World.cell?_of_block (w := w) e1).trans (h.h0 k hk), fun k hk => (World.cell?_of_block (w := w) e1).trans (h.h1 k hk)⟩

/-- Six dots lie at block d. -/
structure DAt (w : World) (d : Nat) (D : Nat → Bool) : Prop where
  c : ∀ j, j < 6 → w.cell? ⟨d, j, none⟩ = some (.bool (D j))
  fz : ∀ o, w.frozen? ⟨d, o, none⟩ = false
section
variable {w w' : World} {d : Nat} {D : Nat → Bool}
theorem DAt.lt (h : DAt w d D) : d < w.heap.size := lt_of_cell (h.c 0 (by decide))
theorem DAt.kept (h : DAt w d D) (hb : w'.heap[d]? = w.heap[d]?) : DAt w' d D :=
  ⟨fun j hj => (World.cell?_of_block (w := w) hb).trans (h.c j hj), fun o => (World.frozen?_of_block (w := w) hb).trans (h.fz o)⟩
theorem DAt.below (h : DAt w d D) (hb : Below w.heap.size w w') : DAt w' d D := h.kept (hb.block d h.lt)
theorem DAt.to (h : DAt w d D) {D' : Nat → Bool} (e : ∀ j, j < 6 → D j = D' j) : DAt w d D' := ⟨fun j hj => by rw [← e j hj]; exact h.c j hj, h.fz⟩
theorem DAt.put (h : DAt w d D) (k : Nat) (hk : k < 6) (x : Bool) : DAt (w.setCell ⟨d, k, none⟩ (.bool x)) d (fun j => if j = k then x else D j) :=
  ⟨fun j hj => by
    by_cases e : j = k
    · subst e; rw [if_pos rfl]; exact World.cell?_setCell_same' _ _ _ (by rw [h.c j hj]; rfl)
    · rw [if_neg e]; exact (World.cell?_setCell_other _ _ _ _ (by simp)).trans (h.c j hj), fun o => by rw [World.frozen?_setCell]; exact h.fz o⟩
end
/-- Six by their place. -/
def six (d0 d1 d2 d3 d4 d5 : Bool) (k : Nat) : Bool := match k with | 0 => d0 | 1 => d1 | 2 => d2 | 3 => d3 | 4 => d4 | _ => d5
theorem new_dots (W : World) (d0 d1 d2 d3 d4 d5 : Bool) : DAt (W.alloc (.cells #[.bool d0, .bool d1, .bool d2, .bool d3, .bool d4, .bool d5] 26)) W.heap.size (six d0 d1 d2 d3 d4 d5) := by
  have hh := heap_alloc_new W (.cells #[.bool d0, .bool d1, .bool d2, .bool d3, .bool d4, .bool d5] 26)
  refine ⟨fun j hj => ?_, fun _ => frozen_of_row _ _ _ _ _ hh⟩
  rcases (show j = 0 ∨ j = 1 ∨ j = 2 ∨ j = 3 ∨ j = 4 ∨ j = 5 by omega) with rfl | rfl | rfl | rfl | rfl | rfl <;> exact cell_of_row _ _ _ _ _ _ hh

/-- Are both of a pair there? -/
def both (D : Nat → Bool) (k : Nat) : Bool := D (pA k) && D (pB k)
/-- Which of the first k pairs meet. -/
def mt (D : Nat → Bool) : Nat → Nat
  | 0 => 0
  | k + 1 => if both D k then mt D k + 2 ^ k else mt D k
theorem mt_lt (D : Nat → Bool) : ∀ k, mt D k < 2 ^ k
  | 0 => Nat.one_pos
  | k + 1 => by have := mt_lt D k; unfold mt; rw [Nat.pow_succ]; split <;> omega
theorem or_pow {x k : Nat} (h : x < 2 ^ k) : x ||| 2 ^ k = x + 2 ^ k := by
  have e := Nat.two_pow_add_eq_or_of_lt h 1
  rw [Nat.mul_one] at e
  rw [Nat.or_comm, ← e]; omega

theorem or_is {x k : Nat} (h : x < 2 ^ k) (hk : k < 15) : bits .or .u16 (x : Int) (IntKind.u16.wrap ((2 : Int) ^ k)) = ((x + 2 ^ k : Nat) : Int) := by
  have hp : 2 ^ k ≤ 2 ^ 14 := Nat.pow_le_pow_right (by decide) (by omega)
  have e : (2 : Int) ^ k = ((2 ^ k : Nat) : Int) := by simp
  have hw : IntKind.u16.wrap ((2 : Int) ^ k) = ((2 ^ k : Nat) : Int) := by rw [e, IntKind.wrap_u16]; omega
  rw [hw, u16_or_nat _ _ (by omega) (by omega), or_pow h]

set_option maxRecDepth 100000 in
set_option maxHeartbeats 1000000 in
theorem meetF (a b d : Nat) (D : Nat → Bool) (w : World) (ha : a < 6) (hb : b < 6) (h : DAt w d D) : Calls Tryd.prog 22 #[.agg #[.int .i64 (a : Int), .int .i64 (b : Int)], .pointer (some ⟨d, 0, none⟩)] w fun e w' => e = .returned (.bool (D a && D b)) ∧ Below w.heap.size w w' := by
  have ca := h.c a ha
  have cb := h.c b hb
  have hl := h.lt
  generalize D a = x at *
  generalize D b = y at *
  cases x
  all_goals
    go_enter Tryd.func22, Tryd.ntmps22
    go_wp2
    go_returns
    exact ⟨by simp, by go_grown⟩

set_option maxRecDepth 100000 in
set_option maxHeartbeats 4000000 in
theorem Meet (d0 d1 d2 d3 d4 d5 : Bool) (D : Nat → Bool) (w : World) (hT : Tab w) (hD : six d0 d1 d2 d3 d4 d5 = D) : Calls Tryd.prog 12 #[.agg #[.bool d0, .bool d1, .bool d2, .bool d3, .bool d4, .bool d5]] w fun e w' => e = .returned (.int .u16 (mt D 15 : Int)) ∧ Below w.heap.size w w' := by
  have HA : Hid (DAt (w.alloc (.cells #[.bool d0, .bool d1, .bool d2, .bool d3, .bool d4, .bool d5] 26)) w.heap.size D) := hD ▸ new_dots w d0 d1 d2 d3 d4 d5
  have hB : Below w.heap.size w (w.alloc (.cells #[.bool d0, .bool d1, .bool d2, .bool d3, .bool d4, .bool d5] 26)) := (Below.refl _ w).alloc (Nat.le_refl _) _
  have HB : Hid (Below w.heap.size w (w.alloc (.cells #[.bool d0, .bool d1, .bool d2, .bool d3, .bool d4, .bool d5] 26))) := hB
  have HT : Hid (Tab (w.alloc (.cells #[.bool d0, .bool d1, .bool d2, .bool d3, .bool d4, .bool d5] 26))) := hT.below hB (Nat.le_refl _)
  have hmf : ∀ (fn : Fn) (first cap : Array Value) (w : World), (Instr.makeFunc fn first cap).run Tryd.prog w = .ok (.func fn first cap) w := fun _ _ _ _ => rfl
  clear hT hD hB
  go_enter Tryd.func12, Tryd.ntmps12
  go_wp2
  generalize w.alloc (.cells #[.bool d0, .bool d1, .bool d2, .bool d3, .bool d4, .bool d5] 26) = w1 at *
  obtain ⟨d, hd⟩ : ∃ d, w.heap.size = d := ⟨_, rfl⟩
  rw [hd] at HA HB ⊢
  have HS : Hid (w.heap.size = d) := hd
  clear hd
  go_loopw [4, 7] (fun x y wr => ∃ k : Nat, k ≤ 15 ∧ x = .int .u16 (mt D k : Int) ∧ y = .int .i64 (k : Int) ∧ DAt wr d D ∧ Tab wr ∧ Below d w wr) (fun _ y _ => 16 - (intOf y).toNat)
  case atStart => exact ⟨0, by omega, rfl, rfl, HA.out, HT.out, HB.out⟩
  case round =>
    obtain ⟨k, hk, rfl, rfl, hDr, hTr, hBr⟩ := hrel
    have HD : Hid (DAt wr d D) := hDr
    have HTr : Hid (Tab wr) := hTr
    have HBr : Hid (Below d w wr) := hBr
    clear hDr hTr hBr HA HB HT
    have lm := mt_lt D k
    have lp : 2 ^ k ≤ 2 ^ 15 := Nat.pow_le_pow_right (by decide) hk
    obtain ⟨x, hx⟩ : ∃ x, mt D k = x := ⟨_, rfl⟩
    have HX : Hid (mt D k = x) := hx
    rw [hx] at lm ⊢
    have lx : x < 65536 := by omega
    clear hx
    by_cases hlt : k < 15
    · have c0 := HTr.out.p0 k hlt
      have c1 := HTr.out.p1 k hlt
      have HLT : Hid (pA k < 6 ∧ pB k < 6) := (⟨pA_lt k hlt, pB_lt k hlt⟩ : pA k < 6 ∧ pB k < 6)
      generalize hpa : pA k = a at *
      generalize hpb : pB k = b at *
      have HPP : Hid (pA k = a ∧ pB k = b) := ⟨hpa, hpb⟩
      clear hpa hpb
      go_wp2_with (go_at_call 22; fail)
      refine (meetF a b d D _ HLT.out.1 HLT.out.2 HD.out).mono ?_
      rintro e w2 ⟨rfl, hB2⟩
      have HD2 : Hid (DAt w2 d D) := HD.out.below hB2
      have HT2 : Hid (Tab w2) := HTr.out.below hB2 (Nat.le_refl _)
      have HB2 : Hid (Below d w w2) := HBr.out.trans (hB2.mono (by have := HBr.out.size; have := HS.out; omega))
      have hbo : both D k = (D a && D b) := by unfold both; rw [HPP.out.1, HPP.out.2]
      rw [← hbo]
      clear c0 c1 hB2 HD HTr HBr
      cases hb : both D k
      · have HE : Hid (mt D (k + 1) = x) := (by rw [← HX.out]; unfold mt; rw [hb]; cases k <;> rfl : mt D (k + 1) = x)
        clear hbo hb
        go_wp2
        go_roundw
        case rel => exact ⟨k + 1, by omega, by rw [HE.out], by go_num, HD2.out, HT2.out, HB2.out⟩
        case measure => simp [intOf]; omega
      · have HE : Hid (mt D (k + 1) = x + 2 ^ k) := (by rw [← HX.out]; unfold mt; rw [hb]; cases k <;> rfl : mt D (k + 1) = x + 2 ^ k)
        have HO : Hid (bits .or .u16 (x : Int) (IntKind.u16.wrap ((2 : Int) ^ k)) = ((x + 2 ^ k : Nat) : Int)) := or_is lm hlt
        clear hbo hb
        go_wp2
        go_roundw
        case rel => exact ⟨k + 1, by omega, by rw [HE.out, HO.out], by go_num, HD2.out, HT2.out, HB2.out⟩
        case measure => simp [intOf]; omega
    · obtain rfl : k = 15 := by omega
      go_wp2
      go_returns
      exact ⟨by rw [HX.out]; rfl, by rw [HS.out]; exact HBr.out⟩

end Go.Proofs.YtkondnlilkpdoaaDoor.Fi
