/- What the laws of a motion's acts stand on. -/
import Derived.Test.YtkondnlilkpdoaaMot7
import Derived.Test.YtkondnlilkpdoaaAwakeM
import Derived.Test.YtkondnlilkpdoaaMotionNilWalk
import Derived.Test.YtkondnlilkpdoaaSeenX
import Derived.Deep.DeepCutAuto
set_option linter.unusedVariables false
namespace Go.Proofs.Ytkondnlilkpdoaa.Mo
open Go.RowKit

/-- An act. -/
structure Act where
  kind : Int
  clock : Int
  n0 : Nat
  n1 : Nat
  n2 : Nat
  n3 : Nat
  n4 : Nat
  x : Int
  y : Int
  z : Int
def Act.row (a : Act) : List Go.Value := [.int .i64 a.kind, .int .i64 a.clock, .int .u8 (a.n0 : Int), .int .u8 (a.n1 : Int), .int .u8 (a.n2 : Int), .int .u8 (a.n3 : Int), .int .u8 (a.n4 : Int), .int .i64 a.x, .int .i64 a.y, .int .i64 a.z]
def Act.ok (a : Act) : Prop := (-9223372036854775808 ≤ a.kind ∧ a.kind ≤ 9223372036854775807) ∧ (-9223372036854775808 ≤ a.clock ∧ a.clock ≤ 9223372036854775807) ∧ a.n0 < 256 ∧ a.n1 < 256 ∧ a.n2 < 256 ∧ a.n3 < 256 ∧ a.n4 < 256
def Act.N (a : Act) : Nat → Nat := five a.n0 a.n1 a.n2 a.n3 a.n4

theorem kind5 {k r : Int} (h : k.tmod 5 = r) : -4 ≤ r ∧ r ≤ 4 := by
  subst h
  rcases Int.le_total 0 k with h | h
  · have := Int.tmod_eq_emod_of_nonneg (b := 5) h; omega
  · have : k.tmod 5 = -((-k).tmod 5) := by rw [Int.neg_tmod]; omega
    have e := Int.tmod_eq_emod_of_nonneg (a := -k) (b := 5) (by omega)
    omega

theorem right_is (c g v : Nat) : rightB c g v = true ↔ (c = 16 ∧ g = 0 ∧ v = 0) ∨ (c < 16 ∧ g ≤ 3 ∧ v ≤ 31) := by
  unfold rightB
  by_cases h : c = 16
  · subst h; simp
  · rw [if_neg (by omega)]
    unfold wi
    simp
    omega
theorem right_step {c g v : Nat} (h : rightB c g v = true) (k : Int) (N : Nat → Nat) : rightB (sC c g k : Nat) (sG c g k : Nat) (sV c g v k N : Nat) = true := by
  rw [right_is] at h ⊢
  rcases h with ⟨rfl, rfl, rfl⟩ | ⟨h1, h2, h3⟩
  · exact .inl ⟨rfl, rfl, rfl⟩
  have h16 : c ≠ 16 := by omega
  unfold sC sG sV
  simp only [if_neg h16]
  by_cases hg : g < 3
  · simp only [if_pos hg]
    exact .inr ⟨h1, by omega, h3⟩
  simp only [if_neg hg]
  by_cases h4 : k.tmod 4 = 0
  · simp only [h4, ne_eq, not_true, if_false]
    by_cases h15 : c = 15
    · subst h15
      exact .inl ⟨rfl, rfl, rfl⟩
    · simp only [if_neg h15]
      have := vm_lt (c := c) (N := N) (show v < 32 by omega) 5 (by decide)
      exact .inr ⟨by omega, h2, by omega⟩
  · simp only [ne_eq, h4, not_false_eq_true, if_true]
    exact .inr ⟨h1, h2, h3⟩

/-- A motion that may be; nothing old turned. -/
structure Mc (W : World) (b c g v : Nat) (w : World) : Prop where
  p : MAt w b c g v
  rt : rightB c g v = true
  old : Below W.heap.size W w
  lo : W.heap.size ≤ b
section
variable {W w w' : World} {b c g v : Nat}
theorem Mc.turn {c' g' v' : Nat} (h : Mc W b c g v w) (ht : Turn b w w') (hp : MAt w' b c' g' v') (hr : rightB c' g' v' = true) : Mc W b c' g' v' w' := ⟨hp, hr, m_back h.lo h.old ht, h.lo⟩
theorem Mc.below (h : Mc W b c g v w) (hb : Below w.heap.size w w') : Mc W b c g v w' := ⟨h.p.below hb, h.rt, b_keep h.old hb, h.lo⟩
theorem Mc.draws (h : Mc W b c g v w) (q : Nat) : Mc W b c g v (w.drewN q) := ⟨h.p.draws q, h.rt, below_drewN h.old q, h.lo⟩
end
theorem mc_new {W w : World} {b : Nat} (h : MAt w b 16 0 0) (hb : W.heap.size ≤ b) (hB : Below W.heap.size W w) : Mc W b 16 0 0 w := ⟨h, by decide, hB, hb⟩

/-- Set, whatever comes. -/
theorem Set_any (b c g v : Nat) (x y z : Int) (w : World) (hr : rightB c g v = true) (h : MAt w b c g v) : Calls Try.prog 13 #[.pointer (some ⟨b, 0, none⟩), .agg #[.int .i64 x, .int .i64 y, .int .i64 z]] w fun e w' => ∃ c' g' v' : Nat, e = .returned (.int .i64 (if rightB x y z then 0 else 6)) ∧ MAt w' b c' g' v' ∧ rightB c' g' v' = true ∧ Turn b w w' ∧ (if rightB x y z then (x = c' ∧ y = g' ∧ z = v') else (c' = c ∧ g' = g ∧ v' = v)) := by
  cases hn : rightB x y z
  · exact (Set_no b c g v x y z w hn h).mono fun e w' ⟨he, hB⟩ => ⟨c, g, v, by simpa using he, h.below hB, hr, Turn.of_below hB, by simp⟩
  · have hq := right_nat hn
    obtain ⟨x, rfl⟩ := Int.eq_ofNat_of_zero_le hq.1
    obtain ⟨y, rfl⟩ := Int.eq_ofNat_of_zero_le hq.2.2.1
    obtain ⟨z, rfl⟩ := Int.eq_ofNat_of_zero_le hq.2.2.2.2.1
    exact (Set_yes b c g v x y z w hn h).mono fun e w' ⟨he, hp, ht⟩ => ⟨x, y, z, by simpa using he, hp, hn, ht, by simp⟩

/-- Boxes of five answers, among other blocks. -/
theorem BAt.below {w w' : World} {t : Nat} {f : Nat → Bool} (h : BAt w t f) (hb : Below w.heap.size w w') : BAt w' t f := h.kept (hb.block t h.lt)
theorem BAt.alloc {w : World} {t : Nat} {f : Nat → Bool} (h : BAt w t f) (o : Obj) : BAt (w.alloc o) t f := h.below ((Below.refl _ w).alloc (Nat.le_refl _) o)
theorem new_at {W : World} {t : Nat} {f : Nat → Bool} (ht : t = W.heap.size) : BAt (W.alloc (.cells #[.bool (f 0), .bool (f 1), .bool (f 2), .bool (f 3), .bool (f 4)] 25)) t f := by
  subst ht
  exact (new_bools W _ _ _ _ _).to (fun j hj => by rcases (show j = 0 ∨ j = 1 ∨ j = 2 ∨ j = 3 ∨ j = 4 by omega) with rfl | rfl | rfl | rfl | rfl <;> rfl)
theorem zero_at {W : World} {t : Nat} (ht : t = W.heap.size) : BAt (W.alloc (.cells #[.bool false, .bool false, .bool false, .bool false, .bool false] 25)) t (fun _ => false) := new_at (f := fun _ => false) ht
theorem p5_other {w : World} {t r : Nat} {f : Nat → Bool} (h : BAt w t f) (hn : t ≠ r) (x0 x1 x2 x3 x4 : Value) : BAt (((((w.setCell ⟨r, 0, none⟩ x0).setCell ⟨r, 1, none⟩ x1).setCell ⟨r, 2, none⟩ x2).setCell ⟨r, 3, none⟩ x3).setCell ⟨r, 4, none⟩ x4) t f :=
  ((((h.other r 0 _ hn).other r 1 _ hn).other r 2 _ hn).other r 3 _ hn).other r 4 _ hn

end Go.Proofs.Ytkondnlilkpdoaa.Mo
