/- What a motion's step does. -/
import Derived.Test.YtkondnlilkpdoaaMot2
import Derived.Deep.MidRow
set_option linter.unusedVariables false
namespace Go.Proofs.Ytkondnlilkpdoaa.Mo
open Go.RowKit

/-- A number without its bit k. -/
def clr (x k : Nat) : Nat := if x.testBit k then x - 2 ^ k else x
theorem clr_lt : ∀ x : Nat, x < 32 → ∀ k : Nat, k < 5 → clr x k < 32 := by decide +kernel
theorem clr_bit : ∀ x : Nat, x < 32 → ∀ k : Nat, k < 5 → ∀ j : Nat, j < 5 → (clr x k).testBit j = (x.testBit j && (j != k)) := by decide +kernel
theorem and_is : ∀ x : Nat, x < 32 → ∀ k : Nat, k < 5 → (bits .and .u8 (x : Int) ((2 ^ k : Nat) : Int) == 0) = !x.testBit k := by decide +kernel
theorem and_0 : ∀ x : Nat, x < 32 → ((x : Int) % 2 == 0) = !x.testBit 0 := by decide +kernel
theorem not_is : ∀ x : Nat, x < 32 → ∀ k : Nat, k < 5 → x.testBit k = true → bits .andNot .u8 (x : Int) ((2 ^ k : Nat) : Int) = (clr x k : Int) := by decide +kernel

/-- Is a thing told to move, that is a bit of v, at the count c? -/
def tl (c v : Nat) (N : Nat → Nat) (k : Nat) : Bool := v.testBit k && !(mvN (N k) == c)
/-- What still moves, when the first k things were asked. -/
def vm (c v : Nat) (N : Nat → Nat) : Nat → Nat
  | 0 => v
  | k + 1 => if v.testBit k && (mvN (N k) == c) then clr (vm c v N k) k else vm c v N k
theorem vm_lt {c v : Nat} {N : Nat → Nat} (hv : v < 32) : ∀ k, k ≤ 5 → vm c v N k < 32
  | 0, _ => hv
  | k + 1, h => by
    unfold vm
    split
    · exact clr_lt _ (vm_lt hv k (by omega)) k (by omega)
    · exact vm_lt hv k (by omega)
theorem vm_bit {c v : Nat} {N : Nat → Nat} (hv : v < 32) : ∀ k, k ≤ 5 → ∀ j, j < 5 → (vm c v N k).testBit j = if j < k then tl c v N j else v.testBit j
  | 0, _, j, _ => by rw [if_neg (by omega)]; rfl
  | k + 1, h, j, hj => by
    have ih := vm_bit (c := c) (N := N) hv k (by omega) j hj
    unfold vm
    by_cases hb : (v.testBit k && (mvN (N k) == c)) = true
    · rw [if_pos hb, clr_bit _ (vm_lt hv k (by omega)) k (by omega) j hj, ih]
      by_cases e : j = k
      · subst e
        rw [if_neg (Nat.lt_irrefl j), if_pos (Nat.lt_succ_self j)]
        unfold tl
        simp at hb ⊢
        simp [hb]
      · by_cases l : j < k
        · rw [if_pos l, if_pos (by omega)]; simp [e]
        · rw [if_neg l, if_neg (by omega)]; simp [e]
    · rw [if_neg hb, ih]
      by_cases e : j = k
      · subst e
        rw [if_neg (Nat.lt_irrefl j), if_pos (Nat.lt_succ_self j)]
        unfold tl
        revert hb
        cases v.testBit j <;> cases (mvN (N j) == c) <;> simp
      · by_cases l : j < k
        · rw [if_pos l, if_pos (by omega)]
        · rw [if_neg l, if_neg (by omega)]

/-- Five answers lie at block t. -/
structure BAt (w : World) (t : Nat) (f : Nat → Bool) : Prop where
  c : ∀ j, j < 5 → w.cell? ⟨t, j, none⟩ = some (.bool (f j))
  fz : ∀ o, w.frozen? ⟨t, o, none⟩ = false
section
variable {w w' : World} {t : Nat} {f : Nat → Bool}
theorem BAt.lt (h : BAt w t f) : t < w.heap.size := lt_of_cell (h.c 0 (by decide))
theorem BAt.kept (h : BAt w t f) (hb : w'.heap[t]? = w.heap[t]?) : BAt w' t f :=
  ⟨fun j hj => (World.cell?_of_block (w := w) hb).trans (h.c j hj), fun o => (World.frozen?_of_block (w := w) hb).trans (h.fz o)⟩
theorem BAt.to (h : BAt w t f) {f' : Nat → Bool} (e : ∀ j, j < 5 → f j = f' j) : BAt w t f' := ⟨fun j hj => by rw [← e j hj]; exact h.c j hj, h.fz⟩
theorem BAt.draws (h : BAt w t f) (q : Nat) : BAt (w.drewN q) t f := ⟨h.c, h.fz⟩
theorem BAt.put (h : BAt w t f) (k : Nat) (hk : k < 5) (x : Bool) : BAt (w.setCell ⟨t, k, none⟩ (.bool x)) t (fun j => if j = k then x else f j) :=
  ⟨fun j hj => by
    by_cases e : j = k
    · subst e; rw [if_pos rfl]; exact World.cell?_setCell_same' _ _ _ (by rw [h.c j hj]; rfl)
    · rw [if_neg e]; exact (World.cell?_setCell_other _ _ _ _ (by simp)).trans (h.c j hj), fun o => by rw [World.frozen?_setCell]; exact h.fz o⟩
theorem BAt.other (h : BAt w t f) (b o : Nat) (v : Value) (hb : t ≠ b) : BAt (w.setCell ⟨b, o, none⟩ v) t f :=
  h.kept (Below.heap_setCell _ _ _ _ hb)
end
theorem MAt.other {w : World} {b c g v : Nat} (h : MAt w b c g v) (t o : Nat) (x : Value) (hb : b ≠ t) : MAt (w.setCell ⟨t, o, none⟩ x) b c g v :=
  h.kept (Below.heap_setCell _ _ _ _ hb)
theorem new_bools (W : World) (a0 a1 a2 a3 a4 : Bool) : BAt (W.alloc (.cells #[.bool a0, .bool a1, .bool a2, .bool a3, .bool a4] 25)) W.heap.size (fun j => match j with | 0 => a0 | 1 => a1 | 2 => a2 | 3 => a3 | _ => a4) := by
  have hh := heap_alloc_new W (.cells #[.bool a0, .bool a1, .bool a2, .bool a3, .bool a4] 25)
  refine ⟨fun j hj => ?_, fun _ => frozen_of_row _ _ _ _ _ hh⟩
  rcases (show j = 0 ∨ j = 1 ∨ j = 2 ∨ j = 3 ∨ j = 4 by omega) with rfl | rfl | rfl | rfl | rfl <;> exact cell_of_row _ _ _ _ _ _ hh

/-- What stays beside a motion: the nibbles, and the box of its pointer. -/
structure Kp (w : World) (b n m : Nat) (N : Nat → Nat) : Prop where
  ns : NAt w n N
  mp : w.cell? ⟨m, 0, none⟩ = some (.pointer (some ⟨b, 0, none⟩))
  nb : n ≠ b
  mb : m ≠ b
section
variable {w w' : World} {b n m : Nat} {N : Nat → Nat}
theorem Kp.nlt (h : Kp w b n m N) : n < w.heap.size := lt_of_cell (h.ns.c 0 (by decide))
theorem Kp.mlt (h : Kp w b n m N) : m < w.heap.size := lt_of_cell h.mp
theorem Kp.kept (h : Kp w b n m N) (hn : w'.heap[n]? = w.heap[n]?) (hm : w'.heap[m]? = w.heap[m]?) : Kp w' b n m N :=
  ⟨⟨fun k hk => (World.cell?_of_block (w := w) hn).trans (h.ns.c k hk), h.ns.l⟩, (World.cell?_of_block (w := w) hm).trans h.mp, h.nb, h.mb⟩
theorem Kp.turn (h : Kp w b n m N) (ht : Turn b w w') : Kp w' b n m N := h.kept (ht.block n h.nlt h.nb) (ht.block m h.mlt h.mb)
end

/-- Two new blocks of five answers. -/
theorem two_new (w : World) : BAt ((w.alloc (.cells #[.bool false, .bool false, .bool false, .bool false, .bool false] 25)).alloc (.cells #[.bool false, .bool false, .bool false, .bool false, .bool false] 25)) w.heap.size (fun _ => false) ∧ BAt ((w.alloc (.cells #[.bool false, .bool false, .bool false, .bool false, .bool false] 25)).alloc (.cells #[.bool false, .bool false, .bool false, .bool false, .bool false] 25)) (w.heap.size + 1) (fun _ => false) ∧ Below w.heap.size w ((w.alloc (.cells #[.bool false, .bool false, .bool false, .bool false, .bool false] 25)).alloc (.cells #[.bool false, .bool false, .bool false, .bool false, .bool false] 25)) := by
  have h1 := new_bools w false false false false false
  have h2 := new_bools (w.alloc (.cells #[.bool false, .bool false, .bool false, .bool false, .bool false] 25)) false false false false false
  rw [show (w.alloc (.cells #[.bool false, .bool false, .bool false, .bool false, .bool false] 25)).heap.size = w.heap.size + 1 by simp] at h2
  have b2 : Below w.heap.size w _ := ((Below.refl _ w).alloc (Nat.le_refl _) (.cells #[.bool false, .bool false, .bool false, .bool false, .bool false] 25)).alloc (by simp) (.cells #[.bool false, .bool false, .bool false, .bool false, .bool false] 25)
  refine ⟨?_, h2.to (fun j hj => by rcases (show j = 0 ∨ j = 1 ∨ j = 2 ∨ j = 3 ∨ j = 4 by omega) with rfl | rfl | rfl | rfl | rfl <;> rfl), b2⟩
  have hb := ((Below.refl _ (w.alloc (.cells #[.bool false, .bool false, .bool false, .bool false, .bool false] 25))).alloc (Nat.le_refl _) (.cells #[.bool false, .bool false, .bool false, .bool false, .bool false] 25)).block w.heap.size (by simp)
  exact (h1.kept hb).to (fun j hj => by rcases (show j = 0 ∨ j = 1 ∨ j = 2 ∨ j = 3 ∨ j = 4 by omega) with rfl | rfl | rfl | rfl | rfl <;> rfl)

/-- The loop's state behind k things. -/
structure St (w0 : World) (b n m c g v r t k : Nat) (N : Nat → Nat) (w : World) : Prop where
  p : MAt w b c g (vm c v N k)
  k5 : Kp w b n m N
  r : BAt w r (fun _ => false)
  t : BAt w t (fun j => decide (j < k) && tl c v N j)
  b : Turn b w0 w
def Far (w0 : World) (b r t : Nat) : Prop := b < w0.heap.size ∧ w0.heap.size ≤ r ∧ w0.heap.size ≤ t ∧ r ≠ t
theorem Turn.newset {b t o : Nat} {w0 w : World} {x : Value} (h : Turn b w0 w) (ht : w0.heap.size ≤ t) : Turn b w0 (w.setCell ⟨t, o, none⟩ x) :=
  ⟨h.os, h.tape, h.output, by simp [World.setCell]; exact h.size, fun k hk hb => (Below.heap_setCell _ _ _ _ (by show k ≠ t; omega)).trans (h.block k hk hb)⟩

end Go.Proofs.Ytkondnlilkpdoaa.Mo
