/- Plain worlds and lists: worlds that differ in little; a ring laid in a row. -/
import Derived.WalkKit
import Derived.RangeFuncFrom
import Derived.RangeFuncLeaves
import Derived.RangeFuncCalls
import Derived.RangeFuncBound
import Derived.Shelf.Abstract
namespace Go.Proofs.Ytgclgegdojnpcaa
open Go.RowKit Go.Shelf

theorem ret_bool {a b : Bool} (h : a = b) : Ending.returned (.bool a) = .returned (.bool b) := by rw [h]
theorem ret_int {k : IntKind} {a b : Int} (h : a = b) : Ending.returned (.int k a) = .returned (.int k b) := by rw [h]

theorem lt_of_cell {w : World} {b o : Nat} {v : Value} (h : w.cell? ⟨b, o, none⟩ = some v) : b < w.heap.size := by
  by_cases hb : b < w.heap.size
  · exact hb
  · simp [World.cell?, Array.getElem?_eq_none (Nat.le_of_not_lt hb)] at h

theorem new_cell (W : World) (v : Value) (t : TypeId) : (W.alloc (.cells #[v] t)).cell? ⟨W.heap.size, 0, none⟩ = some v ∧ (W.alloc (.cells #[v] t)).frozen? ⟨W.heap.size, 0, none⟩ = false := by
  have h : (W.alloc (.cells #[v] t)).heap[W.heap.size]? = some (.cells #[v] t (0, 0)) := World.alloc_heap_new W _
  exact ⟨cell_of_one h, free_of_one h⟩
theorem old_cell {W : World} {a : Addr} {v : Value} (o : Obj) (h : W.cell? a = some v) : (W.alloc o).cell? a = some v := cell_kept h (World.grownBy_alloc W o none) (fun r e => by cases e)
theorem old_frozen {W : World} {a : Addr} {v : Value} (o : Obj) (h : W.cell? a = some v) (hf : W.frozen? a = false) : (W.alloc o).frozen? a = false := (frozen_kept h (World.grownBy_alloc W o none) (fun r e => by cases e)).trans hf

/-- Of what there was, only block b and the block of v have turned. -/
structure Part (b : Nat) (v : Value) (w w' : World) : Prop where
  os : w'.os = w.os
  tape : w'.tape = w.tape
  output : w'.output = w.output
  size : w.heap.size ≤ w'.heap.size
  block : ∀ k, k < w.heap.size → k ≠ b → some k ≠ v.ownBlock → w'.heap[k]? = w.heap[k]?

theorem Part.below {b n : Nat} {v : Value} {w w' : World} (h : Part b v w w') (hb : n ≤ b) (hs : n ≤ w.heap.size) (hv : ∀ k, v.ownBlock = some k → n ≤ k) : Below n w w' :=
  ⟨h.os, h.tape, h.output, h.size, fun k hk => h.block k (by omega) (by omega) (fun e => by have := hv k e.symm; omega)⟩
theorem Part.cell {b c o : Nat} {v : Value} {w w' : World} (h : Part b v w w') (hc : c < w.heap.size) (hb : c ≠ b) (hv : some c ≠ v.ownBlock) : w'.cell? ⟨c, o, none⟩ = w.cell? ⟨c, o, none⟩ := World.cell?_of_block (w := w) (h.block c hc hb hv)
theorem Part.fz {b c o : Nat} {v : Value} {w w' : World} (h : Part b v w w') (hc : c < w.heap.size) (hb : c ≠ b) (hv : some c ≠ v.ownBlock) : w'.frozen? ⟨c, o, none⟩ = w.frozen? ⟨c, o, none⟩ := World.frozen?_of_block (w := w) (h.block c hc hb hv)
theorem Part.of_below {b : Nat} {v : Value} {w w' : World} (h : Below w.heap.size w w') : Part b v w w' := ⟨h.os, h.tape, h.output, h.size, fun k hk _ _ => h.block k hk⟩

/-- What is owned now was owned before, or is new. -/
def Newer (w : World) (v v' : Value) : Prop := v'.ownBlock = v.ownBlock ∨ ∃ k, v'.ownBlock = some k ∧ w.heap.size ≤ k
theorem Newer.ne {w : World} {v v' : Value} {c : Nat} (h : Newer w v v') (hv : some c ≠ v.ownBlock) (hc : c < w.heap.size) : some c ≠ v'.ownBlock := by
  rcases h with h | ⟨k, h, hk⟩
  · rw [h]; exact hv
  · rw [h]; intro e; injection e; omega
theorem Newer.ge {w : World} {v v' : Value} {n : Nat} (h : Newer w v v') (hv : ∀ k, v.ownBlock = some k → n ≤ k) (hn : n ≤ w.heap.size) : ∀ k, v'.ownBlock = some k → n ≤ k := by
  rcases h with h | ⟨k, h, hk⟩
  · rw [h]; exact hv
  · rw [h]; intro j e; injection e; omega

/-! ### A ring laid in a row -/

/-- A ring with so much room, whose eldest stands at e, holds L in the row xs. -/
structure Lay {α : Type} (e room : Nat) (xs L : List α) : Prop where
  e1 : e < room
  i1 : L.length ≤ xs.length
  n1 : xs.length ≤ room
  full : e ≠ 0 → xs.length = room
  at_ : ∀ i, i < L.length → xs[(e + i) % room]? = L[i]?

theorem mod_two {a room : Nat} (h : a < 2 * room) : a % room = if a < room then a else a - room := by
  split
  · exact Nat.mod_eq_of_lt ‹_›
  · rw [Nat.mod_eq_sub_mod (by omega)]; exact Nat.mod_eq_of_lt (by omega)

section
variable {α : Type} {e room : Nat} {xs L : List α}

theorem Lay.nil (h : 1 ≤ room) : Lay 0 room ([] : List α) [] := ⟨by omega, by simp, by simp, fun h => absurd rfl h, fun i hi => by simp at hi⟩

theorem Lay.spot (h : Lay e room xs L) {i : Nat} (hi : i < L.length) : (e + i) % room < xs.length := by
  have a := h.at_ i hi
  rw [List.getElem?_eq_getElem hi] at a
  exact (List.getElem?_eq_some_iff.1 a).1

theorem Lay.fullAt {y : α} {L : List α} (h : Lay e room xs (y :: L)) : xs[e]? = some y := by
  have a := h.at_ 0 (by simp)
  rw [Nat.add_zero, Nat.mod_eq_of_lt h.e1] at a
  simpa using a

theorem Lay.fullPut {y : α} {L : List α} (h : Lay e room xs (y :: L)) (hl : (y :: L).length = room) (x : α) : Lay ((e + 1) % room) room (xs.set e x) (L ++ [x]) := by
  have h1 := h.e1
  have h2 := h.i1
  have h3 := h.n1
  simp only [List.length_cons] at hl h2
  have hm : (e + 1) % room = if e + 1 < room then e + 1 else 0 := by
    rw [mod_two (by omega)]; split <;> omega
  refine ⟨Nat.mod_lt _ (by omega), by simp; omega, by simpa using h3, fun _ => by simp; omega, fun i hi => ?_⟩
  simp only [List.length_append, List.length_cons, List.length_nil] at hi
  have e1 : ((e + 1) % room + i) % room = if e + (i + 1) < room then e + (i + 1) else e + (i + 1) - room := by
    rw [hm]
    split
    · rw [mod_two (by omega)]; split <;> split <;> omega
    · rw [mod_two (by omega)]; split <;> split <;> omega
  have e2 : (e + (i + 1)) % room = if e + (i + 1) < room then e + (i + 1) else e + (i + 1) - room := mod_two (by omega)
  rw [e1, ← e2]
  by_cases hi' : i < L.length
  · have a := h.at_ (i + 1) (by simp; omega)
    rw [List.getElem?_set_ne (by rw [e2]; split <;> omega), a, List.getElem?_append_left hi']
    simp
  · have : i = L.length := by omega
    subst this
    have e3 : (e + (L.length + 1)) % room = e := by rw [e2]; split <;> omega
    rw [e3, List.getElem?_set_self (by omega), List.getElem?_append_right (Nat.le_refl _)]
    simp

theorem Lay.store (h : Lay e room xs L) (hl : L.length < room) (hs : (e + L.length) % room < xs.length) (x : α) : Lay e room (xs.set ((e + L.length) % room) x) (L ++ [x]) := by
  have h1 := h.e1
  have h2 := h.i1
  have h3 := h.n1
  have e0 : (e + L.length) % room = if e + L.length < room then e + L.length else e + L.length - room := mod_two (by omega)
  refine ⟨h1, ?_, by simpa using h3, fun he => by simpa using h.full he, fun i hi => ?_⟩
  · simp only [List.length_append, List.length_set, List.length_cons, List.length_nil]
    by_cases he : e = 0
    · subst he; rw [Nat.zero_add, Nat.mod_eq_of_lt hl] at hs; omega
    · have := h.full he; omega
  · simp only [List.length_append, List.length_cons, List.length_nil] at hi
    by_cases hi' : i < L.length
    · have ei : (e + i) % room = if e + i < room then e + i else e + i - room := mod_two (by omega)
      rw [List.getElem?_set_ne (by rw [ei, e0]; split <;> split <;> omega), h.at_ i hi', List.getElem?_append_left hi']
    · have : i = L.length := by omega
      subst this
      rw [List.getElem?_set_self hs, List.getElem?_append_right (Nat.le_refl _)]
      simp

theorem Lay.push (h : Lay e room xs L) (hl : L.length < room) (hs : xs.length ≤ (e + L.length) % room) (x : α) : Lay e room (xs ++ [x]) (L ++ [x]) := by
  have h1 := h.e1
  have h2 := h.i1
  have h3 := h.n1
  have hm : (e + L.length) % room < room := Nat.mod_lt _ (by omega)
  have he : e = 0 := by
    by_cases he : e = 0
    · exact he
    · have := h.full he; omega
  subst he
  rw [Nat.zero_add, Nat.mod_eq_of_lt hl] at hs
  refine ⟨h1, by simp; omega, by simp; omega, fun he => absurd rfl he, fun i hi => ?_⟩
  simp only [List.length_append, List.length_cons, List.length_nil] at hi
  rw [Nat.zero_add, Nat.mod_eq_of_lt (by omega)]
  by_cases hi' : i < L.length
  · have a := h.at_ i hi'
    rw [Nat.zero_add, Nat.mod_eq_of_lt (by omega)] at a
    rw [List.getElem?_append_left (by omega), a, List.getElem?_append_left hi']
  · have : i = L.length := by omega
    subst this
    have hxl : xs.length = L.length := by omega
    rw [List.getElem?_append_right (by omega), List.getElem?_append_right (Nat.le_refl _), hxl]

theorem Lay.last {y : α} (h : Lay e room xs (L ++ [y])) : xs[(e + L.length) % room]? = some y := by
  have a := h.at_ L.length (by simp)
  rw [a, List.getElem?_append_right (Nat.le_refl _)]
  simp

theorem Lay.pop {y : α} (h : Lay e room xs (L ++ [y])) (z : α) : Lay e room (xs.set ((e + L.length) % room) z) L := by
  have h1 := h.e1
  have h2 := h.i1
  have h3 := h.n1
  simp only [List.length_append, List.length_cons, List.length_nil] at h2
  have e0 : (e + L.length) % room = if e + L.length < room then e + L.length else e + L.length - room := mod_two (by omega)
  refine ⟨h1, by simp; omega, by simpa using h3, fun he => by simpa using h.full he, fun i hi => ?_⟩
  have ei : (e + i) % room = if e + i < room then e + i else e + i - room := mod_two (by omega)
  have a := h.at_ i (by simp; omega)
  rw [List.getElem?_append_left hi] at a
  rw [List.getElem?_set_ne (by rw [ei, e0]; split <;> split <;> omega), a]

end

end Go.Proofs.Ytgclgegdojnpcaa
