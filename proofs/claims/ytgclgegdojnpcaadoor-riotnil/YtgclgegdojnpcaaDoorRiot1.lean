/- A riot in memory; what its small calls do. -/
import Derived.Test.YtgclgegdojnpcaaDoorRiotM
import Derived.Test.YtgclgegdojnpcaaDoorTimer2
import Derived.Test.YtgclgegdojnpcaaDoorPort1
import Derived.Deep.MidRow
namespace Go.Proofs.YtgclgegdojnpcaaDoor.Ri
open Go.RowKit Po

/-- Where a riot lies. -/
structure Rb where
  b : Nat
  pa : Nat
  pb : Nat
  pt : Nat
  pe : Nat
def Rb.In (B : Rb) (k : Nat) : Prop := k = B.b ∨ k = B.pa ∨ k = B.pb ∨ k = B.pt ∨ k = B.pe
structure Rb.ok (B : Rb) : Prop where
  h1 : B.b ≠ B.pa
  h2 : B.b ≠ B.pb
  h3 : B.b ≠ B.pt
  h4 : B.b ≠ B.pe
  h5 : B.pa ≠ B.pb
  h6 : B.pa ≠ B.pt
  h7 : B.pa ≠ B.pe
  h8 : B.pb ≠ B.pt
  h9 : B.pb ≠ B.pe
  h10 : B.pt ≠ B.pe

/-- Of what there was, only these blocks have turned. -/
structure Rt (B : Rb) (w w' : World) : Prop where
  os : w'.os = w.os
  tape : w'.tape = w.tape
  output : w'.output = w.output
  size : w.heap.size ≤ w'.heap.size
  block : ∀ k, k < w.heap.size → ¬ B.In k → w'.heap[k]? = w.heap[k]?
section
variable {B : Rb} {w w' w'' : World}
theorem Rt.refl (B : Rb) (w : World) : Rt B w w := ⟨rfl, rfl, rfl, Nat.le_refl _, fun _ _ _ => rfl⟩
theorem Rt.trans (h : Rt B w w') (g : Rt B w' w'') : Rt B w w'' := ⟨g.os.trans h.os, g.tape.trans h.tape, g.output.trans h.output, Nat.le_trans h.size g.size, fun i hi hb => (g.block i (Nat.lt_of_lt_of_le hi h.size) hb).trans (h.block i hi hb)⟩
theorem Rt.of_turn {k : Nat} (h : Turn k w w') (hk : B.In k) : Rt B w w' := ⟨h.os, h.tape, h.output, h.size, fun i hi hb => h.block i hi (fun e => hb (e ▸ hk))⟩
theorem Rt.of_below (h : Below w.heap.size w w') : Rt B w w' := ⟨h.os, h.tape, h.output, h.size, fun k hk _ => h.block k hk⟩
theorem Rt.draws (q : Nat) : Rt B w (w.drewN q) := ⟨rfl, rfl, rfl, Nat.le_refl _, fun _ _ _ => rfl⟩
theorem Rt.below {n : Nat} (h : Rt B w w') (hn : ∀ k, B.In k → n ≤ k) (hs : n ≤ w.heap.size) : Below n w w' := ⟨h.os, h.tape, h.output, h.size, fun k hk => h.block k (by omega) (fun hb => by have := hn k hb; omega)⟩
end
theorem Rb.in0 (B : Rb) : B.In B.b := .inl rfl
theorem Rb.in1 (B : Rb) : B.In B.pa := .inr (.inl rfl)
theorem Rb.in2 (B : Rb) : B.In B.pb := .inr (.inr (.inl rfl))
theorem Rb.in3 (B : Rb) : B.In B.pt := .inr (.inr (.inr (.inl rfl)))
theorem Rb.in4 (B : Rb) : B.In B.pe := .inr (.inr (.inr (.inr rfl)))

def bytes (l : List Int) : List Go.Value := l.map fun x => .int .u8 x
theorem bytes_length (l : List Int) : (bytes l).length = l.length := List.length_map ..
theorem bytes_at {l : List Int} {i : Nat} {x : Int} (h : l[i]? = some x) : (bytes l)[i]? = some (.int .u8 x) := by unfold bytes; rw [List.getElem?_map, h]; rfl

/-- A riot lies there. -/
structure RAt (w : World) (B : Rb) (r : Rs) : Prop where
  ram : w.rangeAt B.b 0 (bytes r.ram)
  c0 : w.cell? ⟨B.b, 128, none⟩ = some (.pointer (some ⟨B.pa, 0, none⟩))
  c1 : w.cell? ⟨B.b, 129, none⟩ = some (.pointer (some ⟨B.pb, 0, none⟩))
  c2 : w.cell? ⟨B.b, 130, none⟩ = some (.pointer (some ⟨B.pt, 0, none⟩))
  c3 : w.cell? ⟨B.b, 131, none⟩ = some (.pointer (some ⟨B.pe, 0, none⟩))
  fz : ∀ o, w.frozen? ⟨B.b, o, none⟩ = false
  a : PAt w B.pa r.a
  b : PAt w B.pb r.b
  t : Tm.TAt w B.pt 0 r.t
  e : EAt w B.pe r.e

section
variable {w w' : World} {B : Rb} {r : Rs}
theorem RAt.lt (h : RAt w B r) : B.b < w.heap.size := lt_of_cell h.c0
theorem RAt.lts (h : RAt w B r) : ∀ k, B.In k → k < w.heap.size := fun k hk => by
  rcases hk with e | e | e | e | e
  · exact e ▸ h.lt
  · exact e ▸ h.a.lt
  · exact e ▸ h.b.lt
  · exact e ▸ h.t.lt
  · exact e ▸ h.e.lt
theorem RAt.kept (h : RAt w B r) (hb : ∀ k, B.In k → w'.heap[k]? = w.heap[k]?) : RAt w' B r :=
  have e := hb _ B.in0
  ⟨fun j v hj => (World.cell?_of_block (w := w) e).trans (h.ram j v hj), (World.cell?_of_block (w := w) e).trans h.c0, (World.cell?_of_block (w := w) e).trans h.c1, (World.cell?_of_block (w := w) e).trans h.c2, (World.cell?_of_block (w := w) e).trans h.c3, fun o => (World.frozen?_of_block (w := w) e).trans (h.fz o), h.a.kept (hb _ B.in1), h.b.kept (hb _ B.in2), h.t.kept (hb _ B.in3), h.e.kept (hb _ B.in4)⟩
theorem RAt.below (h : RAt w B r) (hb : Below w.heap.size w w') : RAt w' B r := h.kept fun k hk => hb.block k (h.lts k hk)
theorem RAt.draws (h : RAt w B r) (q : Nat) : RAt (w.drewN q) B r := ⟨h.ram, h.c0, h.c1, h.c2, h.c3, h.fz, h.a.draws q, h.b.draws q, h.t.draws q, h.e.draws q⟩
theorem RAt.apart {C : Rb} (h : RAt w B r) (ht : Rt C w w') (hc : ∀ k, B.In k → ¬ C.In k) : RAt w' B r := h.kept fun k hk => ht.block k (h.lts k hk) (hc k hk)
theorem RAt.turn_a {p : Pt} (h : RAt w B r) (hB : B.ok) (ht : Turn B.pa w w') (hp : PAt w' B.pa p) : RAt w' B ⟨r.ram, p, r.b, r.t, r.e⟩ :=
  have e := ht.block _ h.lt hB.h1
  ⟨fun j v hj => (World.cell?_of_block (w := w) e).trans (h.ram j v hj), (World.cell?_of_block (w := w) e).trans h.c0, (World.cell?_of_block (w := w) e).trans h.c1, (World.cell?_of_block (w := w) e).trans h.c2, (World.cell?_of_block (w := w) e).trans h.c3, fun o => (World.frozen?_of_block (w := w) e).trans (h.fz o), hp, h.b.turn ht (Ne.symm hB.h5), h.t.turn ht (Ne.symm hB.h6), h.e.turn ht (Ne.symm hB.h7)⟩
theorem RAt.turn_b {p : Pt} (h : RAt w B r) (hB : B.ok) (ht : Turn B.pb w w') (hp : PAt w' B.pb p) : RAt w' B ⟨r.ram, r.a, p, r.t, r.e⟩ :=
  have e := ht.block _ h.lt hB.h2
  ⟨fun j v hj => (World.cell?_of_block (w := w) e).trans (h.ram j v hj), (World.cell?_of_block (w := w) e).trans h.c0, (World.cell?_of_block (w := w) e).trans h.c1, (World.cell?_of_block (w := w) e).trans h.c2, (World.cell?_of_block (w := w) e).trans h.c3, fun o => (World.frozen?_of_block (w := w) e).trans (h.fz o), h.a.turn ht hB.h5, hp, h.t.turn ht (Ne.symm hB.h8), h.e.turn ht (Ne.symm hB.h9)⟩
theorem RAt.turn_t {p : Tm.St} (h : RAt w B r) (hB : B.ok) (ht : Turn B.pt w w') (hp : Tm.TAt w' B.pt 0 p) : RAt w' B ⟨r.ram, r.a, r.b, p, r.e⟩ :=
  have e := ht.block _ h.lt hB.h3
  ⟨fun j v hj => (World.cell?_of_block (w := w) e).trans (h.ram j v hj), (World.cell?_of_block (w := w) e).trans h.c0, (World.cell?_of_block (w := w) e).trans h.c1, (World.cell?_of_block (w := w) e).trans h.c2, (World.cell?_of_block (w := w) e).trans h.c3, fun o => (World.frozen?_of_block (w := w) e).trans (h.fz o), h.a.turn ht hB.h6, h.b.turn ht hB.h8, hp, h.e.turn ht (Ne.symm hB.h10)⟩
theorem RAt.turn_e {p : Eg} (h : RAt w B r) (hB : B.ok) (ht : Turn B.pe w w') (hp : EAt w' B.pe p) : RAt w' B ⟨r.ram, r.a, r.b, r.t, p⟩ :=
  have e := ht.block _ h.lt hB.h4
  ⟨fun j v hj => (World.cell?_of_block (w := w) e).trans (h.ram j v hj), (World.cell?_of_block (w := w) e).trans h.c0, (World.cell?_of_block (w := w) e).trans h.c1, (World.cell?_of_block (w := w) e).trans h.c2, (World.cell?_of_block (w := w) e).trans h.c3, fun o => (World.frozen?_of_block (w := w) e).trans (h.fz o), h.a.turn ht hB.h7, h.b.turn ht hB.h9, h.t.turn ht hB.h10, hp⟩
theorem RAt.to {r' : Rs} (h : RAt w B r) (e : r = r') : RAt w B r' := e ▸ h
end

theorem RAt.put {w : World} {B : Rb} {r : Rs} (h : RAt w B r) (hB : B.ok) (hl : r.ram.length = 128) (j : Nat) (v : Int) (hj : j < 128) : RAt (w.setCell ⟨B.b, j, none⟩ (.int .u8 v)) B ⟨r.ram.set j v, r.a, r.b, r.t, r.e⟩ := by
  have ht : Turn B.b w (w.setCell ⟨B.b, j, none⟩ (.int .u8 v)) := (Turn.refl _ _).set _ _
  refine ⟨fun i x hi => ?_, (World.cell?_setCell_other _ _ _ _ (by simp <;> omega)).trans h.c0, (World.cell?_setCell_other _ _ _ _ (by simp <;> omega)).trans h.c1, (World.cell?_setCell_other _ _ _ _ (by simp <;> omega)).trans h.c2, (World.cell?_setCell_other _ _ _ _ (by simp <;> omega)).trans h.c3, fun o => by rw [World.frozen?_setCell]; exact h.fz o, h.a.turn ht (Ne.symm hB.h1), h.b.turn ht (Ne.symm hB.h2), h.t.turn ht (Ne.symm hB.h3), h.e.turn ht (Ne.symm hB.h4)⟩
  have hi' := (List.getElem?_eq_some_iff.1 hi).1
  rw [bytes_length, List.length_set, hl] at hi'
  obtain ⟨y, hy⟩ : ∃ y, r.ram[i]? = some y := ⟨_, List.getElem?_eq_getElem (by omega)⟩
  by_cases hij : i = j
  · subst hij
    simp only [bytes, List.getElem?_map, List.getElem?_set_self (show i < r.ram.length by omega), Option.map_some, Option.some.injEq] at hi
    subst hi
    rw [Nat.zero_add]
    refine World.cell?_setCell_same' _ _ _ ?_
    have := h.ram i _ (bytes_at hy)
    rw [Nat.zero_add] at this
    rw [this]; rfl
  · have e : (bytes r.ram)[i]? = some x := by
      unfold bytes at hi ⊢
      rw [List.getElem?_map, List.getElem?_set_ne (Ne.symm hij)] at hi
      rw [List.getElem?_map]; exact hi
    exact (World.cell?_setCell_other _ _ _ _ (by simp <;> omega)).trans (h.ram i x e)

theorem RAt.cell {w : World} {B : Rb} {r : Rs} (h : RAt w B r) {j : Nat} {x : Int} (hx : r.ram[j]? = some x) : w.cell? ⟨B.b, j, none⟩ = some (.int .u8 x) := by
  have := h.ram j _ (bytes_at hx)
  rwa [Nat.zero_add] at this

set_option maxHeartbeats 1000000 in
theorem portAt_a (B : Rb) (r : Rs) (n : Nat) (w : World) (hn : n ≤ 65535) (hx : n / 2 % 2 = 0) (h : RAt w B r) : Calls Tryd.prog 43 #[.pointer (some ⟨B.b, 0, none⟩), .int .u16 (n : Int)] w fun e w' => e = .returned (.pointer (some ⟨B.pa, 0, none⟩)) ∧ w' = w := by
  obtain ⟨-, h0, h1, -, -, -, -, -, -, -⟩ := h
  have hx1 : (n : Int) / 2 % 2 = 0 := by omega
  clear hx
  go_enter Tryd.func43, Tryd.ntmps43
  go_wp2
  go_returns
  exact ⟨rfl, rfl⟩

set_option maxHeartbeats 1000000 in
theorem portAt_b (B : Rb) (r : Rs) (n : Nat) (w : World) (hn : n ≤ 65535) (hx : n / 2 % 2 = 1) (h : RAt w B r) : Calls Tryd.prog 43 #[.pointer (some ⟨B.b, 0, none⟩), .int .u16 (n : Int)] w fun e w' => e = .returned (.pointer (some ⟨B.pb, 0, none⟩)) ∧ w' = w := by
  obtain ⟨-, h0, h1, -, -, -, -, -, -, -⟩ := h
  have hx1 : (n : Int) / 2 % 2 = 1 := by omega
  clear hx
  go_enter Tryd.func43, Tryd.ntmps43
  go_wp2
  go_returns
  exact ⟨rfl, rfl⟩

set_option maxHeartbeats 1000000 in
theorem load (B : Rb) (r : Rs) (n : Nat) (x : Int) (w : World) (hn : n ≤ 65535) (hx : r.ram[n % 128]? = some x) (h : RAt w B r) : Calls Tryd.prog 48 #[.pointer (some ⟨B.b, 0, none⟩), .int .u16 (n : Int)] w fun e w' => e = .returned (.int .u8 x) ∧ w' = w := by
  have hc := h.cell hx
  obtain ⟨j, hj⟩ : ∃ j, n % 128 = j := ⟨_, rfl⟩
  rw [hj] at hc
  have hj1 : (n : Int) % 128 = (j : Int) := by omega
  have hj2 : j < 128 := by omega
  clear h hx hj
  go_enter Tryd.func48, Tryd.ntmps48
  go_wp2
  go_returns
  exact ⟨rfl, rfl⟩

set_option maxHeartbeats 1000000 in
theorem keep (B : Rb) (r : Rs) (n v : Nat) (w : World) (hB : B.ok) (hn : n ≤ 65535) (hl : r.ram.length = 128) (h : RAt w B r) : Calls Tryd.prog 42 #[.pointer (some ⟨B.b, 0, none⟩), .int .u16 (n : Int), .int .u8 (v : Int)] w fun e w' => e = .returned (.tuple #[]) ∧ RAt w' B ⟨r.ram.set (n % 128) v, r.a, r.b, r.t, r.e⟩ ∧ Rt B w w' := by
  obtain ⟨j, hj⟩ : ∃ j, n % 128 = j := ⟨_, rfl⟩
  obtain ⟨y, hy⟩ : ∃ y, r.ram[j]? = some y := ⟨_, List.getElem?_eq_getElem (by omega)⟩
  have hc := h.cell hy
  have hf := h.fz j
  have hj1 : (n : Int) % 128 = (j : Int) := by omega
  have hj2 : j < 128 := by omega
  have H : Hid (RAt (w.setCell ⟨B.b, j, none⟩ (.int .u8 (v : Int))) B ⟨r.ram.set j v, r.a, r.b, r.t, r.e⟩) := h.put hB hl j v hj2
  rw [hj]
  clear h hj hy
  go_enter Tryd.func42, Tryd.ntmps42
  go_wp2
  go_returns
  exact ⟨rfl, H.out, Rt.of_turn ((Turn.refl B.b w).set _ _) B.in0⟩

end Go.Proofs.YtgclgegdojnpcaaDoor.Ri
