/- What the calls of a grid of int do: one contract a function. -/
import Derived.Test.YtneapdegjofodaaRingInt
import Derived.Lib.SmallJoins
import Derived.Laws.CopyOwn
namespace Go.Proofs.Ytneapdegjofodaa.Grid
open Go.RowKit

theorem infoInt : (Try.prog.info? 3).map (fun i => (i.zero, i.size, i.bytes)) = some (some (.int .i64 0), 1, 8) := by kernel_rfl

/-- A grid of W columns and H rows lies at block b, its things f in block g. -/
structure GAt (w : World) (b g W H N : Nat) (f : List Int) : Prop where
  ob : w.heap[b]? = some (.cells #[.slice (some ⟨g, 0, none⟩) N N, .int .i64 (W : Int), .int .i64 (H : Int)] 82 (0, 0))
  row : w.heap[g]? = some (.cells (f.map fun x => .int .i64 x).toArray 3 (0, 0))
  len : f.length = N
  n : N = H * W
  w1 : 1 ≤ W
  w2 : W ≤ 1024
  h1 : 1 ≤ H
  h2 : H ≤ 1024

theorem GAt.kept {w w' : World} {b g W H N : Nat} {f : List Int} (h : GAt w b g W H N f) (hb : w'.heap[b]? = w.heap[b]?) (hg : w'.heap[g]? = w.heap[g]?) : GAt w' b g W H N f := ⟨hb.trans h.ob, hg.trans h.row, h.len, h.n, h.w1, h.w2, h.h1, h.h2⟩
theorem GAt.lt {w : World} {b g W H N : Nat} {f : List Int} (h : GAt w b g W H N f) : b < w.heap.size ∧ g < w.heap.size := ⟨(Array.getElem?_eq_some_iff.1 h.ob).1, (Array.getElem?_eq_some_iff.1 h.row).1⟩
theorem GAt.below {w w' : World} {b g W H N : Nat} {f : List Int} (h : GAt w b g W H N f) (hb : Below w.heap.size w w') : GAt w' b g W H N f := h.kept (hb.block b h.lt.1) (hb.block g h.lt.2)
theorem GAt.draws {w : World} {b g W H N : Nat} {f : List Int} (h : GAt w b g W H N f) (q : Nat) : GAt (w.drewN q) b g W H N f := ⟨h.ob, h.row, h.len, h.n, h.w1, h.w2, h.h1, h.h2⟩
theorem GAt.ne {w : World} {b g W H N : Nat} {f : List Int} (h : GAt w b g W H N f) : b ≠ g := fun e => by
  have a := h.ob
  rw [e, h.row] at a
  injection a with a; injection a with _ a2; exact absurd a2 (by decide)
theorem GAt.cells {w : World} {b g W H N : Nat} {f : List Int} (h : GAt w b g W H N f) : w.cell? ⟨b, 0, none⟩ = some (.slice (some ⟨g, 0, none⟩) N N) ∧ w.cell? ⟨b, 1, none⟩ = some (.int .i64 (W : Int)) ∧ w.cell? ⟨b, 2, none⟩ = some (.int .i64 (H : Int)) :=
  ⟨cell_of_row _ _ _ _ _ _ h.ob, cell_of_row _ _ _ _ _ _ h.ob, cell_of_row _ _ _ _ _ _ h.ob⟩
theorem GAt.at_ {w : World} {b g W H N : Nat} {f : List Int} (h : GAt w b g W H N f) {i : Nat} {x : Int} (hi : f[i]? = some x) : w.cell? ⟨g, i, none⟩ = some (.int .i64 x) ∧ w.frozen? ⟨g, i, none⟩ = false := by
  refine ⟨?_, frozen_of_row _ _ _ _ _ h.row⟩
  rw [Joins.cell_of_block h.row i]
  simp [hi]
theorem GAt.set {w : World} {b g W H N : Nat} {f : List Int} (h : GAt w b g W H N f) (i : Nat) (x : Int) : GAt (w.setCell ⟨g, i, none⟩ (.int .i64 x)) b g W H N (f.set i x) := by
  refine ⟨(Below.heap_setCell _ _ _ _ h.ne).trans h.ob, ?_, by rw [List.length_set]; exact h.len, h.n, h.w1, h.w2, h.h1, h.h2⟩
  rw [Joins.block_setCell h.row, List.map_set]
  congr 2
  simp

theorem small {a c A C : Nat} (h1 : a ≤ A) (h2 : c ≤ C) : a * c ≤ A * C := Nat.mul_le_mul h1 h2

/-- Where a place stands. -/
theorem spot_lt {W H x y : Nat} (hx : x < W) (hy : y < H) : y * W + x < H * W := by
  have : (y + 1) * W ≤ H * W := Nat.mul_le_mul_right W hy
  rw [Nat.add_mul] at this
  omega

set_option maxRecDepth 100000 in
set_option maxHeartbeats 400000 in
theorem place_yes (b g W H N x y : Nat) (f : List Int) (w : World) (h : GAt w b g W H N f) (hx : x < W) (hy : y < H) :
    Calls Try.prog 34 #[.pointer (some ⟨b, 0, none⟩), .int .i64 (x : Int), .int .i64 (y : Int)] w fun e w' => e = .returned (.tuple #[.int .i64 ((y * W + x : Nat) : Int), .int .i64 0]) ∧ w' = w := by
  obtain ⟨c0, c1, c2⟩ := h.cells
  have w2 := h.w2
  have h2 := h.h2
  obtain ⟨q, hq⟩ : ∃ q, q = y * W := ⟨_, rfl⟩
  have hq2 : q ≤ 1048576 := by rw [hq]; exact small (A := 1024) (C := 1024) (by omega) w2
  have hqi : (y : Int) * (W : Int) = (q : Int) := by rw [hq]; simp
  have HQ : Hid (((y * W + x : Nat) : Int) = (q : Int) + (x : Int)) := by show _ = _; rw [hq]; simp
  have a1 : (x : Int) < (W : Int) := by omega
  have a2 : (y : Int) < (H : Int) := by omega
  have a3 : (0 : Int) ≤ (x : Int) := by omega
  have a4 : (0 : Int) ≤ (y : Int) := by omega
  rw [HQ.out]
  clear h hq
  go_enter Try.func34, Try.ntmps34
  go_wp2
  go_ret2
  exact ⟨rfl, rfl⟩

set_option maxRecDepth 100000 in
set_option maxHeartbeats 1000000 in
theorem place_no (b g W H N : Nat) (x y : Int) (f : List Int) (w : World) (h : GAt w b g W H N f) (hn : ¬ (0 ≤ x ∧ x < W ∧ 0 ≤ y ∧ y < H)) :
    Calls Try.prog 34 #[.pointer (some ⟨b, 0, none⟩), .int .i64 x, .int .i64 y] w fun e w' => e = .returned (.tuple #[.int .i64 0, .int .i64 6]) ∧ w' = w := by
  obtain ⟨c0, c1, c2⟩ := h.cells
  clear h
  by_cases h1 : x < 0
  · go_enter Try.func34, Try.ntmps34
    go_wp2
    go_ret2
    exact ⟨rfl, rfl⟩
  · have h1' : 0 ≤ x := by omega
    by_cases h2 : (W : Int) ≤ x
    · go_enter Try.func34, Try.ntmps34
      go_wp2
      go_ret2
      exact ⟨rfl, rfl⟩
    · have h2' : x < (W : Int) := by omega
      by_cases h3 : y < 0
      · go_enter Try.func34, Try.ntmps34
        go_wp2
        go_ret2
        exact ⟨rfl, rfl⟩
      · have h3' : 0 ≤ y := by omega
        have h4 : (H : Int) ≤ y := by omega
        clear hn
        go_enter Try.func34, Try.ntmps34
        go_wp2
        go_ret2
        exact ⟨rfl, rfl⟩

set_option maxRecDepth 100000 in
set_option maxHeartbeats 400000 in
theorem place_nil (x y : Int) (w : World) :
    Calls Try.prog 34 #[.pointer none, .int .i64 x, .int .i64 y] w fun e w' => e = .returned (.tuple #[.int .i64 0, .int .i64 1]) ∧ w' = w := by
  go_enter Try.func34, Try.ntmps34
  go_wp2
  go_ret2
  exact ⟨rfl, rfl⟩

set_option maxRecDepth 100000 in
set_option maxHeartbeats 400000 in
theorem Size (b g W H N : Nat) (f : List Int) (w : World) (h : GAt w b g W H N f) :
    Calls Try.prog 19 #[.pointer (some ⟨b, 0, none⟩)] w fun e w' => e = .returned (.tuple #[.int .i64 (W : Int), .int .i64 (H : Int)]) ∧ ∃ q, w' = w.drewN q := by
  obtain ⟨c0, c1, c2⟩ := h.cells
  clear h
  go_enter Try.func19, Try.ntmps19
  go_wp2
  go_quiet (fail)
  go_wp2
  go_ret2
  exact ⟨rfl, _, rfl⟩

set_option maxRecDepth 100000 in
set_option maxHeartbeats 400000 in
theorem Size_nil (w : World) : Calls Try.prog 19 #[.pointer none] w fun e w' => e = .returned (.tuple #[.int .i64 0, .int .i64 0]) ∧ w' = w := by
  go_enter Try.func19, Try.ntmps19
  go_wp2
  go_ret2
  exact ⟨rfl, rfl⟩

set_option maxRecDepth 100000 in
set_option maxHeartbeats 400000 in
theorem Get_yes (b g W H N x y i : Nat) (v : Int) (f : List Int) (w : World) (h : GAt w b g W H N f) (hx : x < W) (hy : y < H) (hi : i = y * W + x) (hv : f[i]? = some v) :
    Calls Try.prog 20 #[.pointer (some ⟨b, 0, none⟩), .int .i64 (x : Int), .int .i64 (y : Int)] w fun e w' => e = .returned (.tuple #[.int .i64 v, .int .i64 0]) ∧ w' = w := by
  obtain ⟨c0, c1, c2⟩ := h.cells
  obtain ⟨ci, _⟩ := h.at_ hv
  have HG : Hid (GAt w b g W H N f) := h
  have HI : Hid (((y * W + x : Nat) : Int) = (i : Int)) := by show _ = _; rw [hi]
  have hiN : i < N := by rw [← h.len]; exact (List.getElem?_eq_some_iff.1 hv).1
  have i0 : (0 : Int) ≤ (i : Int) := by omega
  have i1 : (i : Int) < (N : Int) := by omega
  clear h hi hv
  go_enter Try.func20, Try.ntmps20
  go_wp2_with (go_at_call 34; refine (place_yes b g W H N x y f _ HG.out hx hy).mono ?_; rintro e w' ⟨rfl, hw⟩; subst w'; rw [HI.out])
  go_ret2
  exact ⟨rfl, rfl⟩

set_option maxRecDepth 100000 in
set_option maxHeartbeats 400000 in
theorem Get_no (b g W H N : Nat) (x y : Int) (f : List Int) (w : World) (h : GAt w b g W H N f) (hn : ¬ (0 ≤ x ∧ x < W ∧ 0 ≤ y ∧ y < H)) :
    Calls Try.prog 20 #[.pointer (some ⟨b, 0, none⟩), .int .i64 x, .int .i64 y] w fun e w' => e = .returned (.tuple #[.int .i64 0, .int .i64 6]) ∧ w' = w := by
  have HG : Hid (GAt w b g W H N f) := h
  have HN : Hid (¬ (0 ≤ x ∧ x < W ∧ 0 ≤ y ∧ y < H)) := hn
  clear h hn
  go_enter Try.func20, Try.ntmps20
  go_wp2_with (first
    | (go_at_call 34; refine (place_no b g W H N x y f _ HG.out HN.out).mono ?_; rintro e w' ⟨rfl, hw⟩; subst w')
    | (go_at_call 27; refine (RingInt.zero _).mono ?_; rintro e w' ⟨rfl, hw⟩; subst w'))
  go_ret2
  exact ⟨rfl, rfl⟩

set_option maxRecDepth 100000 in
set_option maxHeartbeats 400000 in
theorem Get_nil (x y : Int) (w : World) :
    Calls Try.prog 20 #[.pointer none, .int .i64 x, .int .i64 y] w fun e w' => e = .returned (.tuple #[.int .i64 0, .int .i64 1]) ∧ w' = w := by
  go_enter Try.func20, Try.ntmps20
  go_wp2_with (first
    | (go_at_call 34; refine (place_nil x y _).mono ?_; rintro e w' ⟨rfl, hw⟩; subst w')
    | (go_at_call 27; refine (RingInt.zero _).mono ?_; rintro e w' ⟨rfl, hw⟩; subst w'))
  go_ret2
  exact ⟨rfl, rfl⟩

set_option maxRecDepth 100000 in
set_option maxHeartbeats 400000 in
theorem Set_yes (b g W H N x y i : Nat) (v : Int) (f : List Int) (w : World) (h : GAt w b g W H N f) (hx : x < W) (hy : y < H) (hi : i = y * W + x) :
    Calls Try.prog 21 #[.pointer (some ⟨b, 0, none⟩), .int .i64 (x : Int), .int .i64 (y : Int), .int .i64 v] w fun e w' => e = .returned (.int .i64 0) ∧ w' = w.setCell ⟨g, i, none⟩ (.int .i64 v) := by
  obtain ⟨c0, c1, c2⟩ := h.cells
  have hiN : i < N := by rw [h.n, hi]; exact spot_lt hx hy
  obtain ⟨u, hu⟩ : ∃ u, f[i]? = some u := ⟨_, List.getElem?_eq_getElem (by rw [h.len]; exact hiN)⟩
  obtain ⟨ci, fi⟩ := h.at_ hu
  have HG : Hid (GAt w b g W H N f) := h
  have HI : Hid (((y * W + x : Nat) : Int) = (i : Int)) := by show _ = _; rw [hi]
  have i0 : (0 : Int) ≤ (i : Int) := by omega
  have i1 : (i : Int) < (N : Int) := by omega
  clear h hi hu
  go_enter Try.func21, Try.ntmps21
  go_wp2_with (go_at_call 34; refine (place_yes b g W H N x y f _ HG.out hx hy).mono ?_; rintro e w' ⟨rfl, hw⟩; subst w'; rw [HI.out])
  go_ret
  exact ⟨rfl, rfl⟩

set_option maxRecDepth 100000 in
set_option maxHeartbeats 400000 in
theorem Set_no (b g W H N : Nat) (x y v : Int) (f : List Int) (w : World) (h : GAt w b g W H N f) (hn : ¬ (0 ≤ x ∧ x < W ∧ 0 ≤ y ∧ y < H)) :
    Calls Try.prog 21 #[.pointer (some ⟨b, 0, none⟩), .int .i64 x, .int .i64 y, .int .i64 v] w fun e w' => e = .returned (.int .i64 6) ∧ w' = w := by
  have HG : Hid (GAt w b g W H N f) := h
  have HN : Hid (¬ (0 ≤ x ∧ x < W ∧ 0 ≤ y ∧ y < H)) := hn
  clear h hn
  go_enter Try.func21, Try.ntmps21
  go_wp2_with (go_at_call 34; refine (place_no b g W H N x y f _ HG.out HN.out).mono ?_; rintro e w' ⟨rfl, hw⟩; subst w')
  go_ret
  exact ⟨rfl, rfl⟩

set_option maxRecDepth 100000 in
set_option maxHeartbeats 400000 in
theorem Set_nil (x y v : Int) (w : World) :
    Calls Try.prog 21 #[.pointer none, .int .i64 x, .int .i64 y, .int .i64 v] w fun e w' => e = .returned (.int .i64 1) ∧ w' = w := by
  go_enter Try.func21, Try.ntmps21
  go_wp2_with (go_at_call 34; refine (place_nil x y _).mono ?_; rintro e w' ⟨rfl, hw⟩; subst w')
  go_ret
  exact ⟨rfl, rfl⟩

set_option maxRecDepth 100000 in
set_option maxHeartbeats 400000 in
theorem Row_no (b g W H N : Nat) (y : Int) (f : List Int) (w : World) (h : GAt w b g W H N f) (hn : ¬ (0 ≤ y ∧ y < H)) :
    Calls Try.prog 22 #[.pointer (some ⟨b, 0, none⟩), .int .i64 y] w fun e w' => e = .returned (.slice none 0 0) ∧ w' = w := by
  have HG : Hid (GAt w b g W H N f) := h
  have HN : Hid (¬ (0 ≤ (0 : Int) ∧ (0 : Int) < W ∧ 0 ≤ y ∧ y < H)) := fun ⟨_, _, a, b⟩ => hn ⟨a, b⟩
  clear h hn
  go_enter Try.func22, Try.ntmps22
  go_wp2_with (go_at_call 34; refine (place_no b g W H N 0 y f _ HG.out HN.out).mono ?_; rintro e w' ⟨rfl, hw⟩; subst w')
  go_ret
  exact ⟨rfl, rfl⟩

set_option maxRecDepth 100000 in
set_option maxHeartbeats 400000 in
theorem Row_nil (y : Int) (w : World) :
    Calls Try.prog 22 #[.pointer none, .int .i64 y] w fun e w' => e = .returned (.slice none 0 0) ∧ w' = w := by
  go_enter Try.func22, Try.ntmps22
  go_wp2_with (go_at_call 34; refine (place_nil 0 y _).mono ?_; rintro e w' ⟨rfl, hw⟩; subst w')
  go_ret
  exact ⟨rfl, rfl⟩

end Go.Proofs.Ytneapdegjofodaa.Grid
