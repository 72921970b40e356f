/- What NewGrid and Row of a grid of int do. -/
import Derived.Test.YtneapdegjofodaaGrid
namespace Go.Proofs.Ytneapdegjofodaa.Grid
open Go.RowKit

set_option maxRecDepth 100000 in
set_option maxHeartbeats 1000000 in
theorem New_no (W H fill : Int) (w : World) (hn : ¬ (1 ≤ W ∧ W ≤ 1024 ∧ 1 ≤ H ∧ H ≤ 1024)) :
    Calls Try.prog 18 #[.int .i64 W, .int .i64 H, .int .i64 fill] w fun e w' => e = .returned (.pointer none) ∧ w' = w := by
  by_cases h1 : W < 1
  · go_enter Try.func18, Try.ntmps18
    go_wp2
    go_ret
    exact ⟨rfl, rfl⟩
  · have h1' : 1 ≤ W := by omega
    by_cases h2 : 1024 < W
    · go_enter Try.func18, Try.ntmps18
      go_wp2
      go_ret
      exact ⟨rfl, rfl⟩
    · have h2' : W ≤ 1024 := by omega
      by_cases h3 : H < 1
      · go_enter Try.func18, Try.ntmps18
        go_wp2
        go_ret
        exact ⟨rfl, rfl⟩
      · have h3' : 1 ≤ H := by omega
        have h4 : 1024 < H := by omega
        clear hn
        go_enter Try.func18, Try.ntmps18
        go_wp2
        go_ret
        exact ⟨rfl, rfl⟩

theorem row_block {w : World} {base g n : Nat} {xs : List Value} (h : w.ownsRow base 3 1 (.slice (some ⟨g, 0, none⟩) n n) n xs) : w.heap[g]? = some (.cells xs.toArray 3 (0, 0)) := by
  rcases h.2 with ⟨h', _⟩ | ⟨g', cap', cur, h', _, hh, _, _, hs, ht⟩
  · cases h'
  · injection h' with h1 _ h3
    injection h1 with h1; injection h1 with h1
    subst h1; subst h3
    rw [hh]
    have : cur.toList = xs := by rw [← ht]; exact (List.take_of_length_le (by simp; omega)).symm
    rw [← this]

theorem made_row {w : World} {base g n : Nat} (h : w.ownsRow base 3 1 (.slice (some ⟨g, 0, none⟩) n n) n (madeCells (Value.int .i64 0).cells (n * 1)).toList) : w.heap[g]? = some (.cells (List.replicate n (Value.int .i64 0)).toArray 3 (0, 0)) := by
  have e : (madeCells (Value.int .i64 0).cells (n * 1)).toList = List.replicate n (Value.int .i64 0) := by rw [Nat.mul_one]; exact toList_madeCells_one _ _
  rw [e] at h
  exact row_block h

theorem fill_row (N k : Nat) (x : Int) (hk : k < N) : (List.replicate k x ++ List.replicate (N - k) (0 : Int)).set k x = List.replicate (k + 1) x ++ List.replicate (N - (k + 1)) 0 := by
  rw [List.set_append_right _ _ (by simp), List.replicate_succ', List.append_assoc]
  obtain ⟨m, hm⟩ : ∃ m, N - k = m + 1 := ⟨N - k - 1, by omega⟩
  rw [hm, show N - (k + 1) = m from by omega]
  simp [List.replicate_succ]

set_option maxRecDepth 100000 in
set_option maxHeartbeats 1000000 in
theorem New_yes (W H : Nat) (fill : Int) (w : World) (hw1 : 1 ≤ W) (hw2 : W ≤ 1024) (hh1 : 1 ≤ H) (hh2 : H ≤ 1024) :
    Calls Try.prog 18 #[.int .i64 (W : Int), .int .i64 (H : Int), .int .i64 fill] w fun e w' => ∃ b g, e = .returned (.pointer (some ⟨b, 0, none⟩)) ∧ w.heap.size ≤ g ∧ w.heap.size ≤ b ∧
      GAt w' b g W H (H * W) (List.replicate (H * W) fill) ∧ Below w.heap.size w w' := by
  obtain ⟨i0, hi0, hz0, hz1, hz2⟩ := info_parts infoInt
  obtain ⟨N, hN⟩ : ∃ N, N = H * W := ⟨_, rfl⟩
  have hN2 : N ≤ 1048576 := by rw [hN]; exact small (A := 1024) (C := 1024) hh2 hw2
  have hNi : (W : Int) * (H : Int) = (N : Int) := by rw [hN, Int.mul_comm]; simp
  have HN : Hid (N = H * W) := hN
  rw [← hN]
  clear hN
  go_enter Try.func18, Try.ntmps18
  go_wp2_with (at_make; refine wpList_make_full _ rfl _ _ 29 rfl w.heap.size 3 i0 (.int .i64 0) 1 Try.underlying29 hi0 hz0 hz1 _ _ _ _ N rfl rfl rfl rfl (by rw [hz2]; omega) (by unfold maxLen; omega) (Nat.le_refl _) ?_; intro w1 hown hgrow)
  have hsz : w.heap.size < w1.heap.size := (hown.lt _ rfl).2
  have hB1 : Below w.heap.size w w1 := (Below.refl _ w).grown hgrow (Nat.le_refl _) (fun _ e => by cases e)
  have hrow : w1.heap[w.heap.size]? = some (.cells ((List.replicate N (0 : Int)).map fun x => Value.int .i64 x).toArray 3 (0, 0)) := by
    rw [made_row hown, List.map_replicate]
  have HG0 : Hid (GAt (w1.alloc (.cells #[.slice (some ⟨w.heap.size, 0, none⟩) N N, .int .i64 (W : Int), .int .i64 (H : Int)] 82)) w1.heap.size w.heap.size W H N (List.replicate 0 fill ++ List.replicate (N - 0) 0)) :=
    ⟨heap_alloc_new w1 _, (Below.heap_alloc _ _ _ hsz).trans (by simpa using hrow), by simp, HN.out, hw1, hw2, hh1, hh2⟩
  have HB0 : Hid (Below w.heap.size w (w1.alloc (.cells #[.slice (some ⟨w.heap.size, 0, none⟩) N N, .int .i64 (W : Int), .int .i64 (H : Int)] 82))) := hB1.alloc hB1.size _
  clear hown hgrow hB1 hrow hi0 hz0 hz1 hz2
  go_loopw [36] (fun v wr => ∃ k : Nat, k ≤ N ∧ v = .int .i64 (k : Int) ∧ GAt wr w1.heap.size w.heap.size W H N (List.replicate k fill ++ List.replicate (N - k) 0) ∧ Below w.heap.size w wr) (fun v _ => N - (intOf v).toNat)
  case atStart => exact ⟨0, Nat.zero_le _, rfl, HG0.out, HB0.out⟩
  case round =>
    obtain ⟨k, hk, rfl, hG, hB⟩ := hrel
    have HG : Hid (GAt wr w1.heap.size w.heap.size W H N (List.replicate k fill ++ List.replicate (N - k) 0)) := hG
    have HB : Hid (Below w.heap.size w wr) := hB
    clear HG0 HB0
    by_cases hl : k < N
    · obtain ⟨c0, c1, c2⟩ := hG.cells
      obtain ⟨u, hu⟩ : ∃ u, (List.replicate k fill ++ List.replicate (N - k) 0)[k]? = some u := ⟨_, List.getElem?_eq_getElem (by simp; omega)⟩
      obtain ⟨ck, fk⟩ := hG.at_ hu
      have HG2 := hG.set k fill
      rw [fill_row N k fill hl] at HG2
      have HG3 : Hid (GAt (wr.setCell ⟨w.heap.size, k, none⟩ (.int .i64 fill)) w1.heap.size w.heap.size W H N (List.replicate (k + 1) fill ++ List.replicate (N - (k + 1)) 0)) := HG2
      clear hG hB hu HG2
      go_wp2
      go_roundw
      case rel => exact ⟨k + 1, hl, by go_num, HG3.out, HB.out.setCell (p := ⟨w.heap.size, k, none⟩) (Nat.le_refl _) _⟩
      case measure => simp [intOf]; omega
    · have hkn : k = N := by omega
      subst hkn
      have HG3 : Hid (GAt wr w1.heap.size w.heap.size W H k (List.replicate k fill)) := by
        have := HG.out
        rw [Nat.sub_self, List.replicate_zero, List.append_nil] at this
        exact this
      clear hG hB
      go_wp2
      go_ret
      exact ⟨_, _, rfl, Nat.le_refl _, by omega, HG3.out, HB.out⟩

/-- A row of a grid. -/
def rowOf (W y : Nat) (f : List Int) : List Int := (f.drop (y * W)).take W
theorem rowOf_at {W y : Nat} {f : List Int} {x : Nat} (hx : x < W) : (rowOf W y f)[x]? = f[y * W + x]? := by
  unfold rowOf
  rw [List.getElem?_take_of_lt hx, List.getElem?_drop]
theorem rowOf_length {W H y N : Nat} {f : List Int} (hl : f.length = N) (hN : N = H * W) (hy : y < H) : (rowOf W y f).length = W := by
  unfold rowOf
  rw [List.length_take, List.length_drop, hl, hN]
  have : (y + 1) * W ≤ H * W := Nat.mul_le_mul_right W hy
  rw [Nat.add_mul] at this
  omega

theorem src_cells {w w1 : World} {b g W H N i : Nat} {f : List Int} (h : GAt w b g W H N f) (hb : Below w.heap.size w w1) : ∀ (j : Nat) (v : Value), (((f.drop i).take W).map fun x => Value.int .i64 x)[j]? = some v → w1.cell? ((⟨g, i, none⟩ : Addr).add j) = some v := by
  intro j v hj
  rw [List.getElem?_map] at hj
  match hx : ((f.drop i).take W)[j]? with
  | none => rw [hx] at hj; cases hj
  | some x =>
    rw [hx] at hj
    injection hj with hj
    have hjl := (List.getElem?_eq_some_iff.1 hx).1
    rw [List.length_take] at hjl
    rw [List.getElem?_take_of_lt (by omega), List.getElem?_drop] at hx
    rw [show (⟨g, i, none⟩ : Addr).add j = ⟨g, i + j, none⟩ from by simp [Addr.add]]
    rw [hb.cell (p := ⟨g, i + j, none⟩) h.lt.2, (h.at_ hx).1, ← hj]

theorem splice_all {Z cs : List Value} (h : cs.length = Z.length) : splice Z 0 cs = cs := by
  unfold splice
  rw [List.take_zero, Nat.zero_add, h, List.drop_length]
  simp

theorem infoSize : (Try.prog.info? 3).map (·.size) = some 1 := by kernel_rfl

set_option maxRecDepth 100000 in
set_option maxHeartbeats 1000000 in
theorem Row_yes (b g W H N y : Nat) (f : List Int) (w : World) (h : GAt w b g W H N f) (hy : y < H) :
    Calls Try.prog 22 #[.pointer (some ⟨b, 0, none⟩), .int .i64 (y : Int)] w fun e w' => ∃ r, e = .returned (.slice (some ⟨r, 0, none⟩) W W) ∧ w.heap.size ≤ r ∧
      w'.heap[r]? = some (.cells ((rowOf W y f).map fun x => .int .i64 x).toArray 3 (0, 0)) ∧ Below w.heap.size w w' := by
  obtain ⟨i0, hi0, hz0, hz1, hz2⟩ := info_parts infoInt
  obtain ⟨c0, c1, c2⟩ := h.cells
  have w1' := h.w1
  have w2' := h.w2
  have h2' := h.h2
  have HG : Hid (GAt w b g W H N f) := h
  obtain ⟨i, hi⟩ : ∃ i, i = y * W + 0 := ⟨_, rfl⟩
  have HI : Hid (((y * W + 0 : Nat) : Int) = (i : Int)) := by show _ = _; rw [hi]
  have hiN : i < N := by rw [h.n, hi]; exact spot_lt (by omega) hy
  have hiW : i + W ≤ N := by
    rw [h.n, hi]
    have : (y + 1) * W ≤ H * W := Nat.mul_le_mul_right W hy
    rw [Nat.add_mul] at this
    omega
  have hN2 : N ≤ 1048576 := by rw [h.n]; exact small (A := 1024) (C := 1024) h2' w2'
  have HR : Hid (rowOf W y f = (f.drop i).take W) := by show _ = _; rw [hi]; rfl
  have HL : Hid ((rowOf W y f).length = W) := rowOf_length h.len h.n hy
  have hbl := h.lt
  have i0' : (0 : Int) ≤ (i : Int) := by omega
  have i1' : (i : Int) ≤ (N : Int) := by omega
  clear h hi
  go_enter Try.func22, Try.ntmps22
  go_wp2_with (first
    | (go_at_call 34; refine (place_yes b g W H N 0 y f _ HG.out (by omega) hy).mono ?_; rintro e w' ⟨rfl, hw⟩; subst w'; rw [HI.out])
    | (at_make; refine wpList_make_full _ rfl _ _ 29 rfl w.heap.size 3 i0 (.int .i64 0) 1 Try.underlying29 hi0 hz0 hz1 _ _ _ _ W rfl rfl rfl rfl (by rw [hz2]; omega) (by unfold maxLen; omega) (Nat.le_refl _) ?_; intro w1 hown hgrow; have HW1 : Hid (w1.ownsRow _ _ _ _ _ _) := hown; have HB1 : Hid (Below w.heap.size w w1) := (Below.refl _ w).grown hgrow (Nat.le_refl _) (fun _ e => by cases e); have d0 := (HB1.out.cell (p := ⟨b, 0, none⟩) hbl.1).trans c0; clear hown hgrow)
    | (refine wpList_copy_splice rfl _ _ 29 29 rfl 3 Try.underlying29 infoSize _ _ W W (N - i) (N - i) rfl rfl w.heap.size 0 (List.replicate W (Value.int .i64 0)) 3 (made_row HW1.out) (((f.drop i).take W).map fun x => Value.int .i64 x) (by rw [List.length_map, ← HR.out, HL.out]; exact (Nat.min_eq_right (by omega)).symm) (fun _ => ⟨rfl, _, rfl, src_cells HG.out HB1.out⟩) (by rw [List.length_map, ← HR.out, HL.out]; simp) (by intro v hv; obtain ⟨x, _, rfl⟩ := List.mem_map.1 hv; rfl) w.heap.size w HB1.out (Nat.le_refl _) ?_; intro w2 hrow2 hB2))
  go_ret
  refine ⟨_, rfl, Nat.le_refl _, ?_, hB2⟩
  have := hrow2.out
  rw [this, HR.out]
  have hl := HL.out
  rw [HR.out] at hl
  rw [splice_all (by rw [List.length_map, hl, List.length_replicate])]

end Go.Proofs.Ytneapdegjofodaa.Grid
