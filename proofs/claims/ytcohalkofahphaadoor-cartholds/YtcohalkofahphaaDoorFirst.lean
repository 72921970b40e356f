/- What First answers. -/
import Derived.Test.YtcohalkofahphaaDoorFit
namespace Go.Proofs.YtcohalkofahphaaDoor.Img
open Go.RowKit

theorem infoInt : (Tryd.prog.info? 3).map (fun i => (i.zero, i.size, i.bytes)) = some (some (.int .i64 0), 1, 8) := by kernel_rfl

/-- A row of numbers in block g. -/
def Row (w : World) (g : Nat) (xs : List Int) : Prop := w.heap[g]? = some (.cells (xs.map fun x => .int .i64 x).toArray 3 (0, 0))
theorem Row.lt {w : World} {g : Nat} {xs : List Int} (h : Row w g xs) : g < w.heap.size := (Array.getElem?_eq_some_iff.1 h).1
theorem Row.at_ {w : World} {g : Nat} {xs : List Int} (h : Row w g xs) {i : Nat} {x : Int} (hi : xs[i]? = some x) : w.cell? ⟨g, i, none⟩ = some (.int .i64 x) ∧ w.frozen? ⟨g, i, none⟩ = false := by
  refine ⟨?_, frozen_of_row _ _ _ _ _ h⟩
  rw [Joins.cell_of_block h i]
  simp [hi]
theorem Row.set {w : World} {g : Nat} {xs : List Int} (h : Row w g xs) (i : Nat) (x : Int) : Row (w.setCell ⟨g, i, none⟩ (.int .i64 x)) g (xs.set i x) := by
  unfold Row
  rw [Joins.block_setCell h, List.map_set]
  congr 2
  simp

theorem row_block {w : World} {base g n : Nat} {xs : List Value} (h : w.ownsRow base 3 1 (.slice (some ⟨g, 0, none⟩) n n) n xs) : w.heap[g]? = some (.cells xs.toArray 3 (0, 0)) := by
  rcases h.2 with ⟨h', _⟩ | ⟨g', cap', cur, h', _, hh, _, _, hs, ht⟩
  · cases h'
  · injection h' with h1 _ h3
    injection h1 with h1; injection h1 with h1
    subst h1; subst h3
    rw [hh]
    have : cur.toList = xs := by rw [← ht]; exact (List.take_of_length_le (by simp; omega)).symm
    rw [← this]

theorem made_row {w : World} {base g n : Nat} (h : w.ownsRow base 3 1 (.slice (some ⟨g, 0, none⟩) n n) n (madeCells (Value.int .i64 0).cells (n * 1)).toList) : Row w g (List.replicate n 0) := by
  have e : (madeCells (Value.int .i64 0).cells (n * 1)).toList = List.replicate n (Value.int .i64 0) := by rw [Nat.mul_one]; exact toList_madeCells_one _ _
  rw [e] at h
  unfold Row
  rw [row_block h, List.map_replicate]

/-- The banks at power-on, of the table and of an image of that length. -/
def lays (m : Mp) : List Int := [m.f0, m.f1, m.f2, m.f3]
def bank (m : Mp) (n x : Int) : Int := if x = -1 then n / m.size - 1 else x
def firsts (m : Mp) (n : Int) (k : Nat) : List Int := ((lays m).take k).map (bank m n)
theorem lays_cell {w : World} {M k : Nat} {m : Mp} {x : Int} (h : w.heap[M]? = some (.cells (vals m) 72 (0, 0))) (hx : (lays m)[k]? = some x) : w.cell? ⟨M, 5 + k, none⟩ = some (.int .i64 x) := by
  match k, hx with
  | 0, hx => injection hx with hx; subst hx; exact cell_of_row _ _ _ _ _ _ h
  | 1, hx => injection hx with hx; subst hx; exact cell_of_row _ _ _ _ _ _ h
  | 2, hx => injection hx with hx; subst hx; exact cell_of_row _ _ _ _ _ _ h
  | 3, hx => injection hx with hx; subst hx; exact cell_of_row _ _ _ _ _ _ h
  | k + 4, hx => cases hx
theorem firsts_set {m : Mp} {n x : Int} {N k : Nat} (hk : k < N) (h4 : N ≤ 4) (hx : (lays m)[k]? = some x) : (firsts m n k ++ List.replicate (N - k) (0 : Int)).set k (bank m n x) = firsts m n (k + 1) ++ List.replicate (N - (k + 1)) 0 := by
  have hl : (firsts m n k).length = k := by unfold firsts; rw [List.length_map, List.length_take]; have : (lays m).length = 4 := rfl; omega
  have hs : firsts m n (k + 1) = firsts m n k ++ [bank m n x] := by unfold firsts; rw [List.take_add_one, hx, List.map_append]; rfl
  obtain ⟨j, hj⟩ : ∃ j, N - k = j + 1 := ⟨N - k - 1, by omega⟩
  rw [List.set_append_right _ _ (by omega), hl, Nat.sub_self, hj, List.replicate_succ, List.set_cons_zero, hs, List.append_assoc, show N - (k + 1) = j from by omega]
  rfl

set_option maxRecDepth 100000 in
set_option maxHeartbeats 2000000 in
theorem First_no (tag : ByteArray) (n : Int) (w : World) (ht : Tab w) (h : find tag = none ∨ ∃ m, find tag = some m ∧ fits m n = false) :
    Calls Tryd.prog 13 #[.string tag, .int .i64 n] w fun e w' => e = .returned (.slice none 0 0) ∧ Below w.heap.size w w' := by
  have hm : means tag n = .tuple #[.agg zeros, .int .i64 3] ∨ means tag n = .tuple #[.agg zeros, .int .i64 4] := by
    unfold means
    rcases h with h | ⟨m, h, h2⟩
    · rw [h]; exact .inl rfl
    · rw [h]; simp only; rw [h2]; exact .inr rfl
  have HT : Hid (Tab w) := ht
  clear ht h
  rcases hm with hm | hm
  all_goals
    go_enter Tryd.func13, Tryd.ntmps13
    go_wp2_with (go_at_call 34; fail)
    refine (meant tag n w HT.out).mono ?_
    rintro e w2 ⟨rfl, hB2⟩
    rw [hm]
    have HB2 : Hid (Below w.heap.size w w2) := hB2
    clear hB2 hm
    simp only
    unfold zeros
    iterate 15 go_step
    generalize hw3 : w2.alloc _ = w3
    have HB3 : Hid (Below w.heap.size w w3) := (by rw [← hw3]; exact HB2.out.alloc HB2.out.size _ : Below w.heap.size w w3)
    clear hw3
    go_wp2
    go_ret
    exact ⟨rfl, HB3.out⟩

set_option maxRecDepth 100000 in
set_option maxHeartbeats 4000000 in
theorem First_yes (tag : ByteArray) (n : Int) (m : Mp) (N : Nat) (w : World) (ht : Tab w) (hf : find tag = some m) (hft : fits m n = true) (hN : 4096 / m.size = (N : Int)) (hN4 : N ≤ 4) :
    Calls Tryd.prog 13 #[.string tag, .int .i64 n] w fun e w' => ∃ g, e = .returned (.slice (some ⟨g, 0, none⟩) N N) ∧ w.heap.size ≤ g ∧ Row w' g (firsts m n N) ∧ Below w.heap.size w w' := by
  obtain ⟨i0, hi0, hz0, hz1, hz2⟩ := info_parts infoInt
  have hm : means tag n = .tuple #[.agg (vals m), .int .i64 0] := by
    unfold means
    rw [hf]; simp only; rw [if_pos hft]
  obtain ⟨hs, hs1, hs2⟩ := step_pos hf
  have hn1 := fits_pos hft hs
  have hbk : IntKind.i64.wrap (n.tdiv m.size) = n / m.size := banks_eq hn1 hs1 (fits_most hft hf)
  have hq0 : 0 ≤ n / m.size := Int.ediv_nonneg (by omega) (by omega)
  have hq1 : n / m.size ≤ 524288 := Int.le_trans (Int.ediv_le_self _ (by omega)) (fits_most hft hf)
  have hsz0 : ¬ m.size = 0 := by omega
  have HT : Hid (Tab w) := ht
  clear ht hf hft
  go_enter Tryd.func13, Tryd.ntmps13
  go_wp2_with (go_at_call 34; fail)
  refine (meant tag n w HT.out).mono ?_
  rintro e w2 ⟨rfl, hB2⟩
  rw [hm]
  have HB2 : Hid (Below w.heap.size w w2) := hB2
  clear hB2 hm
  simp only
  unfold vals
  iterate 15 go_step
  generalize hw3 : w2.alloc _ = w3
  have HB3 : Hid (Below w.heap.size w w3) := (by rw [← hw3]; exact HB2.out.alloc HB2.out.size _ : Below w.heap.size w w3)
  have hN3 : w3.heap[w2.heap.size]? = some (.cells (vals m) 72 (0, 0)) := by rw [← hw3]; exact heap_alloc_new _ _
  have hM2 : w.heap.size ≤ w2.heap.size := HB2.out.size
  generalize w2.heap.size = M at *
  have HN3 : Hid (w3.heap[M]? = some (.cells (vals m) 72 (0, 0))) := hN3
  have hN := hN3
  unfold vals at hN
  obtain ⟨x0, x1, x2, x3, x4, x5, x6, x7, x8⟩ : w3.cell? ⟨M, 0, none⟩ = some (.string m.tag) ∧ w3.cell? ⟨M, 1, none⟩ = some (.int .i64 m.step) ∧ w3.cell? ⟨M, 2, none⟩ = some (.int .i64 m.most) ∧ w3.cell? ⟨M, 3, none⟩ = some (.int .i64 m.size) ∧ w3.cell? ⟨M, 4, none⟩ = some (.bool m.extra) ∧ w3.cell? ⟨M, 5, none⟩ = some (.int .i64 m.f0) ∧ w3.cell? ⟨M, 6, none⟩ = some (.int .i64 m.f1) ∧ w3.cell? ⟨M, 7, none⟩ = some (.int .i64 m.f2) ∧ w3.cell? ⟨M, 8, none⟩ = some (.int .i64 m.f3) :=
    ⟨cell_of_row _ _ _ _ _ _ hN, cell_of_row _ _ _ _ _ _ hN, cell_of_row _ _ _ _ _ _ hN, cell_of_row _ _ _ _ _ _ hN, cell_of_row _ _ _ _ _ _ hN, cell_of_row _ _ _ _ _ _ hN, cell_of_row _ _ _ _ _ _ hN, cell_of_row _ _ _ _ _ _ hN, cell_of_row _ _ _ _ _ _ hN⟩
  have hM3 : M < w3.heap.size := lt_of_cell x0
  clear hN hN3 hw3 HB2
  go_wp2_with (go_at_call 35; fail)
  refine (windows _ _ _ _ _ _ _ _ _ _ hs1 hs2).mono ?_
  rintro e w5 ⟨rfl, hB5⟩
  have HB5 : Hid (Below w.heap.size w w5) := HB3.out.trans (hB5.mono HB3.out.size)
  have HN5 : Hid (w5.heap[M]? = some (.cells (vals m) 72 (0, 0))) := (hB5.block M hM3).trans HN3.out
  have hM5 : M < w5.heap.size := by have := hB5.size; omega
  clear hB5 x0 x1 x2 x3 x4 x5 x6 x7 x8 HN3 HB3 hM3
  rw [hN]
  go_wp2_with (at_make; refine wpList_make_full _ rfl _ _ 31 rfl w5.heap.size 3 i0 (.int .i64 0) 1 Tryd.underlying31 hi0 hz0 hz1 _ _ _ _ N rfl rfl rfl rfl (by rw [hz2]; omega) (by unfold maxLen; omega) (Nat.le_refl _) ?_; intro w6 hown hgrow)
  have hB6 : Below w5.heap.size w5 w6 := (Below.refl _ w5).grown hgrow (Nat.le_refl _) (fun _ e => by cases e)
  have HR6 : Hid (Row w6 w5.heap.size (firsts m n 0 ++ List.replicate (N - 0) 0)) := by
    have := made_row hown
    exact this
  have HN6 : Hid (w6.heap[M]? = some (.cells (vals m) 72 (0, 0))) := (hB6.block M hM5).trans HN5.out
  have HB6 : Hid (Below w.heap.size w w6) := HB5.out.trans (hB6.mono HB5.out.size)
  have hg : w.heap.size ≤ w5.heap.size := HB5.out.size
  have hMg : ¬ M = w5.heap.size := by omega
  clear hown hgrow hB6 hi0 hz0 hz1 hz2
  generalize w5.heap.size = g at *
  go_loopw [22] (fun v wr => ∃ k : Nat, k ≤ N ∧ v = .int .i64 (k : Int) ∧ Row wr g (firsts m n k ++ List.replicate (N - k) 0) ∧ wr.heap[M]? = some (.cells (vals m) 72 (0, 0)) ∧ Below w.heap.size w wr) (fun v _ => N - (intOf v).toNat)
  case atStart => exact ⟨0, Nat.zero_le _, rfl, HR6.out, HN6.out, HB6.out⟩
  case round =>
    obtain ⟨k, hk, rfl, hR, hV, hB⟩ := hrel
    have HR : Hid (Row wr g (firsts m n k ++ List.replicate (N - k) 0)) := hR
    have HVV : Hid (wr.heap[M]? = some (.cells (vals m) 72 (0, 0))) := hV
    have HB : Hid (Below w.heap.size w wr) := hB
    clear HR6 HN6 HB6
    by_cases hl : k < N
    · obtain ⟨x, hx⟩ : ∃ x, (lays m)[k]? = some x := ⟨_, List.getElem?_eq_getElem (show k < (lays m).length from by have : (lays m).length = 4 := rfl; omega)⟩
      have cF : wr.cell? ⟨M, 5 + k, none⟩ = some (.int .i64 x) := lays_cell hV hx
      obtain ⟨u, hu⟩ : ∃ u, (firsts m n k ++ List.replicate (N - k) 0)[k]? = some u := ⟨_, List.getElem?_eq_getElem (by
        have : (firsts m n k).length = k := by unfold firsts; rw [List.length_map, List.length_take]; have : (lays m).length = 4 := rfl; omega
        rw [List.length_append, this, List.length_replicate]; omega)⟩
      obtain ⟨ck, fk⟩ := hR.at_ hu
      have cS : wr.cell? ⟨M, 3, none⟩ = some (.int .i64 m.size) := by
        have hN := hV
        unfold vals at hN
        exact cell_of_row _ _ _ _ _ _ hN
      have HS1 : Hid ((firsts m n k ++ List.replicate (N - k) (0 : Int)).set k (bank m n x) = firsts m n (k + 1) ++ List.replicate (N - (k + 1)) 0) := firsts_set hl hN4 hx
      have k0 : (0 : Int) ≤ (k : Int) := by omega
      have k1 : (k : Int) < (N : Int) := by omega
      have k4 : (k : Int) < 4 := by omega
      have hMg' : ¬ g = M := fun e => hMg e.symm
      clear hR hV hB hu hx
      by_cases hxx : x = -1
      · subst hxx
        have HS2 : Hid (bank m n (-1) = n / m.size - 1) := if_pos rfl
        go_wp2
        go_roundw
        case rel =>
          refine ⟨k + 1, by omega, by go_num, ?_, ?_, (HB.out.setCell (p := ⟨g, k, none⟩) hg _).setCell (p := ⟨g, k, none⟩) hg _⟩
          · rw [← HS1.out, HS2.out]
            have := (HR.out.set k (-1)).set k (n / m.size - 1)
            rw [List.set_set] at this
            exact this
          · exact ((Below.heap_setCell _ _ _ _ hMg).trans (Below.heap_setCell _ _ _ _ hMg)).trans HVV.out
        case measure => simp [intOf]; omega
      · have HS2 : Hid (bank m n x = x) := if_neg hxx
        go_wp2
        go_roundw
        case rel =>
          refine ⟨k + 1, by omega, by go_num, ?_, ?_, HB.out.setCell (p := ⟨g, k, none⟩) hg _⟩
          · rw [← HS1.out, HS2.out]
            exact HR.out.set k x
          · exact (Below.heap_setCell _ _ _ _ hMg).trans HVV.out
        case measure => simp [intOf]; omega
    · have hkl : (N : Int) ≤ (k : Int) := by omega
      have hkn : k = N := by omega
      have HR2 : Hid (Row wr g (firsts m n N)) := by
        have := HR.out
        rw [hkn, Nat.sub_self, List.replicate_zero, List.append_nil] at this
        exact this
      clear hR hV hB hkn
      go_wp2
      go_ret
      exact ⟨g, rfl, hg, HR2.out, HB.out⟩

end Go.Proofs.YtcohalkofahphaaDoor.Img
