/- What Fit and First answer. -/
import Derived.Test.YtcohalkofahphaaDoorMean
namespace Go.Proofs.YtcohalkofahphaaDoor.Img
open Go.RowKit

def shape (b s k : Int) (x : Bool) : Value := .agg #[.int .i64 b, .int .i64 s, .int .i64 k, .bool x]
/-- What Fit answers. -/
def fit (tag : ByteArray) (n : Int) : Value := match find tag with
  | some m => if fits m n then .tuple #[shape (n / m.size) m.size (4096 / m.size) m.extra, .int .i64 0] else .tuple #[shape 0 0 0 false, .int .i64 4]
  | none => .tuple #[shape 0 0 0 false, .int .i64 3]

theorem fits_pos {m : Mp} {n : Int} (h : fits m n = true) (hs : 1 ≤ m.step) : 1 ≤ n := by
  unfold fits at h
  simp only [Bool.and_eq_true, decide_eq_true_eq] at h
  omega

theorem fits_most {tag : ByteArray} {m : Mp} {n : Int} (h : fits m n = true) (hf : find tag = some m) : n ≤ 524288 := by
  have hm := List.mem_of_find?_eq_some hf
  unfold fits at h
  simp only [Bool.and_eq_true, decide_eq_true_eq] at h
  have h2 := h.1.2
  have h3 : m.most ≤ 524288 := by
    simp only [mps, List.mem_cons, List.not_mem_nil, or_false] at hm
    rcases hm with rfl | rfl | rfl | rfl | rfl | rfl | rfl | rfl | rfl | rfl | rfl <;> decide
  omega
theorem banks_eq {n s : Int} (h1 : 1 ≤ n) (hs : 1 ≤ s) (h2 : n ≤ 524288) : IntKind.i64.wrap (n.tdiv s) = n / s := by
  have hq : n.tdiv s = n / s := Int.tdiv_eq_ediv_of_nonneg (by omega)
  have hq0 : 0 ≤ n / s := Int.ediv_nonneg (by omega) (by omega)
  have hq1 : n / s ≤ n := Int.ediv_le_self _ (by omega)
  rw [hq]
  generalize n / s = q at *
  simp (disch := omega) only [IntWalk.i64_in]

set_option maxRecDepth 100000 in
set_option maxHeartbeats 2000000 in
theorem Fit_at (tag : ByteArray) (n : Int) (v : Value) (w : World) (ht : Tab w) (hv : v = fit tag n) :
    Calls Tryd.prog 10 #[.string tag, .int .i64 n] w fun e w' => e = .returned v ∧ Below w.heap.size w w' := by
  have HV : Hid (v = fit tag n) := hv
  have h0 := ht.lt
  have HT : Hid (Tab w) := ht
  clear ht hv
  go_enter Tryd.func10, Tryd.ntmps10
  go_wp2_with (go_at_call 34; fail)
  generalize hW : w.alloc _ = W1
  have hb1 : W1.heap[w.heap.size]? = some (.cells #[.int .i64 0, .int .i64 0, .int .i64 0, .bool false] 23 (0, 0)) := by
    rw [← hW]
    exact heap_alloc_new _ _
  have hB1 : Below w.heap.size w W1 := by
    rw [← hW]
    exact (Below.refl _ w).alloc (Nat.le_refl _) _
  have hT1 : Tab W1 := HT.out.below hB1 h0
  have hs1 : w.heap.size < W1.heap.size := (Array.getElem?_eq_some_iff.1 hb1).1
  clear hW HT
  refine (meant tag n W1 hT1).mono ?_
  rintro e w2 ⟨rfl, hB2⟩
  have hz : w2.heap[w.heap.size]? = some (.cells #[.int .i64 0, .int .i64 0, .int .i64 0, .bool false] 23 (0, 0)) := (hB2.block _ hs1).trans hb1
  have HB2 : Hid (Below w.heap.size w w2) := hB1.trans (hB2.mono hB1.size)
  have h2s : w.heap.size ≤ w.heap.size := Nat.le_refl _
  clear hB2 hb1 hB1 hT1 hs1
  obtain ⟨z0, z1, z2, z3⟩ : w2.cell? ⟨w.heap.size, 0, none⟩ = some (.int .i64 0) ∧ w2.cell? ⟨w.heap.size, 1, none⟩ = some (.int .i64 0) ∧ w2.cell? ⟨w.heap.size, 2, none⟩ = some (.int .i64 0) ∧ w2.cell? ⟨w.heap.size, 3, none⟩ = some (.bool false) :=
    ⟨cell_of_row _ _ _ _ _ _ hz, cell_of_row _ _ _ _ _ _ hz, cell_of_row _ _ _ _ _ _ hz, cell_of_row _ _ _ _ _ _ hz⟩
  have hf : ∀ o, w2.frozen? ⟨w.heap.size, o, none⟩ = false := fun o => frozen_of_row _ _ _ _ _ hz
  have hlt : w.heap.size < w2.heap.size := (Array.getElem?_eq_some_iff.1 hz).1
  clear hz
  obtain ⟨R, hR⟩ : ∃ R, R = w.heap.size := ⟨_, rfl⟩
  have h2s : w.heap.size ≤ R := by omega
  rw [← hR] at z0 z1 z2 z3 hf hlt ⊢
  have HB2 : Hid (Below w.heap.size w w2) := HB2.out
  clear hR
  unfold means
  match hfd : find tag with
  | none =>
    have hv : v = .tuple #[shape 0 0 0 false, .int .i64 3] := by rw [HV.out]; unfold fit; rw [hfd]
    clear hfd HV
    simp only
    subst hv
    unfold zeros
    iterate 15 go_step
    generalize hw3 : w2.alloc _ = w3
    have hB3 : Below w2.heap.size w2 w3 := by rw [← hw3]; exact (Below.refl _ _).alloc (Nat.le_refl _) _
    have hN3 : w3.heap[w2.heap.size]? = some (.cells zeros 72 (0, 0)) := by rw [← hw3]; exact heap_alloc_new _ _
    have HB3 : Hid (Below w.heap.size w w3) := HB2.out.trans (hB3.mono HB2.out.size)
    obtain ⟨y0, y1, y2, y3⟩ : w3.cell? ⟨R, 0, none⟩ = some (.int .i64 0) ∧ w3.cell? ⟨R, 1, none⟩ = some (.int .i64 0) ∧ w3.cell? ⟨R, 2, none⟩ = some (.int .i64 0) ∧ w3.cell? ⟨R, 3, none⟩ = some (.bool false) := ⟨(hB3.cell (p := ⟨R, 0, none⟩) hlt).trans z0, (hB3.cell (p := ⟨R, 1, none⟩) hlt).trans z1, (hB3.cell (p := ⟨R, 2, none⟩) hlt).trans z2, (hB3.cell (p := ⟨R, 3, none⟩) hlt).trans z3⟩
    have hf3 : ∀ o, w3.frozen? ⟨R, o, none⟩ = false := fun o => (World.frozen?_of_block (w := w2) (hB3.block R hlt)).trans (hf o)
    have hne : ¬ R = w2.heap.size := by omega
    have hne' : ¬ w2.heap.size = R := by omega
    generalize hM : w2.heap.size = M at *
    clear hw3 hB3 z0 z1 z2 z3 hf hM
    clear hN3
    go_wp2
    refine bodyPost_ret (v := .tuple #[shape 0 0 0 false, .int .i64 3]) (by simp [results, Tryd.f10, go_sem, shape, y0, y1, y2, y3]) rfl ⟨rfl, ?_⟩
    exact (((HB3.out.setCell (p := ⟨R, 0, none⟩) h2s _).setCell (p := ⟨R, 1, none⟩) h2s _).setCell (p := ⟨R, 2, none⟩) h2s _).setCell (p := ⟨R, 3, none⟩) h2s _
  | some m =>
    obtain ⟨hs, hs1, hs2⟩ := step_pos hfd
    match hft : fits m n with
    | false =>
      have hv : v = .tuple #[shape 0 0 0 false, .int .i64 4] := by rw [HV.out]; unfold fit; rw [hfd]; simp only; rw [hft]; rfl
      clear hfd HV
      simp only
      rw [if_neg (show ¬ fits m n = true from by rw [hft]; exact Bool.false_ne_true)]
      clear hft
      subst hv
      unfold zeros
      iterate 15 go_step
      generalize hw3 : w2.alloc _ = w3
      have hB3 : Below w2.heap.size w2 w3 := by rw [← hw3]; exact (Below.refl _ _).alloc (Nat.le_refl _) _
      have hN3 : w3.heap[w2.heap.size]? = some (.cells zeros 72 (0, 0)) := by rw [← hw3]; exact heap_alloc_new _ _
      have HB3 : Hid (Below w.heap.size w w3) := HB2.out.trans (hB3.mono HB2.out.size)
      obtain ⟨y0, y1, y2, y3⟩ : w3.cell? ⟨R, 0, none⟩ = some (.int .i64 0) ∧ w3.cell? ⟨R, 1, none⟩ = some (.int .i64 0) ∧ w3.cell? ⟨R, 2, none⟩ = some (.int .i64 0) ∧ w3.cell? ⟨R, 3, none⟩ = some (.bool false) := ⟨(hB3.cell (p := ⟨R, 0, none⟩) hlt).trans z0, (hB3.cell (p := ⟨R, 1, none⟩) hlt).trans z1, (hB3.cell (p := ⟨R, 2, none⟩) hlt).trans z2, (hB3.cell (p := ⟨R, 3, none⟩) hlt).trans z3⟩
      have hf3 : ∀ o, w3.frozen? ⟨R, o, none⟩ = false := fun o => (World.frozen?_of_block (w := w2) (hB3.block R hlt)).trans (hf o)
      have hne : ¬ R = w2.heap.size := by omega
      have hne' : ¬ w2.heap.size = R := by omega
      generalize hM : w2.heap.size = M at *
      clear hw3 hB3 z0 z1 z2 z3 hf hM
      clear hN3
      go_wp2
      refine bodyPost_ret (v := .tuple #[shape 0 0 0 false, .int .i64 4]) (by simp [results, Tryd.f10, go_sem, shape, y0, y1, y2, y3]) rfl ⟨rfl, ?_⟩
      exact (((HB3.out.setCell (p := ⟨R, 0, none⟩) h2s _).setCell (p := ⟨R, 1, none⟩) h2s _).setCell (p := ⟨R, 2, none⟩) h2s _).setCell (p := ⟨R, 3, none⟩) h2s _
    | true =>
      have hv : v = .tuple #[shape (n / m.size) m.size (4096 / m.size) m.extra, .int .i64 0] := by rw [HV.out]; unfold fit; rw [hfd]; simp only; rw [hft]; rfl
      have hn1 := fits_pos hft hs
      have hbk : IntKind.i64.wrap (n.tdiv m.size) = n / m.size := banks_eq hn1 hs1 (fits_most hft hfd)
      clear hfd HV
      simp only
      rw [if_pos hft]
      clear hft
      subst hv
      unfold vals
      iterate 15 go_step
      generalize hw3 : w2.alloc _ = w3
      have hB3 : Below w2.heap.size w2 w3 := by rw [← hw3]; exact (Below.refl _ _).alloc (Nat.le_refl _) _
      have hN3 : w3.heap[w2.heap.size]? = some (.cells (vals m) 72 (0, 0)) := by rw [← hw3]; exact heap_alloc_new _ _
      have HB3 : Hid (Below w.heap.size w w3) := HB2.out.trans (hB3.mono HB2.out.size)
      obtain ⟨y0, y1, y2, y3⟩ : w3.cell? ⟨R, 0, none⟩ = some (.int .i64 0) ∧ w3.cell? ⟨R, 1, none⟩ = some (.int .i64 0) ∧ w3.cell? ⟨R, 2, none⟩ = some (.int .i64 0) ∧ w3.cell? ⟨R, 3, none⟩ = some (.bool false) := ⟨(hB3.cell (p := ⟨R, 0, none⟩) hlt).trans z0, (hB3.cell (p := ⟨R, 1, none⟩) hlt).trans z1, (hB3.cell (p := ⟨R, 2, none⟩) hlt).trans z2, (hB3.cell (p := ⟨R, 3, none⟩) hlt).trans z3⟩
      have hf3 : ∀ o, w3.frozen? ⟨R, o, none⟩ = false := fun o => (World.frozen?_of_block (w := w2) (hB3.block R hlt)).trans (hf o)
      have hne : ¬ R = w2.heap.size := by omega
      have hne' : ¬ w2.heap.size = R := by omega
      generalize hM : w2.heap.size = M at *
      clear hw3 hB3 z0 z1 z2 z3 hf hM
      have hN := hN3
      unfold vals at hN
      obtain ⟨x0, x1, x2, x3, x4, x5, x6, x7, x8⟩ : w3.cell? ⟨M, 0, none⟩ = some (.string m.tag) ∧ w3.cell? ⟨M, 1, none⟩ = some (.int .i64 m.step) ∧ w3.cell? ⟨M, 2, none⟩ = some (.int .i64 m.most) ∧ w3.cell? ⟨M, 3, none⟩ = some (.int .i64 m.size) ∧ w3.cell? ⟨M, 4, none⟩ = some (.bool m.extra) ∧ w3.cell? ⟨M, 5, none⟩ = some (.int .i64 m.f0) ∧ w3.cell? ⟨M, 6, none⟩ = some (.int .i64 m.f1) ∧ w3.cell? ⟨M, 7, none⟩ = some (.int .i64 m.f2) ∧ w3.cell? ⟨M, 8, none⟩ = some (.int .i64 m.f3) :=
        ⟨cell_of_row _ _ _ _ _ _ hN, cell_of_row _ _ _ _ _ _ hN, cell_of_row _ _ _ _ _ _ hN, cell_of_row _ _ _ _ _ _ hN, cell_of_row _ _ _ _ _ _ hN, cell_of_row _ _ _ _ _ _ hN, cell_of_row _ _ _ _ _ _ hN, cell_of_row _ _ _ _ _ _ hN, cell_of_row _ _ _ _ _ _ hN⟩
      clear hN hN3
      have hR3 : R < w3.heap.size := lt_of_cell y0
      have hM3 : M < w3.heap.size := lt_of_cell x0
      have hsz0 : ¬ m.size = 0 := by omega
      have HX : Hid (w3.cell? ⟨M, 0, none⟩ = some (.string m.tag) ∧ w3.cell? ⟨M, 1, none⟩ = some (.int .i64 m.step) ∧ w3.cell? ⟨M, 2, none⟩ = some (.int .i64 m.most) ∧ w3.cell? ⟨M, 3, none⟩ = some (.int .i64 m.size) ∧ w3.cell? ⟨M, 4, none⟩ = some (.bool m.extra) ∧ w3.cell? ⟨M, 5, none⟩ = some (.int .i64 m.f0) ∧ w3.cell? ⟨M, 6, none⟩ = some (.int .i64 m.f1) ∧ w3.cell? ⟨M, 7, none⟩ = some (.int .i64 m.f2) ∧ w3.cell? ⟨M, 8, none⟩ = some (.int .i64 m.f3)) := ⟨x0, x1, x2, x3, x4, x5, x6, x7, x8⟩
      go_wp2
      go_region_held3 (fun w => w.cell? ⟨M, 0, none⟩ = some (.string m.tag) ∧ w.cell? ⟨M, 1, none⟩ = some (.int .i64 m.step) ∧ w.cell? ⟨M, 2, none⟩ = some (.int .i64 m.most) ∧ w.cell? ⟨M, 3, none⟩ = some (.int .i64 m.size) ∧ w.cell? ⟨M, 4, none⟩ = some (.bool m.extra) ∧ w.cell? ⟨M, 5, none⟩ = some (.int .i64 m.f0) ∧ w.cell? ⟨M, 6, none⟩ = some (.int .i64 m.f1) ∧ w.cell? ⟨M, 7, none⟩ = some (.int .i64 m.f2) ∧ w.cell? ⟨M, 8, none⟩ = some (.int .i64 m.f3)) (first | exact ⟨x0, x1, x2, x3, x4, x5, x6, x7, x8⟩ | exact HX5 | go_keep) (first
        | (go_at_call 35; refine (windows _ _ _ _ _ _ _ _ _ _ hs1 hs2).mono ?_; rintro e w5 ⟨rfl, hB5⟩; have hB5' : Below w3.heap.size w3 w5 := (by first | exact hB5 | exact (below_drewN (Below.refl _ w3) _).trans hB5); have HB5 : Hid (Below w.heap.size w w5) := HB3.out.trans (hB5'.mono HB3.out.size); have HX5 : w5.cell? ⟨M, 0, none⟩ = some (.string m.tag) ∧ w5.cell? ⟨M, 1, none⟩ = some (.int .i64 m.step) ∧ w5.cell? ⟨M, 2, none⟩ = some (.int .i64 m.most) ∧ w5.cell? ⟨M, 3, none⟩ = some (.int .i64 m.size) ∧ w5.cell? ⟨M, 4, none⟩ = some (.bool m.extra) ∧ w5.cell? ⟨M, 5, none⟩ = some (.int .i64 m.f0) ∧ w5.cell? ⟨M, 6, none⟩ = some (.int .i64 m.f1) ∧ w5.cell? ⟨M, 7, none⟩ = some (.int .i64 m.f2) ∧ w5.cell? ⟨M, 8, none⟩ = some (.int .i64 m.f3) := (⟨(hB5'.cell (p := ⟨M, 0, none⟩) hM3).trans x0, (hB5'.cell (p := ⟨M, 1, none⟩) hM3).trans x1, (hB5'.cell (p := ⟨M, 2, none⟩) hM3).trans x2, (hB5'.cell (p := ⟨M, 3, none⟩) hM3).trans x3, (hB5'.cell (p := ⟨M, 4, none⟩) hM3).trans x4, (hB5'.cell (p := ⟨M, 5, none⟩) hM3).trans x5, (hB5'.cell (p := ⟨M, 6, none⟩) hM3).trans x6, (hB5'.cell (p := ⟨M, 7, none⟩) hM3).trans x7, (hB5'.cell (p := ⟨M, 8, none⟩) hM3).trans x8⟩); have u0 : w5.cell? ⟨R, 0, none⟩ = some (.int .i64 0) := (hB5'.cell (p := ⟨R, 0, none⟩) hR3).trans y0; have u1 : w5.cell? ⟨R, 1, none⟩ = some (.int .i64 0) := (hB5'.cell (p := ⟨R, 1, none⟩) hR3).trans y1; have u2 : w5.cell? ⟨R, 2, none⟩ = some (.int .i64 0) := (hB5'.cell (p := ⟨R, 2, none⟩) hR3).trans y2; have u3 : w5.cell? ⟨R, 3, none⟩ = some (.bool false) := (hB5'.cell (p := ⟨R, 3, none⟩) hR3).trans y3; have hf5 : ∀ o, w5.frozen? ⟨R, o, none⟩ = false := fun o => (World.frozen?_of_block (w := w3) (hB5'.block R hR3)).trans (hf3 o); clear hB5 hB5'))
      all_goals go_wp2
      all_goals refine bodyPost_ret (v := .tuple #[shape (n / m.size) m.size (4096 / m.size) m.extra, .int .i64 0]) (by simp [results, Tryd.f10, go_sem, shape, u0, u1, u2, u3]) rfl ⟨rfl, ?_⟩
      all_goals first | exact (((HB5.out.setCell (p := ⟨R, 0, none⟩) h2s _).setCell (p := ⟨R, 1, none⟩) h2s _).setCell (p := ⟨R, 2, none⟩) h2s _).setCell (p := ⟨R, 3, none⟩) h2s _ | exact below_drewN ((((HB5.out.setCell (p := ⟨R, 0, none⟩) h2s _).setCell (p := ⟨R, 1, none⟩) h2s _).setCell (p := ⟨R, 2, none⟩) h2s _).setCell (p := ⟨R, 3, none⟩) h2s _) 1

theorem Fit (tag : ByteArray) (n : Int) (w : World) (ht : Tab w) :
    Calls Tryd.prog 10 #[.string tag, .int .i64 n] w fun e w' => e = .returned (fit tag n) ∧ Below w.heap.size w w' := Fit_at tag n _ w ht rfl

end Go.Proofs.YtcohalkofahphaaDoor.Img
