/- What a tag means: the calls of package image up to 'meant'. -/
import Derived.Test.YtcohalkofahphaaDoorImg
namespace Go.Proofs.YtcohalkofahphaaDoor.Img
open Go.RowKit

/-- The tag's mapper. -/
def find (tag : ByteArray) : Option Mp := mps.find? fun m => m.tag.toList == tag.toList

set_option maxRecDepth 100000 in
set_option maxHeartbeats 1000000 in
theorem choose_no (tag : ByteArray) (B : Nat) (w : World) (h : w.cell? ⟨B, 0, none⟩ = some (.string tag)) (ht : Tab w) (hn : ∀ (j : Nat) (m' : Mp), mps[j]? = some m' → m'.tag.toList ≠ tag.toList) :
    Calls Tryd.prog 50 #[.func (.func 51) #[] #[.pointer (some ⟨B, 0, none⟩)]] w fun e w' => e = .returned (.tuple #[.agg zeros, .bool false]) ∧ Below w.heap.size w w' := by
  have hBw := lt_of_cell h
  have HT : Hid (Tab w) := ht
  have HN : Hid (∀ (j : Nat) (m' : Mp), mps[j]? = some m' → m'.tag.toList ≠ tag.toList) := hn
  have HC : Hid (w.cell? ⟨B, 0, none⟩ = some (.string tag)) := h
  have h0 := ht.lt
  clear ht hn h
  go_enter Tryd.func50, Tryd.ntmps50
  go_wp2
  go_loopw [5] (fun v wr => ∃ k : Nat, k ≤ 11 ∧ v = .int .i64 (k : Int) ∧ Below w.heap.size w wr ∧ wr.heap[w.heap.size]? = some (.cells zeros 72 (0, 0))) (fun v _ => 11 - (intOf v).toNat)
  case atStart => exact ⟨0, by omega, rfl, (Below.refl _ w).alloc (Nat.le_refl _) _, heap_alloc_new w _⟩
  case round =>
    obtain ⟨k, hk, rfl, hB, hR⟩ := hrel
    have HB : Hid (Below w.heap.size w wr) := hB
    have HR : Hid (wr.heap[w.heap.size]? = some (.cells zeros 72 (0, 0))) := hR
    have hsz : w.heap.size < wr.heap.size := (Array.getElem?_eq_some_iff.1 hR).1
    by_cases hl : k < 11
    · obtain ⟨m', hm'⟩ : ∃ m', mps[k]? = some m' := ⟨_, List.getElem?_eq_getElem (by rw [mps_length]; omega)⟩
      obtain ⟨c0, c1, c2, c3, c4, c5, c6, c7, c8⟩ := (HT.out.below hB h0) k m' hm'
      have cB : wr.cell? ⟨B, 0, none⟩ = some (.string tag) := (hB.cell (p := ⟨B, 0, none⟩) hBw).trans HC.out
      have k0 : (0 : Int) ≤ (k : Int) := by omega
      have k1 : (k : Int) < 11 := by omega
      clear hB hR
      go_wp2_with (go_at_call 51; fail)
      refine (asks tag _ _ _ _ _ _ _ _ _ B _ cB).mono ?_
      rintro e w2 ⟨rfl, hB2⟩
      have HB2 : Hid (Below w.heap.size w w2) := HB.out.trans (hB2.mono HB.out.size)
      have HR2 : Hid (w2.heap[w.heap.size]? = some (.cells zeros 72 (0, 0))) := (hB2.block _ hsz).trans HR.out
      clear c0 c1 c2 c3 c4 c5 c6 c7 c8 hB2
      have hne : (m'.tag.toList == tag.toList) = false := beq_eq_false_iff_ne.2 (HN.out k m' hm')
      rw [hne]
      clear hne hm'
      go_wp2
      go_roundw
      case rel => exact ⟨k + 1, by omega, by go_num, HB2.out, HR2.out⟩
      case measure => simp [intOf]; omega
    · have hk11 : (11 : Int) ≤ (k : Int) := by omega
      have hz := hR
      unfold zeros at hz
      obtain ⟨z0, z1, z2, z3, z4, z5, z6, z7, z8⟩ : wr.cell? ⟨w.heap.size, 0, none⟩ = some (.string ByteArray.empty) ∧ wr.cell? ⟨w.heap.size, 1, none⟩ = some (.int .i64 0) ∧ wr.cell? ⟨w.heap.size, 2, none⟩ = some (.int .i64 0) ∧ wr.cell? ⟨w.heap.size, 3, none⟩ = some (.int .i64 0) ∧ wr.cell? ⟨w.heap.size, 4, none⟩ = some (.bool false) ∧ wr.cell? ⟨w.heap.size, 5, none⟩ = some (.int .i64 0) ∧ wr.cell? ⟨w.heap.size, 6, none⟩ = some (.int .i64 0) ∧ wr.cell? ⟨w.heap.size, 7, none⟩ = some (.int .i64 0) ∧ wr.cell? ⟨w.heap.size, 8, none⟩ = some (.int .i64 0) :=
        ⟨cell_of_row _ _ _ _ _ _ hz, cell_of_row _ _ _ _ _ _ hz, cell_of_row _ _ _ _ _ _ hz, cell_of_row _ _ _ _ _ _ hz, cell_of_row _ _ _ _ _ _ hz, cell_of_row _ _ _ _ _ _ hz, cell_of_row _ _ _ _ _ _ hz, cell_of_row _ _ _ _ _ _ hz, cell_of_row _ _ _ _ _ _ hz⟩
      have hf : ∀ o, wr.frozen? ⟨w.heap.size, o, none⟩ = false := fun o => frozen_of_row _ _ _ _ _ hz
      clear hz hB hR
      go_wp2
      refine bodyPost_ret (v := .tuple #[.agg zeros, .bool false]) (by simp [results, Tryd.f50, go_sem, zeros, z0, z1, z2, z3, z4, z5, z6, z7, z8]; rfl) rfl ⟨rfl, ?_⟩
      exact ((((((((HB.out.setCell (p := ⟨w.heap.size, 0, none⟩) (Nat.le_refl _) _).setCell (p := ⟨w.heap.size, 1, none⟩) (Nat.le_refl _) _).setCell (p := ⟨w.heap.size, 2, none⟩) (Nat.le_refl _) _).setCell (p := ⟨w.heap.size, 3, none⟩) (Nat.le_refl _) _).setCell (p := ⟨w.heap.size, 4, none⟩) (Nat.le_refl _) _).setCell (p := ⟨w.heap.size, 5, none⟩) (Nat.le_refl _) _).setCell (p := ⟨w.heap.size, 6, none⟩) (Nat.le_refl _) _).setCell (p := ⟨w.heap.size, 7, none⟩) (Nat.le_refl _) _).setCell (p := ⟨w.heap.size, 8, none⟩) (Nat.le_refl _) _

/-- What is chosen. -/
def chosen (tag : ByteArray) : Value := match find tag with
  | some m => .tuple #[.agg (vals m), .bool true]
  | none => .tuple #[.agg zeros, .bool false]

theorem choose (tag : ByteArray) (B : Nat) (w : World) (h : w.cell? ⟨B, 0, none⟩ = some (.string tag)) (ht : Tab w) :
    Calls Tryd.prog 50 #[.func (.func 51) #[] #[.pointer (some ⟨B, 0, none⟩)]] w fun e w' => e = .returned (chosen tag) ∧ Below w.heap.size w w' := by
  unfold chosen
  match hf : find tag with
  | some m =>
    obtain ⟨h1, i, hi, h2, h3⟩ := List.find?_eq_some_iff_getElem.1 hf
    exact choose_yes tag B i m w h ht (by rw [List.getElem?_eq_getElem hi, h2]) (by simpa using h1) (fun j m' hj hm' => by
      obtain ⟨hj', e⟩ := List.getElem?_eq_some_iff.1 hm'
      have := h3 j hj
      rw [e] at this
      simpa using this)
  | none =>
    have h1 := List.find?_eq_none.1 hf
    exact choose_no tag B w h ht (fun j m' hm' => by
      have := h1 m' (List.mem_of_getElem? hm')
      simpa using this)

/-- Has the mapper the length? -/
def fits (m : Mp) (n : Int) : Bool := decide (m.step ≤ n) && decide (n ≤ m.most) && (n % m.step == 0)

set_option maxRecDepth 100000 in
set_option maxHeartbeats 400000 in
theorem has (m : Mp) (n : Int) (w : World) (hs : 1 ≤ m.step) :
    Calls Tryd.prog 52 #[.agg (vals m), .int .i64 n] w fun e w' => e = .returned (.bool (fits m n)) ∧ Below w.heap.size w w' := by
  have hs0 : ¬ m.step = 0 := by omega
  unfold vals fits
  have hc : (m.step ≤ n ∧ n ≤ m.most) ∨ (m.step ≤ n ∧ ¬ n ≤ m.most) ∨ ¬ m.step ≤ n := by omega
  rcases hc with ⟨h1, h2⟩ | ⟨h1, h2⟩ | h1
  · rw [decide_eq_true h1, decide_eq_true h2]
    go_enter Tryd.func52, Tryd.ntmps52
    go_wp2
    go_ret
    exact ⟨rfl, (Below.refl _ w).alloc (Nat.le_refl _) _⟩
  · rw [decide_eq_true h1, decide_eq_false h2]
    go_enter Tryd.func52, Tryd.ntmps52
    go_wp2
    go_ret
    exact ⟨rfl, (Below.refl _ w).alloc (Nat.le_refl _) _⟩
  · rw [decide_eq_false h1]
    go_enter Tryd.func52, Tryd.ntmps52
    go_wp2
    go_ret
    exact ⟨rfl, (Below.refl _ w).alloc (Nat.le_refl _) _⟩

theorem step_pos {tag : ByteArray} {m : Mp} (h : find tag = some m) : 1 ≤ m.step ∧ 1 ≤ m.size ∧ m.size ≤ 4096 := by
  have hm := List.mem_of_find?_eq_some h
  simp only [mps, List.mem_cons, List.not_mem_nil, or_false] at hm
  rcases hm with rfl | rfl | rfl | rfl | rfl | rfl | rfl | rfl | rfl | rfl | rfl <;> exact ⟨by decide, by decide, by decide⟩

/-- What a tag means at a length. -/
def means (tag : ByteArray) (n : Int) : Value := match find tag with
  | some m => if fits m n then .tuple #[.agg (vals m), .int .i64 0] else .tuple #[.agg zeros, .int .i64 4]
  | none => .tuple #[.agg zeros, .int .i64 3]

set_option maxRecDepth 100000 in
set_option maxHeartbeats 1000000 in
theorem meant_at (tag : ByteArray) (n : Int) (v : Value) (w : World) (ht : Tab w) (hv : v = means tag n) :
    Calls Tryd.prog 34 #[.string tag, .int .i64 n] w fun e w' => e = .returned v ∧ Below w.heap.size w w' := by
  have HV : Hid (v = means tag n) := hv
  clear hv
  have h0 := ht.lt
  have HT : Hid (Tab (w.alloc (.cells #[.string tag] 9 (0, 0)))) := ht.below ((Below.refl _ w).alloc (Nat.le_refl _) _) h0
  clear ht
  go_enter Tryd.func34, Tryd.ntmps34
  go_wp2_with (go_at_call 50; fail)
  generalize hW : (w.alloc (Obj.cells #[Value.string tag] 9 (0, 0))).alloc _ = W1
  have hsz1 : (w.alloc (Obj.cells #[Value.string tag] 9 (0, 0))).heap.size = w.heap.size + 1 := Array.size_push _
  have hb0 : W1.heap[w.heap.size]? = some (.cells #[Value.string tag] 9 (0, 0)) := by
    rw [← hW]
    exact (((Below.refl _ (w.alloc (Obj.cells #[Value.string tag] 9 (0, 0)))).alloc (Nat.le_refl _) _).block w.heap.size (by omega)).trans (heap_alloc_new w _)
  have hb1 : W1.heap[w.heap.size + 1]? = some (.cells zeros 72 (0, 0)) := by
    rw [← hW, ← hsz1]
    exact heap_alloc_new _ _
  have hB1 : Below w.heap.size w W1 := by
    rw [← hW]
    exact ((Below.refl _ w).alloc (Nat.le_refl _) _).alloc (by omega) _
  have hT1 : Tab W1 := by
    rw [← hW]
    exact HT.out.below ((Below.refl _ _).alloc (Nat.le_refl _) _) (by omega)
  have hs1 : w.heap.size + 1 < W1.heap.size := (Array.getElem?_eq_some_iff.1 hb1).1
  clear hW HT hsz1
  refine (choose tag w.heap.size W1 (cell_of_row _ _ _ _ _ _ hb0) hT1).mono ?_
  rintro e w2 ⟨rfl, hB2⟩
  have hz : w2.heap[w.heap.size + 1]? = some (.cells zeros 72 (0, 0)) := (hB2.block _ hs1).trans hb1
  have HB2 : Hid (Below w.heap.size w w2) := hB1.trans (hB2.mono hB1.size)
  have h2s : w.heap.size ≤ w.heap.size + 1 := by omega
  clear hB2 hb1 hb0 hB1 hT1 hs1
  unfold zeros at hz
  obtain ⟨z0, z1, z2, z3, z4, z5, z6, z7, z8⟩ : w2.cell? ⟨w.heap.size + 1, 0, none⟩ = some (.string ByteArray.empty) ∧ w2.cell? ⟨w.heap.size + 1, 1, none⟩ = some (.int .i64 0) ∧ w2.cell? ⟨w.heap.size + 1, 2, none⟩ = some (.int .i64 0) ∧ w2.cell? ⟨w.heap.size + 1, 3, none⟩ = some (.int .i64 0) ∧ w2.cell? ⟨w.heap.size + 1, 4, none⟩ = some (.bool false) ∧ w2.cell? ⟨w.heap.size + 1, 5, none⟩ = some (.int .i64 0) ∧ w2.cell? ⟨w.heap.size + 1, 6, none⟩ = some (.int .i64 0) ∧ w2.cell? ⟨w.heap.size + 1, 7, none⟩ = some (.int .i64 0) ∧ w2.cell? ⟨w.heap.size + 1, 8, none⟩ = some (.int .i64 0) :=
    ⟨cell_of_row _ _ _ _ _ _ hz, cell_of_row _ _ _ _ _ _ hz, cell_of_row _ _ _ _ _ _ hz, cell_of_row _ _ _ _ _ _ hz, cell_of_row _ _ _ _ _ _ hz, cell_of_row _ _ _ _ _ _ hz, cell_of_row _ _ _ _ _ _ hz, cell_of_row _ _ _ _ _ _ hz, cell_of_row _ _ _ _ _ _ hz⟩
  have hf : ∀ o, w2.frozen? ⟨w.heap.size + 1, o, none⟩ = false := fun o => frozen_of_row _ _ _ _ _ hz
  have hlt : w.heap.size + 1 < w2.heap.size := (Array.getElem?_eq_some_iff.1 hz).1
  clear hz
  generalize w.heap.size + 1 = R at *
  unfold chosen
  match hfd : find tag with
  | none =>
    have hv : v = .tuple #[.agg zeros, .int .i64 3] := by rw [HV.out]; unfold means; rw [hfd]
    clear hfd HV
    subst hv
    simp only
    unfold zeros
    iterate 15 go_step
    generalize hw3 : w2.alloc _ = w3
    have hB3 : Below w2.heap.size w2 w3 := by rw [← hw3]; exact (Below.refl _ _).alloc (Nat.le_refl _) _
    have hN3 : w3.heap[w2.heap.size]? = some (.cells zeros 72 (0, 0)) := by rw [← hw3]; exact heap_alloc_new _ _
    have HB3 : Hid (Below w.heap.size w w3) := HB2.out.trans (hB3.mono HB2.out.size)
    obtain ⟨y0, y1, y2, y3, y4, y5, y6, y7, y8⟩ : w3.cell? ⟨R, 0, none⟩ = some (.string ByteArray.empty) ∧ w3.cell? ⟨R, 1, none⟩ = some (.int .i64 0) ∧ w3.cell? ⟨R, 2, none⟩ = some (.int .i64 0) ∧ w3.cell? ⟨R, 3, none⟩ = some (.int .i64 0) ∧ w3.cell? ⟨R, 4, none⟩ = some (.bool false) ∧ w3.cell? ⟨R, 5, none⟩ = some (.int .i64 0) ∧ w3.cell? ⟨R, 6, none⟩ = some (.int .i64 0) ∧ w3.cell? ⟨R, 7, none⟩ = some (.int .i64 0) ∧ w3.cell? ⟨R, 8, none⟩ = some (.int .i64 0) := ⟨(hB3.cell (p := ⟨R, 0, none⟩) hlt).trans z0, (hB3.cell (p := ⟨R, 1, none⟩) hlt).trans z1, (hB3.cell (p := ⟨R, 2, none⟩) hlt).trans z2, (hB3.cell (p := ⟨R, 3, none⟩) hlt).trans z3, (hB3.cell (p := ⟨R, 4, none⟩) hlt).trans z4, (hB3.cell (p := ⟨R, 5, none⟩) hlt).trans z5, (hB3.cell (p := ⟨R, 6, none⟩) hlt).trans z6, (hB3.cell (p := ⟨R, 7, none⟩) hlt).trans z7, (hB3.cell (p := ⟨R, 8, none⟩) hlt).trans z8⟩
    have hf3 : ∀ o, w3.frozen? ⟨R, o, none⟩ = false := fun o => (World.frozen?_of_block (w := w2) (hB3.block R hlt)).trans (hf o)
    have hne : ¬ R = w2.heap.size := by omega
    generalize hM : w2.heap.size = M at *
    clear hw3 hB3 z0 z1 z2 z3 z4 z5 z6 z7 z8 hf hM
    clear hN3
    go_wp2
    refine bodyPost_ret (v := .tuple #[.agg zeros, .int .i64 3]) (by simp [results, Tryd.f34, go_sem, zeros, y0, y1, y2, y3, y4, y5, y6, y7, y8]; rfl) rfl ⟨rfl, ?_⟩
    exact ((((((((HB3.out.setCell (p := ⟨R, 0, none⟩) h2s _).setCell (p := ⟨R, 1, none⟩) h2s _).setCell (p := ⟨R, 2, none⟩) h2s _).setCell (p := ⟨R, 3, none⟩) h2s _).setCell (p := ⟨R, 4, none⟩) h2s _).setCell (p := ⟨R, 5, none⟩) h2s _).setCell (p := ⟨R, 6, none⟩) h2s _).setCell (p := ⟨R, 7, none⟩) h2s _).setCell (p := ⟨R, 8, none⟩) h2s _
  | some m =>
    obtain ⟨hs, _, _⟩ := step_pos hfd
    have HV2 : Hid (v = if fits m n then .tuple #[.agg (vals m), .int .i64 0] else .tuple #[.agg zeros, .int .i64 4]) := (by rw [HV.out]; unfold means; rw [hfd] : v = if fits m n then .tuple #[.agg (vals m), .int .i64 0] else .tuple #[.agg zeros, .int .i64 4])
    clear hfd HV
    simp only
    unfold vals
    iterate 15 go_step
    generalize hw3 : w2.alloc _ = w3
    have hB3 : Below w2.heap.size w2 w3 := by rw [← hw3]; exact (Below.refl _ _).alloc (Nat.le_refl _) _
    have hN3 : w3.heap[w2.heap.size]? = some (.cells (vals m) 72 (0, 0)) := by rw [← hw3]; exact heap_alloc_new _ _
    have HB3 : Hid (Below w.heap.size w w3) := HB2.out.trans (hB3.mono HB2.out.size)
    obtain ⟨y0, y1, y2, y3, y4, y5, y6, y7, y8⟩ : w3.cell? ⟨R, 0, none⟩ = some (.string ByteArray.empty) ∧ w3.cell? ⟨R, 1, none⟩ = some (.int .i64 0) ∧ w3.cell? ⟨R, 2, none⟩ = some (.int .i64 0) ∧ w3.cell? ⟨R, 3, none⟩ = some (.int .i64 0) ∧ w3.cell? ⟨R, 4, none⟩ = some (.bool false) ∧ w3.cell? ⟨R, 5, none⟩ = some (.int .i64 0) ∧ w3.cell? ⟨R, 6, none⟩ = some (.int .i64 0) ∧ w3.cell? ⟨R, 7, none⟩ = some (.int .i64 0) ∧ w3.cell? ⟨R, 8, none⟩ = some (.int .i64 0) := ⟨(hB3.cell (p := ⟨R, 0, none⟩) hlt).trans z0, (hB3.cell (p := ⟨R, 1, none⟩) hlt).trans z1, (hB3.cell (p := ⟨R, 2, none⟩) hlt).trans z2, (hB3.cell (p := ⟨R, 3, none⟩) hlt).trans z3, (hB3.cell (p := ⟨R, 4, none⟩) hlt).trans z4, (hB3.cell (p := ⟨R, 5, none⟩) hlt).trans z5, (hB3.cell (p := ⟨R, 6, none⟩) hlt).trans z6, (hB3.cell (p := ⟨R, 7, none⟩) hlt).trans z7, (hB3.cell (p := ⟨R, 8, none⟩) hlt).trans z8⟩
    have hf3 : ∀ o, w3.frozen? ⟨R, o, none⟩ = false := fun o => (World.frozen?_of_block (w := w2) (hB3.block R hlt)).trans (hf o)
    have hne : ¬ R = w2.heap.size := by omega
    generalize hM : w2.heap.size = M at *
    clear hw3 hB3 z0 z1 z2 z3 z4 z5 z6 z7 z8 hf hM
    have hN := hN3
    unfold vals at hN
    obtain ⟨x0, x1, x2, x3, x4, x5, x6, x7, x8⟩ : w3.cell? ⟨M, 0, none⟩ = some (.string m.tag) ∧ w3.cell? ⟨M, 1, none⟩ = some (.int .i64 m.step) ∧ w3.cell? ⟨M, 2, none⟩ = some (.int .i64 m.most) ∧ w3.cell? ⟨M, 3, none⟩ = some (.int .i64 m.size) ∧ w3.cell? ⟨M, 4, none⟩ = some (.bool m.extra) ∧ w3.cell? ⟨M, 5, none⟩ = some (.int .i64 m.f0) ∧ w3.cell? ⟨M, 6, none⟩ = some (.int .i64 m.f1) ∧ w3.cell? ⟨M, 7, none⟩ = some (.int .i64 m.f2) ∧ w3.cell? ⟨M, 8, none⟩ = some (.int .i64 m.f3) :=
      ⟨cell_of_row _ _ _ _ _ _ hN, cell_of_row _ _ _ _ _ _ hN, cell_of_row _ _ _ _ _ _ hN, cell_of_row _ _ _ _ _ _ hN, cell_of_row _ _ _ _ _ _ hN, cell_of_row _ _ _ _ _ _ hN, cell_of_row _ _ _ _ _ _ hN, cell_of_row _ _ _ _ _ _ hN, cell_of_row _ _ _ _ _ _ hN⟩
    clear hN hN3
    go_wp2_with (go_at_call 52; fail)
    refine (has m n w3 hs).mono ?_
    rintro e w4 ⟨rfl, hB4⟩
    have hR3 : R < w3.heap.size := lt_of_cell y0
    have hM3 : M < w3.heap.size := lt_of_cell x0
    have HB4 : Hid (Below w.heap.size w w4) := HB3.out.trans (hB4.mono HB3.out.size)
    obtain ⟨u0, u1, u2, u3, u4, u5, u6, u7, u8⟩ : w4.cell? ⟨R, 0, none⟩ = some (.string ByteArray.empty) ∧ w4.cell? ⟨R, 1, none⟩ = some (.int .i64 0) ∧ w4.cell? ⟨R, 2, none⟩ = some (.int .i64 0) ∧ w4.cell? ⟨R, 3, none⟩ = some (.int .i64 0) ∧ w4.cell? ⟨R, 4, none⟩ = some (.bool false) ∧ w4.cell? ⟨R, 5, none⟩ = some (.int .i64 0) ∧ w4.cell? ⟨R, 6, none⟩ = some (.int .i64 0) ∧ w4.cell? ⟨R, 7, none⟩ = some (.int .i64 0) ∧ w4.cell? ⟨R, 8, none⟩ = some (.int .i64 0) := ⟨(hB4.cell (p := ⟨R, 0, none⟩) hR3).trans y0, (hB4.cell (p := ⟨R, 1, none⟩) hR3).trans y1, (hB4.cell (p := ⟨R, 2, none⟩) hR3).trans y2, (hB4.cell (p := ⟨R, 3, none⟩) hR3).trans y3, (hB4.cell (p := ⟨R, 4, none⟩) hR3).trans y4, (hB4.cell (p := ⟨R, 5, none⟩) hR3).trans y5, (hB4.cell (p := ⟨R, 6, none⟩) hR3).trans y6, (hB4.cell (p := ⟨R, 7, none⟩) hR3).trans y7, (hB4.cell (p := ⟨R, 8, none⟩) hR3).trans y8⟩
    obtain ⟨t0, t1, t2, t3, t4, t5, t6, t7, t8⟩ : w4.cell? ⟨M, 0, none⟩ = some (.string m.tag) ∧ w4.cell? ⟨M, 1, none⟩ = some (.int .i64 m.step) ∧ w4.cell? ⟨M, 2, none⟩ = some (.int .i64 m.most) ∧ w4.cell? ⟨M, 3, none⟩ = some (.int .i64 m.size) ∧ w4.cell? ⟨M, 4, none⟩ = some (.bool m.extra) ∧ w4.cell? ⟨M, 5, none⟩ = some (.int .i64 m.f0) ∧ w4.cell? ⟨M, 6, none⟩ = some (.int .i64 m.f1) ∧ w4.cell? ⟨M, 7, none⟩ = some (.int .i64 m.f2) ∧ w4.cell? ⟨M, 8, none⟩ = some (.int .i64 m.f3) := ⟨(hB4.cell (p := ⟨M, 0, none⟩) hM3).trans x0, (hB4.cell (p := ⟨M, 1, none⟩) hM3).trans x1, (hB4.cell (p := ⟨M, 2, none⟩) hM3).trans x2, (hB4.cell (p := ⟨M, 3, none⟩) hM3).trans x3, (hB4.cell (p := ⟨M, 4, none⟩) hM3).trans x4, (hB4.cell (p := ⟨M, 5, none⟩) hM3).trans x5, (hB4.cell (p := ⟨M, 6, none⟩) hM3).trans x6, (hB4.cell (p := ⟨M, 7, none⟩) hM3).trans x7, (hB4.cell (p := ⟨M, 8, none⟩) hM3).trans x8⟩
    have hf4 : ∀ o, w4.frozen? ⟨R, o, none⟩ = false := fun o => (World.frozen?_of_block (w := w3) (hB4.block R hR3)).trans (hf3 o)
    clear hB4 y0 y1 y2 y3 y4 y5 y6 y7 y8 x0 x1 x2 x3 x4 x5 x6 x7 x8 hf3 HB3 HB2 hR3 hM3
    match hft : fits m n with
    | true =>
      have hv : v = .tuple #[.agg (vals m), .int .i64 0] := by rw [HV2.out, hft]; rfl
      clear hft HV2
      subst hv
      go_wp2
      refine bodyPost_ret (v := .tuple #[.agg (vals m), .int .i64 0]) (by simp [results, Tryd.f34, go_sem, vals, u0, u1, u2, u3, u4, u5, u6, u7, u8]) rfl ⟨rfl, ?_⟩
      exact ((((((((HB4.out.setCell (p := ⟨R, 0, none⟩) h2s _).setCell (p := ⟨R, 1, none⟩) h2s _).setCell (p := ⟨R, 2, none⟩) h2s _).setCell (p := ⟨R, 3, none⟩) h2s _).setCell (p := ⟨R, 4, none⟩) h2s _).setCell (p := ⟨R, 5, none⟩) h2s _).setCell (p := ⟨R, 6, none⟩) h2s _).setCell (p := ⟨R, 7, none⟩) h2s _).setCell (p := ⟨R, 8, none⟩) h2s _
    | false =>
      have hv : v = .tuple #[.agg zeros, .int .i64 4] := by rw [HV2.out, hft]; rfl
      clear hft HV2
      subst hv
      go_wp2
      refine bodyPost_ret (v := .tuple #[.agg zeros, .int .i64 4]) (by simp [results, Tryd.f34, go_sem, zeros, u0, u1, u2, u3, u4, u5, u6, u7, u8]; rfl) rfl ⟨rfl, ?_⟩
      exact ((((((((HB4.out.setCell (p := ⟨R, 0, none⟩) h2s _).setCell (p := ⟨R, 1, none⟩) h2s _).setCell (p := ⟨R, 2, none⟩) h2s _).setCell (p := ⟨R, 3, none⟩) h2s _).setCell (p := ⟨R, 4, none⟩) h2s _).setCell (p := ⟨R, 5, none⟩) h2s _).setCell (p := ⟨R, 6, none⟩) h2s _).setCell (p := ⟨R, 7, none⟩) h2s _).setCell (p := ⟨R, 8, none⟩) h2s _

theorem meant (tag : ByteArray) (n : Int) (w : World) (ht : Tab w) :
    Calls Tryd.prog 34 #[.string tag, .int .i64 n] w fun e w' => e = .returned (means tag n) ∧ Below w.heap.size w w' := meant_at tag n _ w ht rfl

end Go.Proofs.YtcohalkofahphaaDoor.Img
