/- What the greater calls of package timer do. -/
import Derived.Test.YtgclgegdojnpcaaDoorTimer
namespace Go.Proofs.YtgclgegdojnpcaaDoor.Tm
open Go.RowKit

/-- A timer's words. -/
def words (s : St) : Array Go.Value := #[.int .i64 (s.v : Int), .int .i64 (s.p : Int), .int .i64 (s.l : Int), .int .i64 (one s.fast), .int .i64 (one s.flag)]

set_option maxHeartbeats 1000000 in
theorem Words (b off : Nat) (s : St) (w : World) (hv : s.v ≤ 255) (h : TAt w b off s) : Calls Tryd.prog 32 #[.pointer (some ⟨b, off, none⟩)] w fun e w' => e = .returned (.agg (words s)) ∧ Below w.heap.size w w' := by
  obtain ⟨v, p, l, fa, fl⟩ := s
  obtain ⟨h0, h1, h2, h3, h4, hf⟩ := h
  simp only at h0 h1 h2 h3 h4 hv
  have hvw : IntKind.i64.wrap (v : Int) = v := by rw [IntKind.wrap_i64]; omega
  go_enter Tryd.func32, Tryd.ntmps32
  go_wp2
  go_region_held3 (fun w' => w'.cell? ⟨b, off, none⟩ = some (.int .u8 (v : Int)) ∧ w'.cell? ⟨b, off + 1, none⟩ = some (.int .i64 (p : Int)) ∧ w'.cell? ⟨b, off + 2, none⟩ = some (.int .i64 (l : Int)) ∧ w'.cell? ⟨b, off + 3, none⟩ = some (.bool fa) ∧ w'.cell? ⟨b, off + 4, none⟩ = some (.bool fl)) (go_keep) (first
    | (go_at_call 58; refine (oneIf _ _).mono ?_; rintro e w' ⟨rfl, rfl⟩))
  all_goals go_wp2
  all_goals go_returns
  all_goals exact ⟨rfl, by go_grown⟩

theorem run_index_array {P : Program} (w : World) (t e : TypeId) (n : Nat) (cs : Array Go.Value) (k : IntKind) (i : Nat) (v : Go.Value) (h : P.underlying t = some (.array n e)) (hs : ∀ w, (sizeOf e).run P w = .ok 1 w) (ha : ∀ w, (isAgg e).run P w = .ok false w) (hi : i < n) (hv : cs[i]? = some v) :
    (Instr.index t (.agg cs) (.int k (i : Int))).run P w = .ok v w := by
  have h1 : (0 : Int) ≤ (i : Int) ∧ (i : Int) < (n : Int) := by omega
  simp [Instr.index, run_underlying h, asIntOf, h1, hs, ha, hi, hv, go_sem]
theorem sizeInt (w : World) : (sizeOf 3).run Tryd.prog w = .ok 1 w := by
  have h : (Tryd.prog.info? 3).map (·.size) = some 1 := by kernel_rfl
  obtain ⟨i, h1, h2⟩ := Option.map_eq_some_iff.1 h
  rw [run_sizeOf w h1, show Tryd.prog.cellsOf 3 = 1 by kernel_rfl]
theorem aggInt (w : World) : (isAgg 3).run Tryd.prog w = .ok false w := run_isAgg_plain Tryd.underlying3 rfl w
theorem at4 (w : World) (i : Nat) (v : Go.Value) (hi : i < 4) (hv : (#[.int .i64 1, .int .i64 8, .int .i64 64, .int .i64 1024] : Array Go.Value)[i]? = some v) :
    (Instr.index 102 (.agg #[.int .i64 1, .int .i64 8, .int .i64 64, .int .i64 1024]) (.int .i64 (i : Int))).run Tryd.prog w = .ok v w :=
  run_index_array w 102 3 4 _ .i64 i v Tryd.underlying102 sizeInt aggInt hi hv

set_option maxHeartbeats 1000000 in
theorem isInterval (p : Nat) (w : World) (ht : Tab w) (hp : p = 1 ∨ p = 8 ∨ p = 64 ∨ p = 1024) : Calls Tryd.prog 75 #[.int .i64 (p : Int)] w fun e w' => e = .returned (.bool true) ∧ w' = w := by
  obtain ⟨t0, t1, t2, t3⟩ := ht
  have r0 := at4 w 0 _ (by decide) rfl
  have r1 := at4 w 1 _ (by decide) rfl
  have r2 := at4 w 2 _ (by decide) rfl
  have r3 := at4 w 3 _ (by decide) rfl
  simp only [Int.cast_ofNat_Int] at r0 r1 r2 r3
  rcases hp with rfl | rfl | rfl | rfl
  all_goals
    go_enter Tryd.func75, Tryd.ntmps75
    go_wp2
    go_rounds 5
    go_returns
    exact ⟨rfl, rfl⟩

set_option maxRecDepth 100000 in
set_option maxHeartbeats 2000000 in
theorem Set (b off : Nat) (s0 s : St) (w : World) (ht : Tab w) (hs : s.ok) (h : TAt w b off s0) : Calls Tryd.prog 66 #[.pointer (some ⟨b, off, none⟩), .agg (words s)] w fun e w' =>
    e = .returned (.int .i64 0) ∧ TAt w' b off s ∧ Turn b w w' := by
  obtain ⟨v0, p0, l0, fa0, fl0⟩ := s0
  obtain ⟨v, p, l, fa, fl⟩ := s
  have hp := hs.2.1
  obtain ⟨hv, -, hl1, hlp⟩ := hs
  simp only at hv hp hl1 hlp
  have hlt := h.lt
  have HT : Hid (Tab w) := ht
  have H : Hid (TAt w b off ⟨v0, p0, l0, fa0, fl0⟩) := h
  have HP : Hid (p = 1 ∨ p = 8 ∨ p = 64 ∨ p = 1024) := hp
  have hp2 : p ≤ 1024 := by omega
  clear hp ht h
  unfold words
  simp only
  have h3a : 0 ≤ one fa ∧ one fa ≤ 1 := by unfold one; split <;> omega
  have h4a : 0 ≤ one fl ∧ one fl ≤ 1 := by unfold one; split <;> omega
  have H3 : Hid ((one fa == 1) = fa) := by cases fa <;> rfl
  have H4 : Hid ((one fl == 1) = fl) := by cases fl <;> rfl
  have hvw : IntKind.u8.wrap (v : Int) = v := by rw [IntKind.wrap_u8']; omega
  generalize one fa = f3 at *
  generalize one fl = f4 at *
  obtain ⟨h31, h32⟩ := h3a
  obtain ⟨h41, h42⟩ := h4a
  go_enter Tryd.func66, Tryd.ntmps66
  go_wp2
  generalize hw1 : w.alloc _ = w1
  have HB1 : Hid (Below w.heap.size w w1) := (by rw [← hw1]; exact (Below.refl _ _).alloc (Nat.le_refl _) _ : Below w.heap.size w w1)
  have HT1 : Hid (Tab w1) := HT.out.below HB1.out (by omega)
  have H1 : Hid (TAt w1 b off ⟨v0, p0, l0, fa0, fl0⟩) := H.out.below HB1.out
  have hS : w1.heap[w.heap.size]? = some (.cells #[.int .i64 (v : Int), .int .i64 (p : Int), .int .i64 (l : Int), .int .i64 f3, .int .i64 f4] 75 (0, 0)) := by rw [← hw1]; exact heap_alloc_new _ _
  have x0 := cell_of_row _ _ 0 _ _ _ hS
  have x1 := cell_of_row _ _ 1 _ _ _ hS
  have x2 := cell_of_row _ _ 2 _ _ _ hS
  have x3 := cell_of_row _ _ 3 _ _ _ hS
  have x4 := cell_of_row _ _ 4 _ _ _ hS
  simp at x0 x1 x2 x3 x4
  clear hw1 hS
  obtain ⟨h0, h1, h2, h3, h4, hf⟩ := H1.out
  simp only at h0 h1 h2 h3 h4
  go_quiet (fail)
  go_wp2_with (go_at_call 75; refine (isInterval p _ (by first | exact HT1.out | exact HT1.out.below (below_drewN (Below.refl _ _) _) (by have := HB1.out.size; omega)) HP.out).mono ?_; rintro e w2 ⟨rfl, rfl⟩)
  go_returns
  rw [H3.out, H4.out]
  have hq := below_drewN HB1.out
  exact ⟨rfl, ((((((H1.out.draws _).put0 v).put1 p).put2 l).put3 fa).put4 fl), (Turn.of_below (hq _)).trans ((((((Turn.refl b _).set _ _).set _ _).set _ _).set _ _).set _ _)⟩

set_option maxRecDepth 100000 in
set_option maxHeartbeats 1000000 in
theorem New (w : World) (ht : Tab w) : Calls Tryd.prog 23 #[] w fun e w' => ∃ b, e = .returned (.pointer (some ⟨b, 0, none⟩)) ∧ w.heap.size ≤ b ∧ TAt w' b 0 (wr 255 3) ∧ Below w.heap.size w w' := by
  have h0 := ht.lt
  have HT : Hid (Tab w) := ht
  clear ht
  go_enter Tryd.func23, Tryd.ntmps23
  go_wp2_with (go_at_call 46; fail)
  have hh := heap_alloc_new w (.cells #[.int .u8 0, .int .i64 0, .int .i64 0, .bool false, .bool false] 85)
  have HA : Hid (TAt (w.alloc (.cells #[.int .u8 0, .int .i64 0, .int .i64 0, .bool false, .bool false] 85)) w.heap.size 0 ⟨0, 0, 0, false, false⟩) := ⟨cell_of_row _ _ _ _ _ _ hh, cell_of_row _ _ _ _ _ _ hh, cell_of_row _ _ _ _ _ _ hh, cell_of_row _ _ _ _ _ _ hh, cell_of_row _ _ _ _ _ _ hh, fun _ => frozen_of_row _ _ _ _ _ hh⟩
  have HB : Hid (Below w.heap.size w (w.alloc (.cells #[.int .u8 0, .int .i64 0, .int .i64 0, .bool false, .bool false] 85))) := (Below.refl _ w).alloc (Nat.le_refl _) _
  clear hh
  refine (Write w.heap.size 0 _ 255 3 _ (HT.out.below HB.out h0) HA.out).mono ?_
  rintro e w2 ⟨rfl, hA2, hT2⟩
  have HB2 : Hid (Below w.heap.size w w2) := HB.out.trans (hT2.below (Nat.le_refl _) HB.out.size)
  have HA2 : Hid (TAt w2 w.heap.size 0 (wr 255 3)) := hA2
  clear hA2 hT2 HA HB
  go_wp2
  go_returns
  exact ⟨_, rfl, Nat.le_refl _, HA2.out, HB2.out⟩

end Go.Proofs.YtgclgegdojnpcaaDoor.Tm
