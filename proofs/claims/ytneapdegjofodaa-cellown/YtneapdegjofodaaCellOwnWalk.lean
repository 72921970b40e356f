/- CellOwn, walked: whatever comes in, true comes out. -/
import Derived.Test.YtneapdegjofodaaAwake
import Derived.Test.YtneapdegjofodaaList
import Derived.Test.YtneapdegjofodaaGrid2
namespace Go.Proofs.Ytneapdegjofodaa.cellOwn
open Go.RowKit

theorem ring_set {w : World} {b room : Nat} {v : Value} {L : List Int} (h : RingInt.Ring w b room v L) (a : Addr) (x : Value) (h1 : b ≠ a.block) (h2 : ∀ k, v.ownBlock = some k → k ≠ a.block) : RingInt.Ring (w.setCell a x) b room v L := by
  obtain ⟨e, xs, h⟩ := h
  exact ⟨e, xs, h.kept (Below.heap_setCell _ _ _ _ h1) (fun k hk => Below.heap_setCell _ _ _ _ (h2 k hk))⟩
theorem grid_set {w : World} {b g W H N : Nat} {f : List Int} (h : Grid.GAt w b g W H N f) (a : Addr) (x : Value) (h1 : b ≠ a.block) (h2 : g ≠ a.block) : Grid.GAt (w.setCell a x) b g W H N f :=
  h.kept (Below.heap_setCell _ _ _ _ h1) (Below.heap_setCell _ _ _ _ h2)

set_option maxRecDepth 100000 in
set_option maxHeartbeats 1000000 in
theorem walk (a0 : Int) (_ : (Lit.int .i64 a0).wf = true) (a1 : Int) (_ : (Lit.int .i64 a1).wf = true) (W : World) :
    Calls Try.prog 8 #[.int .i64 a0, .int .i64 a1] W fun e w' => e = .returned (.bool true) ∧ Below W.heap.size W w' := by
  have hxx : (a0 == a0) = true := beq_self_eq_true a0
  go_enter Try.func8, Try.ntmps8
  go_wp2_with (go_at_call 9; fail)
  refine (RingInt.New_yes 3 _ (by decide) (by decide)).mono ?_
  rintro e w1 ⟨rfl, hR1, hB1⟩
  have HR1 : Hid (RingInt.Ring w1 W.heap.size 3 (.slice none 0 0) []) := hR1
  have HB1 : Hid (Below W.heap.size W w1) := hB1
  clear hR1 hB1
  go_wp2_with (go_at_call 10; fail)
  refine (RingInt.Put W.heap.size 3 _ a0 [] _ HR1.out).mono ?_
  rintro e w2 ⟨rfl, v2, hR2, hP2, _⟩
  have HR2 : Hid (RingInt.Ring w2 W.heap.size 3 v2 [a0]) := hR2
  have HB2 : Hid (Below W.heap.size W w2) := HB1.out.trans (hP2.below (Nat.le_refl _) HB1.out.size (fun k hk => by cases hk))
  clear hR2 hP2 HR1 HB1
  go_wp2_with (go_at_call 10; fail)
  refine (RingInt.Put W.heap.size 3 _ a1 [a0] _ HR2.out).mono ?_
  rintro e w3 ⟨rfl, v3, hR3, hP3, _⟩
  have HR3 : Hid (RingInt.Ring w3 W.heap.size 3 v3 [a0, a1]) := hR3
  have HB3 : Hid (Below W.heap.size W w3) := HB2.out.trans (hP3.below (Nat.le_refl _) HB2.out.size (fun k hk => by have := (HR2.out.ge k hk).1; omega))
  have hge := HR3.out.ge
  have HGE : Hid (∀ k, v3.ownBlock = some k → W.heap.size + 1 ≤ k ∧ k < w3.heap.size) := hge
  have hlt := HR3.out.lt
  clear hR3 hP3 HR2 HB2 hge
  go_wp2_with (go_at_call 14; fail)
  refine (RingInt.RList W.heap.size 3 _ [a0, a1] _ HR3.out).mono ?_
  rintro e w4 ⟨g, cap, rfl, hg, hO4, hB4⟩
  have HR4 : Hid (RingInt.Ring w4 W.heap.size 3 v3 [a0, a1]) := HR3.out.below hB4
  have HB4 : Hid (Below W.heap.size W w4) := HB3.out.trans (hB4.mono HB3.out.size)
  have c4 : w4.cell? ⟨g, 0, none⟩ = some (.int .i64 a0) := by
    have := hO4.cellAt 0 (by simp)
    simpa using this
  have f4 : w4.frozen? ⟨g, 0, none⟩ = false := hO4.frozenAt 0
  have hg4 : g < w4.heap.size := lt_of_cell c4
  clear hO4 hB4 HR3 HB3
  go_wp2_with (go_at_call 18; fail)
  refine (Grid.New_yes 2 1 a0 _ (by decide) (by decide) (by decide) (by decide)).mono ?_
  rintro e w5 ⟨bG, gG, rfl, hgG, hbG, hG5, hB5⟩
  have HR5 : Hid (RingInt.Ring w5 W.heap.size 3 v3 [a0, a1]) := HR4.out.below hB5
  have HB5 : Hid (Below W.heap.size W w5) := HB4.out.trans (hB5.mono HB4.out.size)
  have HG5 : Hid (Grid.GAt w5 bG gG 2 1 2 [a0, a0]) := hG5
  have c5 := (hB5.cell (p := ⟨g, 0, none⟩) hg4).trans c4
  have f5 := (hB5.frozen (p := ⟨g, 0, none⟩) hg4).trans f4
  have hs5 := hB5.size
  have hl5 := HG5.out.lt
  clear hG5 hB5 HR4 HB4 c4 f4
  go_wp2_with (go_at_call 22; fail)
  refine (Grid.Row_yes bG gG 2 1 2 0 [a0, a0] _ HG5.out (by decide)).mono ?_
  rintro e w6 ⟨r, rfl, hr, hrow, hB6⟩
  have HR6 : Hid (RingInt.Ring w6 W.heap.size 3 v3 [a0, a1]) := HR5.out.below hB6
  have HB6 : Hid (Below W.heap.size W w6) := HB5.out.trans (hB6.mono HB5.out.size)
  have HG6 : Hid (Grid.GAt w6 bG gG 2 1 2 [a0, a0]) := HG5.out.below hB6
  have c6 := (hB6.cell (p := ⟨g, 0, none⟩) (by show g < _; omega)).trans c5
  have f6 := (hB6.frozen (p := ⟨g, 0, none⟩) (by show g < _; omega)).trans f5
  have cr : w6.cell? ⟨r, 0, none⟩ = some (.int .i64 a0) := by rw [Joins.cell_of_block hrow 0]; rfl
  have fr : w6.frozen? ⟨r, 0, none⟩ = false := Joins.unfrozen_of_block hrow 0
  have hrg : ¬ r = g := by omega
  have hgr : ¬ g = r := by omega
  have hs6 := HB6.out.size
  have hs3 := HB5.out.size
  clear hrow hB6 HR5 HB5 HG5 c5 f5
  have HR7 : Hid (RingInt.Ring ((w6.setCell ⟨g, 0, none⟩ (.int .i64 5)).setCell ⟨r, 0, none⟩ (.int .i64 6)) W.heap.size 3 v3 [a0, a1]) :=
    ring_set (ring_set HR6.out _ _ (by show _ ≠ g; omega) (fun k hk => by have := HGE.out k hk; show _ ≠ g; omega)) _ _ (by show _ ≠ r; omega) (fun k hk => by have := HGE.out k hk; show _ ≠ r; omega)
  have HG7 : Hid (Grid.GAt ((w6.setCell ⟨g, 0, none⟩ (.int .i64 5)).setCell ⟨r, 0, none⟩ (.int .i64 6)) bG gG 2 1 2 [a0, a0]) :=
    grid_set (grid_set HG6.out _ _ (by show _ ≠ g; omega) (by show _ ≠ g; omega)) _ _ (by show _ ≠ r; omega) (by show _ ≠ r; omega)
  have HB7 : Hid (Below W.heap.size W ((w6.setCell ⟨g, 0, none⟩ (.int .i64 5)).setCell ⟨r, 0, none⟩ (.int .i64 6))) :=
    (HB6.out.setCell (p := ⟨g, 0, none⟩) (by show _ ≤ g; omega) _).setCell (p := ⟨r, 0, none⟩) (by show _ ≤ r; omega) _
  clear HR6 HG6 HB6
  go_wp2_with (go_at_call 12; fail)
  refine (RingInt.At_yes W.heap.size 3 0 _ a0 [a0, a1] _ HR7.out rfl).mono ?_
  rintro e w8 ⟨rfl, q, rfl⟩
  go_wp2_with (go_at_call 20; fail)
  refine (Grid.Get_yes bG gG 2 1 2 0 0 0 a0 [a0, a0] _ (HG7.out.draws q) (by decide) (by decide) rfl rfl).mono ?_
  rintro e w9 ⟨rfl, rfl⟩
  have HB9 : Hid (Below W.heap.size W (((w6.setCell ⟨g, 0, none⟩ (.int .i64 5)).setCell ⟨r, 0, none⟩ (.int .i64 6)).drewN q)) := below_drewN HB7.out q
  go_wp2_with (go_at_call 15; refine (awake3 _).mono ?_; rintro e w10 ⟨rfl, hb10⟩)
  go_ret
  exact ⟨rfl, HB9.out.trans (hb10.mono HB9.out.size)⟩

end Go.Proofs.Ytneapdegjofodaa.cellOwn
