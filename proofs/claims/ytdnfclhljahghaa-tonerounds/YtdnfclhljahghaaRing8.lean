/- What the calls of package poly that go round do, over words of 8 bits: round and its function, Period, Place. -/
import Derived.Test.YtdnfclhljahghaaPoly8
import Derived.RangeFuncFrom
import Derived.RangeFuncLeaves
import Derived.RangeFuncCalls
import Derived.RangeFuncBound
import Derived.Shelf.Abstract
import Derived.OwnWalkIn
import Derived.TacticsInMore
import Derived.LoopNIn
import Derived.LoopIn
namespace Go.Proofs.Ytdnfclhljahghaa.Poly8
open Go.RowKit Go.Shelf

attribute [local go_sem] Oper.semAt_some

/-- The blocks of S lie in W' as in W. -/
def Keeps (S : Nat → Prop) (W W' : World) : Prop := ∀ k, S k → W'.heap[k]? = W.heap[k]?
theorem Keeps.cell {S : Nat → Prop} {W W' : World} (h : Keeps S W W') {p : Addr} (hp : S p.block) : W'.cell? p = W.cell? p := World.cell?_of_block (w := W) (h p.block hp)
theorem Keeps.trans {S : Nat → Prop} {A B C : World} (h : Keeps S A B) (g : Keeps S B C) : Keeps S A C := fun i hi => (g i hi).trans (h i hi)
theorem Keeps.refl (S : Nat → Prop) (W : World) : Keeps S W W := fun _ _ => rfl
theorem Keeps.put {S : Nat → Prop} {w : World} (hS : ∀ k, S k → k < w.heap.size) (W : World) (l : Nat) (o o' : Obj) (hl : w.heap.size ≤ l) (_ : W.heap[l]? = some o) (_ : o.isCells = false) (_ : o.isWalk = false) : Keeps S W (W.putObj l o') :=
  fun _ hk => World.putObj_heap_other (by have := hS _ hk; omega)
theorem Keeps.setCell {S : Nat → Prop} (W : World) (a : Addr) (v : Value) (h : ¬ S a.block) : Keeps S W (W.setCell a v) :=
  fun _ hk => Below.heap_setCell _ _ _ _ (fun e => h (e ▸ hk))

set_option maxRecDepth 100000 in
set_option maxHeartbeats 1000000 in
theorem round1 (n : Nat) (hn : 1 ≤ n) (l Bf Bp b off s size tap p : Nat) (S : Nat → Prop) (J Jx : List Nat → World → Prop) (hg : Good size tap s) (hp : IsPer size tap s p)
    (hY : ∀ (pre : List Nat) (x : Nat) (W : World), J pre W → pre.length < p → YieldAt Fence.wide (n - 1) Try.prog l #[.int .u8 (x : Int)] W fun e W' =>
      (e = .returned (.bool true) ∧ J (pre ++ [x]) W' ∧ Keeps S W W') ∨ (e = .returned (.bool false) ∧ Jx (pre ++ [x]) W'))
    (W : World) (hBf : W.cell? ⟨Bf, 0, none⟩ = some (.int .u8 (s : Int))) (hBp : W.cell? ⟨Bp, 0, none⟩ = some (.pointer (some ⟨b, off, none⟩)))
    (h1 : W.cell? ⟨b, off + 1, none⟩ = some (.int .u8 (size : Int))) (h2 : W.cell? ⟨b, off + 2, none⟩ = some (.int .u8 (tap : Int)))
    (lf : S Bf) (lp : S Bp) (lb : S b) (h0 : J [] W) :
    CallsIn Fence.wide n Try.prog 90 #[.func (.yield l) #[] #[], .pointer (some ⟨Bf, 0, none⟩), .pointer (some ⟨Bp, 0, none⟩)] W fun e W' => (∃ v, e = .returned v) ∧
      ((∃ ys, ys = ring size tap s p ∧ J ys W') ∨ (∃ pre, pre <+: ring size tap s p ∧ Jx pre W')) := by
  refine callsIn_of_wp Try.func90 rfl trivial ?_ rfl
  simp only [Try.ntmps90, List.size_toArray, List.length_cons, List.length_nil, Nat.reduceAdd, Nat.reduceSub, Array.replicate_succ, Array.replicate_zero, List.push_toArray, List.append_toArray, List.nil_append, List.cons_append]
  gi_wp2
  gi_loopw [4] (fun v wr => ∃ k : Nat, k < p ∧ v = .int .u8 ((orb size tap k s : Nat) : Int) ∧ Keeps S W wr ∧ J (ring size tap s k) wr)
    (fun v _ => p - spot size tap s p (intOf v).toNat)
  case atStart =>
    exact ⟨0, hp.pos, rfl, Keeps.refl _ _, h0⟩
  case round =>
    obtain ⟨k, hk, rfl, hB, hJs⟩ := hrel
    have HS : Hid (ring size tap s k ++ [orb size tap k s] = ring size tap s (k + 1)) := (ring_succ size tap s k).symm
    obtain ⟨fn, tmps, assign, body, hy, hR⟩ := hY (ring size tap s k) (orb size tap k s) wr hJs (by rw [ring_length]; exact hk)
    gi_wp2
    refine hR.mono ?_
    rintro e W3 (⟨rfl, hJ3, hk3⟩ | ⟨rfl, hJx3⟩)
    · have hB3 : Keeps S W W3 := hB.trans hk3
      have q1 : W3.cell? ⟨b, off + 1, none⟩ = some (.int .u8 (size : Int)) := (hB3.cell (p := ⟨b, off + 1, none⟩) lb).trans h1
      have q2 : W3.cell? ⟨b, off + 2, none⟩ = some (.int .u8 (tap : Int)) := (hB3.cell (p := ⟨b, off + 2, none⟩) lb).trans h2
      have q3 : W3.cell? ⟨Bf, 0, none⟩ = some (.int .u8 (s : Int)) := (hB3.cell (p := ⟨Bf, 0, none⟩) lf).trans hBf
      have q4 : W3.cell? ⟨Bp, 0, none⟩ = some (.pointer (some ⟨b, off, none⟩)) := (hB3.cell (p := ⟨Bp, 0, none⟩) lp).trans hBp
      have HJ : Hid (J (ring size tap s (k + 1)) W3) := by rw [HS.out] at hJ3; exact hJ3
      clear hJ3 hJs hY hR hy h0
      by_cases hl : k + 1 < p
      · have hne : (((nxt size tap (orb size tap k s) : Nat) : Int) == (s : Int)) = false := by
          have := hp.first (k + 1) (by omega) hl
          rw [beq_eq_false_iff_ne]
          intro e
          exact this (by simp only [orb]; omega)
        gi_wp2_with (refine ⟨trivial, ?_⟩; gi_at_call 87; refine (callsIn_wide.2 (after b off (orb size tap k s) size tap _ (hg.orb k) q1 q2)).mono ?_; rintro e w' ⟨rfl, rfl⟩)
        go_roundw
        case rel => exact ⟨k + 1, hl, rfl, hB3, HJ.out⟩
        case measure =>
          have a := spot_orb hp hg.t1 hg.t2 hg.st hk
          have b := spot_orb hp hg.t1 hg.t2 hg.st hl
          simp only [orb] at b
          simp [intOf, a, b]
          omega
      · have he : (((nxt size tap (orb size tap k s) : Nat) : Int) == (s : Int)) = true := by
          have := hp.back
          rw [show p = k + 1 from by omega] at this
          simp only [orb] at this
          rw [this, beq_self_eq_true]
        gi_wp2_with (refine ⟨trivial, ?_⟩; gi_at_call 87; refine (callsIn_wide.2 (after b off (orb size tap k s) size tap _ (hg.orb k) q1 q2)).mono ?_; rintro e w' ⟨rfl, rfl⟩)
        refine bodyPost_ret (results_none rfl _ _ _) rfl ?_
        exact ⟨⟨_, rfl⟩, .inl ⟨_, rfl, by rw [show p = k + 1 from by omega]; exact HJ.out⟩⟩
    · gi_wp2
      go_end0
      exact ⟨⟨_, rfl⟩, .inr ⟨_, by rw [HS.out]; exact ring_prefix (by omega), hJx3⟩⟩

set_option maxHeartbeats 1000000 in
theorem round (n : Nat) (b off s : Nat) (w : World) :
    CallsIn Fence.wide n Try.prog 88 #[.pointer (some ⟨b, off, none⟩), .int .u8 (s : Int)] w fun e w' =>
      e = .returned (.func (.func 90) #[] #[.pointer (some ⟨w.heap.size + 1, 0, none⟩), .pointer (some ⟨w.heap.size, 0, none⟩)]) ∧
      w' = (w.alloc (.cells #[.pointer (some ⟨b, off, none⟩)] 77)).alloc (.cells #[.int .u8 (s : Int)] 5) := by
  refine callsIn_of_wp Try.func88 rfl trivial ?_ rfl
  simp only [Try.ntmps88, List.size_toArray, List.length_cons, List.length_nil, Nat.reduceAdd, Nat.reduceSub, Array.replicate_succ, Array.replicate_zero, List.push_toArray, List.append_toArray, List.nil_append, List.cons_append]
  gi_wp2
  go_ret
  exact ⟨rfl, rfl⟩

theorem round_stops (n : Nat) (hn : 1 ≤ n) (Bf Bp b off s size tap p : Nat) (S : Nat → Prop) (w : World) (hg : Good size tap s) (hp : IsPer size tap s p)
    (hBf : w.cell? ⟨Bf, 0, none⟩ = some (.int .u8 (s : Int))) (hBp : w.cell? ⟨Bp, 0, none⟩ = some (.pointer (some ⟨b, off, none⟩)))
    (h1 : w.cell? ⟨b, off + 1, none⟩ = some (.int .u8 (size : Int))) (h2 : w.cell? ⟨b, off + 2, none⟩ = some (.int .u8 (tap : Int)))
    (lf : S Bf) (lp : S Bp) (lb : S b) (ln : ∀ k, S k → k < w.heap.size) :
    SeqStopsK Fence.wide n Try.prog 90 #[.pointer (some ⟨Bf, 0, none⟩), .pointer (some ⟨Bp, 0, none⟩)] (fun x : Nat => #[Value.int .u8 (x : Int)]) (Keeps S)
      (fun ys => ys = ring size tap s p) (fun pre => pre <+: ring size tap s p) p w := fun l J Jx W hW _ _ hY h0 =>
  round1 n hn l Bf Bp b off s size tap p S J Jx hg hp hY W ((hW.cell (p := ⟨Bf, 0, none⟩) (ln _ lf)).trans hBf) ((hW.cell (p := ⟨Bp, 0, none⟩) (ln _ lp)).trans hBp)
    ((hW.cell (p := ⟨b, off + 1, none⟩) (ln _ lb)).trans h1) ((hW.cell (p := ⟨b, off + 2, none⟩) (ln _ lb)).trans h2) lf lp lb h0

theorem new_cell (W : World) (v : Value) (t : TypeId) : (W.alloc (.cells #[v] t)).cell? ⟨W.heap.size, 0, none⟩ = some v ∧ (W.alloc (.cells #[v] t)).frozen? ⟨W.heap.size, 0, none⟩ = false := by
  have h : (W.alloc (.cells #[v] t)).heap[W.heap.size]? = some (.cells #[v] t (0, 0)) := World.alloc_heap_new W _
  exact ⟨cell_of_one h, free_of_one h⟩
theorem old_cell {W : World} {a : Addr} {v : Value} (o : Obj) (h : W.cell? a = some v) : (W.alloc o).cell? a = some v := cell_kept h (World.grownBy_alloc W o none) (fun r e => by cases e)
theorem old_frozen {W : World} {a : Addr} {v : Value} (o : Obj) (h : W.cell? a = some v) (hf : W.frozen? a = false) : (W.alloc o).frozen? a = false := (frozen_kept h (World.grownBy_alloc W o none) (fun r e => by cases e)).trans hf

set_option maxRecDepth 100000 in
set_option maxHeartbeats 2000000 in
theorem Place_in (b off s size tap p t : Nat) (w : World) (hg : Good size tap 0) (hp : IsPer size tap 0 p) (h : At w b off s size tap) :
    CallsIn Fence.wide 3 Try.prog 82 #[.pointer (some ⟨b, off, none⟩), .int .u8 (t : Int)] w fun e w' =>
      e = .returned (.tuple #[.int .i64 ((plN size tap p t : Nat) : Int), .bool (plB size tap p t)]) ∧ Below w.heap.size w w' := by
  have hb := h.lt
  obtain ⟨h0, h1, h2, hf⟩ := h
  refine callsIn_of_wp_marks Try.func82 rfl trivial ?_ rfl
  simp only [Try.ntmps82, List.size_toArray, List.length_cons, List.length_nil, Nat.reduceAdd, Nat.reduceSub, Array.replicate_succ, Array.replicate_zero, List.push_toArray, List.append_toArray, List.nil_append, List.cons_append]
  gi_wp2_with (refine ⟨trivial, ?_⟩; gi_at_call 88; refine (round _ b off 0 _).mono ?_; rintro e w' ⟨rfl, rfl⟩)
  have c0 := new_cell w (.int .u8 (t : Int)) 5
  have c1 := new_cell (w.alloc (.cells #[.int .u8 (t : Int)] 5)) (.int .i64 0) 3
  have c2 := new_cell ((w.alloc (.cells #[.int .u8 (t : Int)] 5)).alloc (.cells #[.int .i64 0] 3)) (.bool false) 4
  have c3 := new_cell (((w.alloc (.cells #[.int .u8 (t : Int)] 5)).alloc (.cells #[.int .i64 0] 3)).alloc (.cells #[.bool false] 4)) (.int .i64 0) 3
  have c4 := new_cell ((((w.alloc (.cells #[.int .u8 (t : Int)] 5)).alloc (.cells #[.int .i64 0] 3)).alloc (.cells #[.bool false] 4)).alloc (.cells #[.int .i64 0] 3)) (.pointer (some ⟨b, off, none⟩)) 77
  have c5 := new_cell (((((w.alloc (.cells #[.int .u8 (t : Int)] 5)).alloc (.cells #[.int .i64 0] 3)).alloc (.cells #[.bool false] 4)).alloc (.cells #[.int .i64 0] 3)).alloc (.cells #[.pointer (some ⟨b, off, none⟩)] 77)) (.int .u8 0) 5
  simp only [World.size_alloc] at c1 c2 c3 c4 c5
  have hB0 : Below w.heap.size w ((((((w.alloc (.cells #[.int .u8 (t : Int)] 5)).alloc (.cells #[.int .i64 0] 3)).alloc (.cells #[.bool false] 4)).alloc (.cells #[.int .i64 0] 3)).alloc (.cells #[.pointer (some ⟨b, off, none⟩)] 77)).alloc (.cells #[.int .u8 0] 5)) := (((((((Below.refl _ w).alloc (Nat.le_refl _) _).alloc (by simp) _).alloc (by simp; omega) _).alloc (by simp; omega) _).alloc (by simp; omega) _).alloc (by simp; omega) _)
  refine wpIn_rangeFunc_ownF rfl (by decide) (gf := 90) (lb := #[.pointer (some ⟨w.heap.size + 1 + 1 + 1 + 1 + 1, 0, none⟩), .pointer (some ⟨w.heap.size + 1 + 1 + 1 + 1, 0, none⟩)]) rfl trivial (enters_of Try.func90 (by kernel_rfl) rfl)
    (round_stops _ (by decide) (w.heap.size + 1 + 1 + 1 + 1 + 1) (w.heap.size + 1 + 1 + 1 + 1) b off 0 size tap p (fun k => k < w.heap.size + 6 ∧ k ≠ w.heap.size + 1 ∧ k ≠ w.heap.size + 1 + 1 ∧ k ≠ w.heap.size + 1 + 1 + 1) _ hg hp (c5.1) (old_cell _ (c4.1)) ((hB0.cell (p := ⟨b, off + 1, none⟩) hb).trans h1) ((hB0.cell (p := ⟨b, off + 2, none⟩) hb).trans h2) (by omega) (by omega) (by omega) (by simp; omega))
    Keeps.trans (Keeps.put (by simp; omega)) (Below.refl _ _) (fun _ => rfl)
    (fun pre W => ((∀ y ∈ pre, y ≠ t) ∧ W.cell? ⟨w.heap.size, 0, none⟩ = some (.int .u8 (t : Int)) ∧ (W.cell? ⟨w.heap.size + 1, 0, none⟩ = some (.int .i64 0) ∧ W.frozen? ⟨w.heap.size + 1, 0, none⟩ = false) ∧ (W.cell? ⟨w.heap.size + 1 + 1, 0, none⟩ = some (.bool false) ∧ W.frozen? ⟨w.heap.size + 1 + 1, 0, none⟩ = false) ∧ W.cell? ⟨w.heap.size + 1 + 1 + 1, 0, none⟩ = some (.int .i64 (pre.length : Int)) ∧ W.frozen? ⟨w.heap.size + 1 + 1 + 1, 0, none⟩ = false) ∧ Below w.heap.size w W)
    (fun c pre W => (c = .ret ∧ (∃ pre0, pre = pre0 ++ [t] ∧ (∀ y ∈ pre0, y ≠ t) ∧ W.cell? ⟨w.heap.size + 1, 0, none⟩ = some (.int .i64 (pre0.length : Int))) ∧ W.cell? ⟨w.heap.size + 1 + 1, 0, none⟩ = some (.bool true)) ∧ Below w.heap.size w W)
    (OwnFrom.and (Own.from (fun s A B row hs hg hr => ⟨hs.1, cell_kept hs.2.1 hg hr, ⟨cell_kept hs.2.2.1.1 hg hr, (frozen_kept hs.2.2.1.1 hg hr).trans hs.2.2.1.2⟩, ⟨cell_kept hs.2.2.2.1.1 hg hr, (frozen_kept hs.2.2.2.1.1 hg hr).trans hs.2.2.2.1.2⟩, cell_kept hs.2.2.2.2.1 hg hr, (frozen_kept hs.2.2.2.2.1 hg hr).trans hs.2.2.2.2.2⟩) _) (ownFrom_below (Nat.le_refl _) (by simp; omega)))
    (fun c => OwnFrom.and (Own.from (fun s A B row hs hg hr => ⟨hs.1, (let ⟨x, y1, y2, y3⟩ := hs.2.1; ⟨x, y1, y2, cell_kept y3 hg hr⟩), cell_kept hs.2.2 hg hr⟩) _) (ownFrom_below (Nat.le_refl _) (by simp; omega)))
    ⟨⟨by simp, (old_cell _ (old_cell _ (old_cell _ (old_cell _ (old_cell _ (c0.1)))))), ⟨(old_cell _ (old_cell _ (old_cell _ (old_cell _ (c1.1))))), (old_frozen _ (old_cell _ (old_cell _ (old_cell _ (c1.1)))) (old_frozen _ (old_cell _ (old_cell _ (c1.1))) (old_frozen _ (old_cell _ (c1.1)) (old_frozen _ (c1.1) (c1.2)))))⟩, ⟨(old_cell _ (old_cell _ (old_cell _ (c2.1)))), (old_frozen _ (old_cell _ (old_cell _ (c2.1))) (old_frozen _ (old_cell _ (c2.1)) (old_frozen _ (c2.1) (c2.2))))⟩, (old_cell _ (old_cell _ (c3.1))), (old_frozen _ (old_cell _ (c3.1)) (old_frozen _ (c3.1) (c3.2)))⟩, hB0⟩
    (fun x => { tmps := #[.pointer (some ⟨b, off, none⟩), .int .u8 (t : Int), undef, .pointer (some ⟨w.heap.size, 0, none⟩), .pointer (some ⟨w.heap.size + 1, 0, none⟩), .pointer (some ⟨w.heap.size + 1 + 1, 0, none⟩), .pointer (some ⟨w.heap.size + 1 + 1 + 1, 0, none⟩), .int .u8 (x : Int), .pointer (some ⟨b, off, none⟩), .bool false, .pointer (some ⟨b, off, none⟩), .func (.func 90) #[] #[.pointer (some ⟨w.heap.size + 1 + 1 + 1 + 1 + 1, 0, none⟩), .pointer (some ⟨w.heap.size + 1 + 1 + 1 + 1, 0, none⟩)], .int .u8 (x : Int), undef, undef, undef, undef, undef, undef], defers := [] }) ?assign ?body ?done ?stop
  case assign =>
    intro l x W K hK
    gi_wp2
    simpa using hK
  case body =>
    rintro l pre x W ⟨⟨hy, k0, ⟨k1, f1⟩, ⟨k2, f2⟩, k3, f3⟩, hB⟩ hlen
    have hpl := hp.le
    have hpw := hg.pow
    by_cases hx : x = t
    · subst hx
      gi_wp2
      refine ⟨(KeepsOthers.setCell _ _ _).trans (KeepsOthers.setCell _ _ _), ⟨rfl, ⟨pre, rfl, hy, ?_⟩, ?_⟩, ?_⟩
      · rw [World.cell?_setCell_other _ _ _ _ (by simp)]; exact World.cell?_setCell_same' _ _ _ (by rw [k1]; rfl)
      · exact World.cell?_setCell_same' _ _ _ (by rw [World.cell?_setCell_other _ _ _ _ (by simp), k2]; rfl)
      · exact (hB.setCell (p := ⟨w.heap.size + 1, 0, none⟩) (by simp) _).setCell (p := ⟨w.heap.size + 1 + 1, 0, none⟩) (by simp; omega) _
    · have hne : ((x : Int) == (t : Int)) = false := by rw [beq_eq_false_iff_ne]; omega
      have hxt : Hid (x ≠ t) := hx
      clear hx
      gi_wp2
      refine ⟨KeepsOthers.setCell _ _ _, Keeps.setCell _ _ _ (by simp), ⟨fun y hm => ?_, ?_, ⟨?_, ?_⟩, ⟨?_, ?_⟩, ?_, ?_⟩, hB.setCell (p := ⟨w.heap.size + 1 + 1 + 1, 0, none⟩) (by simp; omega) _⟩
      · rcases List.mem_append.1 hm with hm | hm
        · exact hy y hm
        · rw [List.mem_singleton.1 hm]; exact hxt.out
      · rw [World.cell?_setCell_other _ _ _ _ (by simp)]; exact k0
      · rw [World.cell?_setCell_other _ _ _ _ (by simp)]; exact k1
      · rw [World.frozen?_setCell]; exact f1
      · rw [World.cell?_setCell_other _ _ _ _ (by simp)]; exact k2
      · rw [World.frozen?_setCell]; exact f2
      · rw [World.cell?_setCell_same' _ _ _ (by rw [k3]; rfl)]; simp
      · rw [World.frozen?_setCell]; exact f3
  case done =>
    rintro D ys W hD rfl ⟨⟨hy, k0, ⟨k1, f1⟩, ⟨k2, f2⟩, k3, f3⟩, hB⟩ hK
    obtain ⟨en, eb⟩ := place_no hy
    have HN : Hid (plN size tap p t = 0 ∧ plB size tap p t = false) := ⟨en, eb⟩
    clear en eb hy
    gi_wp2
    have hK' := ((KeepsOthers.setCell W ⟨w.heap.size + 1, 0, none⟩ (.int .i64 0)).trans (KeepsOthers.setCell _ ⟨w.heap.size + 1 + 1, 0, none⟩ (.bool false))).same D _ hK rfl
    refine ⟨by simp, .inl ⟨_, _, rfl, run_takeDeferred hK', ?_⟩⟩
    have e1 := cell_kept (show ((W.setCell ⟨w.heap.size + 1, 0, none⟩ (.int .i64 0)).setCell ⟨w.heap.size + 1 + 1, 0, none⟩ (.bool false)).cell? ⟨w.heap.size + 1, 0, none⟩ = some (.int .i64 0) by rw [World.cell?_setCell_other _ _ _ _ (by simp)]; exact World.cell?_setCell_same' _ _ _ (by rw [k1]; rfl)) (grownBy_putObj' _ D (.deferred none)) (fun r e => by cases e; exact ⟨_, hK', rfl⟩)
    have e2 := cell_kept (show ((W.setCell ⟨w.heap.size + 1, 0, none⟩ (.int .i64 0)).setCell ⟨w.heap.size + 1 + 1, 0, none⟩ (.bool false)).cell? ⟨w.heap.size + 1 + 1, 0, none⟩ = some (.bool false) from World.cell?_setCell_same' _ _ _ (by rw [World.cell?_setCell_other _ _ _ _ (by simp), k2]; rfl)) (grownBy_putObj' _ D (.deferred none)) (fun r e => by cases e; exact ⟨_, hK', rfl⟩)
    refine ⟨.tuple #[.int .i64 0, .bool false], ?_, by rw [HN.out.1, HN.out.2]; rfl, ((hB.setCell (p := ⟨w.heap.size + 1, 0, none⟩) (by simp) _).setCell (p := ⟨w.heap.size + 1 + 1, 0, none⟩) (by simp; omega) _).trans (belowK_b (w := w) (Nat.le_refl _) _ D _ _ (by simp at hD; omega) hK' rfl rfl)⟩
    simp [results, Try.f82, go_sem, e1, e2]
  case stop =>
    rintro D c pre W hD hpre ⟨⟨rfl, ⟨pre0, rfl, hy, k1⟩, k2⟩, hB⟩ hK
    have HN : Hid (plN size tap p t = pre0.length ∧ plB size tap p t = true) := place_yes hpre hy
    clear hy hpre
    gi_wp2
    refine ⟨by simp, .inl ⟨_, _, rfl, run_takeDeferred hK, ?_⟩⟩
    have e1 := cell_kept k1 (grownBy_putObj' _ D (.deferred none)) (fun r e => by cases e; exact ⟨_, hK, rfl⟩)
    have e2 := cell_kept k2 (grownBy_putObj' _ D (.deferred none)) (fun r e => by cases e; exact ⟨_, hK, rfl⟩)
    refine ⟨.tuple #[.int .i64 (pre0.length : Int), .bool true], ?_, by rw [HN.out.1, HN.out.2], hB.trans (belowK_b (w := w) (Nat.le_refl _) W D _ _ (by simp at hD; omega) hK rfl rfl)⟩
    simp [results, Try.f82, go_sem, e1, e2]

theorem Place (b off s size tap p t : Nat) (w : World) (hg : Good size tap 0) (hp : IsPer size tap 0 p) (h : At w b off s size tap) :
    Calls Try.prog 82 #[.pointer (some ⟨b, off, none⟩), .int .u8 (t : Int)] w fun e w' =>
      e = .returned (.tuple #[.int .i64 ((plN size tap p t : Nat) : Int), .bool (plB size tap p t)]) ∧ Below w.heap.size w w' :=
  callsIn_wide.1 (Place_in b off s size tap p t w hg hp h)

set_option maxRecDepth 100000 in
set_option maxHeartbeats 1000000 in
theorem Place_nil (t : Int) (w : World) : Calls Try.prog 82 #[.pointer none, .int .u8 t] w fun e w' => e = .returned (.tuple #[.int .i64 0, .bool false]) ∧ Below w.heap.size w w' := by
  go_enter Try.func82, Try.ntmps82
  go_wp2
  exact bodyPost_ret (v := .tuple #[.int .i64 0, .bool false]) (by simp [results, Try.f82, go_sem]) rfl ⟨rfl, (((Below.refl _ w).alloc (Nat.le_refl _) _).alloc (by simp) _).alloc (by simp; omega) _⟩

end Go.Proofs.Ytdnfclhljahghaa.Poly8
