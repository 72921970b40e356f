/- What List of a ring that is not there does. -/
import Derived.Test.YtneapdegjofodaaList
namespace Go.Proofs.Ytneapdegjofodaa.RingInt
open Go.RowKit Go.Shelf

attribute [local go_sem] Oper.semAt_some

set_option maxRecDepth 100000 in
set_option maxHeartbeats 1000000 in
theorem all1_nil (n : Nat) (hn : 1 ≤ n) (l Br : Nat) (J Jx : List Int → World → Prop) (W : World) (hBr : W.cell? ⟨Br, 0, none⟩ = some (.pointer none)) (h0 : J [] W) :
    CallsIn Fence.wide n Try.prog 37 #[.func (.yield l) #[] #[], .pointer (some ⟨Br, 0, none⟩)] W fun e W' => (∃ v, e = .returned v) ∧
      ((∃ ys, ys = [] ∧ J ys W') ∨ (∃ pre, pre <+: [] ∧ Jx pre W')) := by
  have HJ : Hid (J [] W) := h0
  clear h0
  refine callsIn_of_wp Try.func37 rfl trivial ?_ rfl
  simp only [Try.ntmps37, List.size_toArray, List.length_cons, List.length_nil, Nat.reduceAdd, Nat.reduceSub, Array.replicate_succ, Array.replicate_zero, List.push_toArray, List.append_toArray, List.nil_append, List.cons_append]
  gi_wp2_with (refine ⟨trivial, ?_⟩; gi_at_call 13; refine (callsIn_wide.2 (Len_nil _)).mono ?_; rintro e w' ⟨rfl, hw⟩; subst w')
  gi_loopw [6] (fun v wr => v = .int .i64 0 ∧ wr = W) (fun _ _ => 0)
  case atStart => exact ⟨rfl, rfl⟩
  case round =>
    obtain ⟨rfl, rfl⟩ := hrel
    gi_wp2
    first | go_end0 | refine bodyPost_ret (results_none rfl _ _ _) rfl ?_
    exact ⟨⟨_, rfl⟩, .inl ⟨_, rfl, HJ.out⟩⟩

set_option maxHeartbeats 1000000 in
theorem all_nil (n : Nat) (w : World) :
    CallsIn Fence.wide n Try.prog 29 #[.pointer none] w fun e w' =>
      e = .returned (.func (.func 37) #[] #[.pointer (some ⟨w.heap.size, 0, none⟩)]) ∧
      w' = w.alloc (.cells #[.pointer none] 23) := by
  refine callsIn_of_wp Try.func29 rfl trivial ?_ rfl
  simp only [Try.ntmps29, List.size_toArray, List.length_cons, List.length_nil, Nat.reduceAdd, Nat.reduceSub, Array.replicate_succ, Array.replicate_zero, List.push_toArray, List.append_toArray, List.nil_append, List.cons_append]
  gi_wp2
  go_ret
  exact ⟨rfl, rfl⟩

theorem all_stops_nil (n : Nat) (hn : 1 ≤ n) (Br : Nat) (w : World) (hBr : w.cell? ⟨Br, 0, none⟩ = some (.pointer none)) :
    SeqStopsK Fence.wide n Try.prog 37 #[.pointer (some ⟨Br, 0, none⟩)] (fun x : Int => #[Value.int .i64 x]) (Keeps fun _ => False)
      (fun ys => ys = []) (fun pre => pre <+: []) 0 w := fun l J Jx W hW _ _ _ h0 =>
  all1_nil n hn l Br J Jx W ((hW.cell (p := ⟨Br, 0, none⟩) (lt_of_cell hBr)).trans hBr) h0

set_option maxRecDepth 100000 in
set_option maxHeartbeats 2000000 in
theorem List_nil_in (w : World) :
    CallsIn Fence.wide 3 Try.prog 14 #[.pointer none] w fun e w' =>
      ∃ g cap, e = .returned (.slice (some ⟨g, 0, none⟩) 0 cap) ∧ w.heap.size ≤ g ∧ w'.ownsRow w.heap.size 3 1 (.slice (some ⟨g, 0, none⟩) 0 cap) 0 [] ∧ Below w.heap.size w w' := by
  obtain ⟨i0, hi0, hz0, hz1, hz2⟩ := info_parts info
  refine callsIn_of_wp_marks Try.func14 rfl trivial ?_ rfl
  simp only [Try.ntmps14, List.size_toArray, List.length_cons, List.length_nil, Nat.reduceAdd, Nat.reduceSub, Array.replicate_succ, Array.replicate_zero, List.push_toArray, List.append_toArray, List.nil_append, List.cons_append]
  gi_wp2_with (first
    | (refine ⟨trivial, ?_⟩; gi_at_call 13; refine (callsIn_wide.2 (Len_nil _)).mono ?_; rintro e w' ⟨rfl, hw⟩; subst w')
    | (gi_at_make; refine wpListIn_make_own _ rfl _ _ 29 rfl w.heap.size 3 i0 (.int .i64 0) 1 Try.underlying29 hi0 hz0 hz1 _ _ _ 0 rfl rfl rfl (by simp) (by simp) (Nat.le_refl _) ?_; intro w1 hown hgrow)
    | (refine ⟨trivial, ?_⟩; gi_at_call 29; refine (all_nil _ _).mono ?_; rintro e w' ⟨rfl, hw⟩; subst w'))
  have hsz : w.heap.size < w1.heap.size := (hown.lt _ rfl).2
  have hB1 : Below w.heap.size w w1 := (Below.refl _ w).grown hgrow (Nat.le_refl _) (fun _ e => by cases e)
  have c0 := new_cell w1 (.slice (some ⟨w.heap.size, 0, none⟩) 0 0) 29
  have c1 := new_cell (w1.alloc (.cells #[.slice (some ⟨w.heap.size, 0, none⟩) 0 0] 29)) (.pointer none) 23
  simp only [World.size_alloc] at c1
  have hB0 : Below w.heap.size w ((w1.alloc (.cells #[.slice (some ⟨w.heap.size, 0, none⟩) 0 0] 29)).alloc (.cells #[.pointer none] 23)) := (hB1.alloc hB1.size _).alloc (by simp; omega) _
  refine wpIn_rangeFunc_ownF rfl (by decide) (gf := 37) (lb := #[.pointer (some ⟨w1.heap.size + 1, 0, none⟩)]) rfl trivial (enters_of Try.func37 (by kernel_rfl) rfl)
    (all_stops_nil _ (by decide) (w1.heap.size + 1) _ c1.1)
    Keeps.trans (Keeps.put (by simp)) (Below.refl _ _) (fun _ => rfl)
    (fun pre W => (w1.heap.size + 2 ≤ W.heap.size ∧ W.cell? ⟨w1.heap.size, 0, none⟩ = some (.slice (some ⟨w.heap.size, 0, none⟩) pre.length 0) ∧ W.frozen? ⟨w1.heap.size, 0, none⟩ = false ∧ W.ownsRow w.heap.size 3 1 (.slice (some ⟨w.heap.size, 0, none⟩) pre.length 0) pre.length (pre.map fun x => .int .i64 x)) ∧ Below w.heap.size w W)
    (fun _ _ _ => False)
    (OwnFrom.and (Own.from (fun s A B row hs hg hr => ⟨Nat.le_trans hs.1 hg.size, cell_kept hs.2.1 hg hr, (frozen_kept hs.2.1 hg hr).trans hs.2.2.1, hs.2.2.2.kept hg (.inr fun e => by
      obtain ⟨o, ho, hc⟩ := hr _ e.symm
      obtain ⟨cur, hh⟩ := row_cells hs.2.2.2
      rw [hh] at ho; cases ho; cases hc)⟩) _) (ownFrom_below (Nat.le_refl _) (by simp; omega)))
    (fun _ _ _ _ _ hs _ _ => hs)
    ⟨⟨by simp, old_cell _ c0.1, old_frozen _ c0.1 c0.2, (hown.alloc _).alloc _⟩, hB0⟩
    (fun x => { tmps := #[.pointer none, undef, .slice none 0 0, .pointer (some ⟨w1.heap.size, 0, none⟩), .int .i64 x, .pointer none, .int .i64 (0 : Int), .slice (some ⟨w.heap.size, 0, none⟩) 0 0, .pointer none, .func (.func 37) #[] #[.pointer (some ⟨w1.heap.size + 1, 0, none⟩)], .int .i64 x, undef, undef, undef, undef, undef], defers := [] }) ?assign ?body ?done ?stop
  case assign =>
    intro l x W K hK
    gi_wp2
    simpa using hK
  case body =>
    rintro l pre x W _ hlen
    omega
  case done =>
    rintro D ys W hD rfl ⟨⟨hW2, hc, hf, ho⟩, hB⟩ hK
    have HO : Hid (W.ownsRow w.heap.size 3 1 (.slice (some ⟨w.heap.size, 0, none⟩) 0 0) 0 []) := ho
    have HB : Hid (Below w.heap.size w W) := hB
    clear ho hB
    gi_wp2
    refine ⟨by simp, .inl ⟨_, _, rfl, run_takeDeferred hK, ?_⟩⟩
    exact ⟨_, results_tmp rfl _ _ _, w.heap.size, 0, rfl, Nat.le_refl _, HO.out.kept (grownBy_putObj' _ D (.deferred none)) (.inr fun e => by
      obtain ⟨cur, hh⟩ := row_cells HO.out
      injection e with e; rw [← e] at hK; rw [hh] at hK; cases hK), HB.out.trans (belowK_b (w := w) (Nat.le_refl _) W D _ _ (by simp at hD; omega) hK rfl rfl)⟩
  case stop =>
    rintro D c pre W _ _ h _
    exact h.elim

theorem RList_nil (w : World) :
    Calls Try.prog 14 #[.pointer none] w fun e w' => ∃ g cap, e = .returned (.slice (some ⟨g, 0, none⟩) 0 cap) ∧ Below w.heap.size w w' :=
  (callsIn_wide.1 (List_nil_in w)).mono fun _ _ ⟨g, cap, h1, _, _, h4⟩ => ⟨g, cap, h1, h4⟩

end Go.Proofs.Ytneapdegjofodaa.RingInt
