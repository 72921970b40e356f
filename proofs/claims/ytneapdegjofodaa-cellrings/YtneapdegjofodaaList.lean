/- What List of a ring of int does. -/
import Derived.Test.YtneapdegjofodaaListAll
import Derived.OneCell
namespace Go.Proofs.Ytneapdegjofodaa.RingInt
open Go.RowKit Go.Shelf

attribute [local go_sem] Oper.semAt_some

theorem row_cells {w : World} {base : Nat} {e : TypeId} {n g cap k : Nat} {xs : List Value} (h : w.ownsRow base e n (.slice (some ⟨g, 0, none⟩) k cap) k xs) : ∃ cur, w.heap[g]? = some (.cells cur e (0, 0)) := by
  rcases h.2 with ⟨h', _⟩ | ⟨g', cap', cur, h', _, hh, _⟩
  · cases h'
  · injection h' with h1; injection h1 with h1; injection h1 with h1; subst h1; exact ⟨cur, hh⟩

theorem list_body {w w1 W w2 : World} {pre L : List Int} {x : Int} (hsz : w.heap.size < w1.heap.size) (hW2 : w1.heap.size + 2 ≤ W.heap.size)
    (hc : W.cell? ⟨w1.heap.size, 0, none⟩ = some (.slice (some ⟨w.heap.size, 0, none⟩) pre.length L.length)) (hf : W.frozen? ⟨w1.heap.size, 0, none⟩ = false)
    (ho : W.ownsRow w.heap.size 3 1 (.slice (some ⟨w.heap.size, 0, none⟩) pre.length L.length) pre.length (pre.map fun x => .int .i64 x)) (hB : Below w.heap.size w W)
    (hg : (W.alloc (.cells #[.int .i64 x] 3)).grownBy w2 (some w.heap.size))
    (hw : w2.ownsRow w.heap.size 3 1 (.slice (some ⟨w.heap.size, 0, none⟩) (pre.length + 1) L.length) (pre.length + 1) ((pre.map fun x => .int .i64 x) ++ [.int .i64 x])) {W' : World}
    (hW' : W' = w2.setCell ⟨w1.heap.size, 0, none⟩ (.slice (some ⟨w.heap.size, 0, none⟩) (pre.length + 1) L.length)) :
    KeepsOthers W W' ∧ Keeps (fun k => k < w.heap.size ∨ k = w1.heap.size + 1) W W' ∧ (w1.heap.size + 2 ≤ W'.heap.size ∧ W'.cell? ⟨w1.heap.size, 0, none⟩ = some (.slice (some ⟨w.heap.size, 0, none⟩) (pre ++ [x]).length L.length) ∧ W'.frozen? ⟨w1.heap.size, 0, none⟩ = false ∧
      W'.ownsRow w.heap.size 3 1 (.slice (some ⟨w.heap.size, 0, none⟩) (pre ++ [x]).length L.length) (pre ++ [x]).length ((pre ++ [x]).map fun x => .int .i64 x)) ∧ Below w.heap.size w W' := by
  have hlt := lt_of_cell hc
  have hs := hg.size
  simp only [World.size_alloc] at hs
  have k1 : w2.heap[w1.heap.size]? = W.heap[w1.heap.size]? := (hg.block _ (by simp; omega) (by simp; omega)).trans (Below.heap_alloc _ _ _ hlt)
  have el : (pre ++ [x]).length = pre.length + 1 := by simp
  refine ⟨?_, ?_, ⟨?_, ?_, ?_, ?_⟩, ?_⟩
  · rw [hW']
    refine ((KeepsOthers.alloc W _).trans (KeepsOthers.of_grownBy hg (fun j o e h => ?_))).trans (KeepsOthers.setCell _ _ _)
    injection e with e; subst e
    obtain ⟨cur, hh⟩ := row_cells (ho.alloc _)
    rw [hh] at h; cases h; rfl
  · intro k hk
    rw [hW', Below.heap_setCell _ _ _ _ (by simp; omega), hg.block k (by simp; have := hB.size; omega) (by simp; omega), Below.heap_alloc _ _ _ (by have := hB.size; omega)]
  · rw [hW']; simp [World.setCell]; omega
  · rw [hW', el]
    refine World.cell?_setCell_same' _ _ _ ?_
    rw [World.cell?_of_block (w := W) k1, hc]; rfl
  · rw [hW', World.frozen?_setCell, World.frozen?_of_block (w := W) k1]; exact hf
  · rw [hW', el, List.map_append]
    exact ownsRow_setCell_other hw (by simp [Value.ownBlock]; omega) _
  · rw [hW']
    exact ((hB.alloc hB.size _).grown hg (by simp; have := hB.size; omega) (fun k e => by injection e; omega)).setCell (p := ⟨w1.heap.size, 0, none⟩) (by simp; omega) _

set_option maxRecDepth 100000 in
set_option maxHeartbeats 2000000 in
theorem List_in (b room : Nat) (v : Value) (L : List Int) (w : World) (h : Ring w b room v L) :
    CallsIn Fence.wide 3 Try.prog 14 #[.pointer (some ⟨b, 0, none⟩)] w fun e w' =>
      ∃ g cap, e = .returned (.slice (some ⟨g, 0, none⟩) L.length cap) ∧ w.heap.size ≤ g ∧ w'.ownsRow w.heap.size 3 1 (.slice (some ⟨g, 0, none⟩) L.length cap) L.length (L.map fun x => .int .i64 x) ∧ Below w.heap.size w w' := by
  obtain ⟨i0, hi0, hz0, hz1, hz2⟩ := info_parts info
  have hle := h.le
  have hr2 : room ≤ 65536 := let ⟨_, _, h⟩ := h; h.r2
  have HR : Hid (Ring w b room v L) := h
  clear h
  refine callsIn_of_wp_marks Try.func14 rfl trivial ?_ rfl
  simp only [Try.ntmps14, List.size_toArray, List.length_cons, List.length_nil, Nat.reduceAdd, Nat.reduceSub, Array.replicate_succ, Array.replicate_zero, List.push_toArray, List.append_toArray, List.nil_append, List.cons_append]
  gi_wp2_with (first
    | (refine ⟨trivial, ?_⟩; gi_at_call 13; refine (callsIn_wide.2 (Len b room v L _ HR.out)).mono ?_; rintro e w' ⟨rfl, hw⟩; subst w')
    | (gi_at_make; refine wpListIn_make_own _ rfl _ _ 29 rfl w.heap.size 3 i0 (.int .i64 0) 1 Try.underlying29 hi0 hz0 hz1 _ _ _ L.length rfl rfl rfl (by rw [hz2]; omega) (by unfold maxLen; omega) (Nat.le_refl _) ?_; intro w1 hown hgrow)
    | (refine ⟨trivial, ?_⟩; gi_at_call 29; refine (all _ b _).mono ?_; rintro e w' ⟨rfl, hw⟩; subst w'))
  have hsz : w.heap.size < w1.heap.size := (hown.lt _ rfl).2
  have hB1 : Below w.heap.size w w1 := (Below.refl _ w).grown hgrow (Nat.le_refl _) (fun _ e => by cases e)
  have c0 := new_cell w1 (.slice (some ⟨w.heap.size, 0, none⟩) 0 L.length) 29
  have c1 := new_cell (w1.alloc (.cells #[.slice (some ⟨w.heap.size, 0, none⟩) 0 L.length] 29)) (.pointer (some ⟨b, 0, none⟩)) 23
  simp only [World.size_alloc] at c1
  have hB0 : Below w.heap.size w ((w1.alloc (.cells #[.slice (some ⟨w.heap.size, 0, none⟩) 0 L.length] 29)).alloc (.cells #[.pointer (some ⟨b, 0, none⟩)] 23)) := (hB1.alloc hB1.size _).alloc (by simp; omega) _
  have hbw := HR.out.lt
  have hge := HR.out.ge
  refine wpIn_rangeFunc_ownF rfl (by decide) (gf := 37) (lb := #[.pointer (some ⟨w1.heap.size + 1, 0, none⟩)]) rfl trivial (enters_of Try.func37 (by kernel_rfl) rfl)
    (all_stops _ (by decide) (w1.heap.size + 1) b room v L (fun k => k < w.heap.size ∨ k = w1.heap.size + 1) _ c1.1 (HR.out.below hB0) (.inr rfl) (.inl hbw) (fun k hk => .inl (hge k hk).2) (by simp; omega))
    Keeps.trans (Keeps.put (by simp; omega)) (Below.refl _ _) (fun _ => rfl)
    (fun pre W => (w1.heap.size + 2 ≤ W.heap.size ∧ W.cell? ⟨w1.heap.size, 0, none⟩ = some (.slice (some ⟨w.heap.size, 0, none⟩) pre.length L.length) ∧ W.frozen? ⟨w1.heap.size, 0, none⟩ = false ∧ W.ownsRow w.heap.size 3 1 (.slice (some ⟨w.heap.size, 0, none⟩) pre.length L.length) pre.length (pre.map fun x => .int .i64 x)) ∧ Below w.heap.size w W)
    (fun _ _ _ => False)
    (OwnFrom.and (Own.from (fun s A B row hs hg hr => ⟨Nat.le_trans hs.1 hg.size, cell_kept hs.2.1 hg hr, (frozen_kept hs.2.1 hg hr).trans hs.2.2.1, hs.2.2.2.kept hg (.inr fun e => by
      obtain ⟨o, ho, hc⟩ := hr _ e.symm
      obtain ⟨cur, hh⟩ := row_cells hs.2.2.2
      rw [hh] at ho; cases ho; cases hc)⟩) _) (ownFrom_below (Nat.le_refl _) (by simp; omega)))
    (fun _ _ _ _ _ hs _ _ => hs)
    ⟨⟨by simp, old_cell _ c0.1, old_frozen _ c0.1 c0.2, (hown.alloc _).alloc _⟩, hB0⟩
    (fun x => { tmps := #[.pointer (some ⟨b, 0, none⟩), undef, .slice none 0 0, .pointer (some ⟨w1.heap.size, 0, none⟩), .int .i64 x, .pointer (some ⟨b, 0, none⟩), .int .i64 (L.length : Int), .slice (some ⟨w.heap.size, 0, none⟩) 0 L.length, .pointer (some ⟨b, 0, none⟩), .func (.func 37) #[] #[.pointer (some ⟨w1.heap.size + 1, 0, none⟩)], .int .i64 x, undef, undef, undef, undef, undef], defers := [] }) ?assign ?body ?done ?stop
  case assign =>
    intro l x W K hK
    gi_wp2
    simpa using hK
  case body =>
    rintro l pre x W ⟨⟨hW2, hc, hf, ho⟩, hB⟩ hlen
    have HO : Hid (W.ownsRow w.heap.size 3 1 (.slice (some ⟨w.heap.size, 0, none⟩) pre.length L.length) pre.length (pre.map fun x => .int .i64 x)) := ho
    have HB : Hid (Below w.heap.size w W) := hB
    clear ho hB
    gi_wp2_with (gi_at_builtin; refine wpListIn_append_fits _ rfl _ _ 29 rfl w.heap.size 3 i0 1 Try.underlying29 hi0 hz1 w.heap.size pre.length L.length _ rfl (World.ownsRow.alloc (show World.ownsRow _ _ _ _ _ _ _ from HO.out) _) _ 1 1 [_] rfl rfl (cell_one_new _ _ _) (by simp [Value.oneCell']) (by omega) ?_; intro w2 hown2 hgrow2; have k1 : w2.heap[w1.heap.size]? = W.heap[w1.heap.size]? := (hgrow2.block _ (by have := lt_of_cell hc; simp; omega) (by simp; omega)).trans (Below.heap_alloc _ _ _ (lt_of_cell hc)); have k2 : w2.cell? ⟨w1.heap.size, 0, none⟩ = some (.slice (some ⟨w.heap.size, 0, none⟩) pre.length L.length) := (World.cell?_of_block (w := W) k1).trans hc; have k3 : w2.frozen? ⟨w1.heap.size, 0, none⟩ = false := (World.frozen?_of_block (w := W) k1).trans hf; have HG : Hid (World.grownBy _ w2 _) := hgrow2; have HW : Hid (w2.ownsRow _ _ _ _ _ _) := hown2; clear k1 hgrow2 hown2)
    have hgr : (W.alloc (.cells #[.int .i64 x] 3)).grownBy w2 (some w.heap.size) := HG.out
    exact list_body hsz hW2 hc hf HO.out HB.out hgr HW.out rfl
  case done =>
    rintro D ys W hD rfl ⟨⟨hW2, hc, hf, ho⟩, hB⟩ hK
    have HO : Hid (W.ownsRow w.heap.size 3 1 (.slice (some ⟨w.heap.size, 0, none⟩) ys.length ys.length) ys.length (ys.map fun x => .int .i64 x)) := ho
    have HB : Hid (Below w.heap.size w W) := hB
    clear ho hB
    gi_wp2
    refine ⟨by simp, .inl ⟨_, _, rfl, run_takeDeferred hK, ?_⟩⟩
    exact ⟨_, results_tmp rfl _ _ _, w.heap.size, ys.length, rfl, Nat.le_refl _, HO.out.kept (grownBy_putObj' _ D (.deferred none)) (.inr fun e => by
      obtain ⟨cur, hh⟩ := row_cells HO.out
      injection e with e; rw [← e] at hK; rw [hh] at hK; cases hK), HB.out.trans (belowK_b (w := w) (Nat.le_refl _) W D _ _ (by simp at hD; omega) hK rfl rfl)⟩
  case stop =>
    rintro D c pre W _ _ h _
    exact h.elim

theorem RList (b room : Nat) (v : Value) (L : List Int) (w : World) (h : Ring w b room v L) :
    Calls Try.prog 14 #[.pointer (some ⟨b, 0, none⟩)] w fun e w' =>
      ∃ g cap, e = .returned (.slice (some ⟨g, 0, none⟩) L.length cap) ∧ w.heap.size ≤ g ∧ w'.ownsRow w.heap.size 3 1 (.slice (some ⟨g, 0, none⟩) L.length cap) L.length (L.map fun x => .int .i64 x) ∧ Below w.heap.size w w' :=
  callsIn_wide.1 (List_in b room v L w h)

end Go.Proofs.Ytneapdegjofodaa.RingInt
