/- What At, Pop and List of a ring of int do. -/
import Derived.Test.YtneapdegjofodaaPutInt
import Derived.OwnWalkIn
import Derived.TacticsInMore
import Derived.LoopNIn
import Derived.LoopIn
namespace Go.Proofs.Ytneapdegjofodaa.RingInt
open Go.RowKit Go.Shelf

attribute [local go_sem] Oper.semAt_some

set_option maxRecDepth 100000 in
set_option maxHeartbeats 1000000 in
theorem At_yes (b room i : Nat) (v : Value) (x : Int) (L : List Int) (w : World) (h : Ring w b room v L) (hi : L[i]? = some x) :
    Calls Try.prog 12 #[.pointer (some ⟨b, 0, none⟩), .int .i64 (i : Int)] w fun r w' => r = .returned (.tuple #[.int .i64 x, .bool true]) ∧ ∃ q, w' = w.drewN q := by
  have HR : Hid (Ring w b room v L) := h
  obtain ⟨e, xs, h⟩ := h
  have hil := (List.getElem?_eq_some_iff.1 hi).1
  have hn := h.lay.i1
  have hn2 := h.lay.n1
  have he := h.lay.e1
  have hr1 := h.r1
  have hr2 := h.r2
  obtain ⟨g, cap, rfl⟩ : ∃ g cap, v = .slice (some ⟨g, 0, none⟩) xs.length cap := by
    rcases h.own.2 with ⟨_, h'⟩ | ⟨g', cap', cur, h', _⟩
    · omega
    · exact ⟨g', cap', h'⟩
  have c0 := h.c0
  have c1 := h.c1
  have c2 := h.c2
  obtain ⟨p, hp⟩ : ∃ p, p = (e + i) % room := ⟨_, rfl⟩
  have hpn : p < xs.length := by rw [hp]; exact h.lay.spot hil
  have cp : w.cell? ⟨g, p, none⟩ = some (.int .i64 x) := by
    rw [h.own.cellAt p (by omega), List.getElem?_map, hp, h.lay.at_ i hil, hi]; rfl
  have hi1 : (i : Int) < (L.length : Int) := by omega
  have n0 : (0 : Int) ≤ (i : Int) := by omega
  have p0 : (0 : Int) ≤ (p : Int) := by omega
  have p1 : (p : Int) < (xs.length : Int) := by omega
  have HP : Hid (p = (e + i) % room) := hp
  have hi3 : i ≤ 65536 := by omega
  clear h hi hn hn2 hil hp
  go_enter Try.func12, Try.ntmps12
  go_wp2_with (go_at_call 13; refine (Len b room _ L _ HR.out).mono ?_; rintro r w' ⟨rfl, rfl⟩)
  go_quiet ((go_at_call 28; exact Calls.quiet_of (place b e room i p _ _ rfl HP.out c1 c2 hr1 hr2 he hi3)))
  go_wp2
  go_ret2
  exact ⟨rfl, _, rfl⟩

set_option maxRecDepth 100000 in
set_option maxHeartbeats 1000000 in
theorem At_no (b room : Nat) (i : Int) (v : Value) (L : List Int) (w : World) (h : Ring w b room v L) (hi : i < 0 ∨ (L.length : Int) ≤ i) :
    Calls Try.prog 12 #[.pointer (some ⟨b, 0, none⟩), .int .i64 i] w fun r w' => r = .returned (.tuple #[.int .i64 0, .bool false]) ∧ w' = w := by
  rcases hi with hi | hi
  · go_enter Try.func12, Try.ntmps12
    go_wp2_with (go_at_call 27; refine (zero _).mono ?_; rintro r w3 ⟨rfl, rfl⟩)
    go_ret2
    exact ⟨rfl, rfl⟩
  · have h0 : 0 ≤ i := by omega
    have HR : Hid (Ring w b room v L) := h
    clear h
    go_enter Try.func12, Try.ntmps12
    go_wp2_with (first
      | (go_at_call 13; refine (Len b room _ L _ HR.out).mono ?_; rintro r w' ⟨rfl, rfl⟩)
      | (go_at_call 27; refine (zero _).mono ?_; rintro r w3 ⟨rfl, rfl⟩))
    go_ret2
    exact ⟨rfl, rfl⟩

set_option maxRecDepth 100000 in
set_option maxHeartbeats 1000000 in
theorem At_nil (w : World) :
    Calls Try.prog 12 #[.pointer none, .int .i64 0] w fun r w' => r = .returned (.tuple #[.int .i64 0, .bool false]) ∧ w' = w := by
  go_enter Try.func12, Try.ntmps12
  go_wp2_with (first
    | (go_at_call 13; refine (Len_nil _).mono ?_; rintro r w' ⟨rfl, rfl⟩)
    | (go_at_call 27; refine (zero _).mono ?_; rintro r w3 ⟨rfl, rfl⟩))
  go_ret2
  exact ⟨rfl, rfl⟩

set_option maxRecDepth 100000 in
set_option maxHeartbeats 1000000 in
theorem Pop_nil (w : World) :
    Calls Try.prog 11 #[.pointer none] w fun r w' => r = .returned (.tuple #[.int .i64 0, .bool false]) ∧ w' = w := by
  go_enter Try.func11, Try.ntmps11
  go_wp2_with (first
    | (go_at_call 13; refine (Len_nil _).mono ?_; rintro r w' ⟨rfl, rfl⟩)
    | (go_at_call 27; refine (zero _).mono ?_; rintro r w3 ⟨rfl, rfl⟩))
  go_ret2
  exact ⟨rfl, rfl⟩

set_option maxRecDepth 100000 in
set_option maxHeartbeats 1000000 in
theorem Pop_no (b room : Nat) (v : Value) (w : World) (h : Ring w b room v []) :
    Calls Try.prog 11 #[.pointer (some ⟨b, 0, none⟩)] w fun r w' => r = .returned (.tuple #[.int .i64 0, .bool false]) ∧ w' = w := by
  have HR : Hid (Ring w b room v []) := h
  clear h
  go_enter Try.func11, Try.ntmps11
  go_wp2_with (first
    | (go_at_call 13; refine (Len b room _ [] _ HR.out).mono ?_; rintro r w' ⟨rfl, rfl⟩)
    | (go_at_call 27; refine (zero _).mono ?_; rintro r w3 ⟨rfl, rfl⟩))
  go_ret2
  exact ⟨rfl, rfl⟩

theorem pop_end {w w1 w2 : World} {b room e g n cap q : Nat} {xs L : List Int} {y : Int} (h : RAt w b room e (.slice (some ⟨g, 0, none⟩) n cap) xs (L ++ [y]))
    (h1 : w1 = w.setCell ⟨b, 3, none⟩ (.int .i64 (L.length : Int))) (h2 : w2 = (w1.drewN q).setCell ⟨g, (e + L.length) % room, none⟩ (.int .i64 0)) :
    Ring w2 b room (.slice (some ⟨g, 0, none⟩) n cap) L ∧ Part b (.slice (some ⟨g, 0, none⟩) n cap) w w2 := by
  have hg := (h.own.lt g rfl).1
  have hn : n = xs.length := by
    rcases h.own.2 with ⟨h', _⟩ | ⟨g', cap', cur, h', _⟩
    · cases h'
    · injection h'
  subst hn
  have hgb : g ≠ b := by omega
  have cb : ∀ o, o ≠ 3 → w2.cell? ⟨b, o, none⟩ = w.cell? ⟨b, o, none⟩ := fun o ho => by
    rw [h2, World.cell?_setCell_other _ _ _ _ (by intro e; injection e; omega)]
    show w1.cell? _ = _
    rw [h1, World.cell?_setCell_other _ _ _ _ (by intro e; injection e; omega)]
  have own1 : (w1.drewN q).ownsRow (b + 1) 3 1 (.slice (some ⟨g, 0, none⟩) xs.length cap) xs.length (xs.map fun x => .int .i64 x) := by
    rw [h1]; exact ownsRow_setCell_below (a := ⟨b, 3, none⟩) h.own (by simp) _
  refine ⟨⟨e, xs.set ((e + L.length) % room) 0, ⟨(cb 0 (by omega)).trans h.c0, (cb 1 (by omega)).trans h.c1, (cb 2 (by omega)).trans h.c2, ?_, fun o => ?_, ?_, h.r1, h.r2, h.lay.pop 0⟩⟩, ?_⟩
  · rw [h2, World.cell?_setCell_other _ _ _ _ (by intro e; injection e; omega)]
    show w1.cell? _ = _
    rw [h1]
    refine World.cell?_setCell_same' _ _ _ ?_
    rw [h.c3]; rfl
  · rw [h2, World.frozen?_setCell]
    show w1.frozen? _ = _
    rw [h1, World.frozen?_setCell]
    exact h.fz o
  · have := (own1.stored ((e + L.length) % room) (.int .i64 0)).1
    rw [h2, List.length_set, List.map_set]
    exact this
  · refine ⟨by rw [h2, h1]; rfl, by rw [h2, h1]; rfl, by rw [h2, h1]; rfl, by rw [h2, h1]; simp [World.setCell, World.drewN], fun k hk hb hv => ?_⟩
    rw [h2, Below.heap_setCell _ _ _ _ (fun e => hv (by rw [e]; rfl))]
    show w1.heap[k]? = _
    rw [h1, Below.heap_setCell _ _ _ _ hb]

set_option maxRecDepth 100000 in
set_option maxHeartbeats 1000000 in
theorem Pop_yes (b room : Nat) (v : Value) (y : Int) (L : List Int) (w : World) (h : Ring w b room v (L ++ [y])) :
    Calls Try.prog 11 #[.pointer (some ⟨b, 0, none⟩)] w fun r w' => r = .returned (.tuple #[.int .i64 y, .bool true]) ∧ Ring w' b room v L ∧ Part b v w w' := by
  have HR : Hid (Ring w b room v (L ++ [y])) := h
  obtain ⟨e, xs, h⟩ := h
  have hn := h.lay.i1
  have hn2 := h.lay.n1
  have he := h.lay.e1
  have hr1 := h.r1
  have hr2 := h.r2
  simp only [List.length_append, List.length_cons, List.length_nil] at hn
  obtain ⟨g, cap, rfl⟩ : ∃ g cap, v = .slice (some ⟨g, 0, none⟩) xs.length cap := by
    rcases h.own.2 with ⟨_, h'⟩ | ⟨g', cap', cur, h', _⟩
    · omega
    · exact ⟨g', cap', h'⟩
  have hgb := (h.own.lt g rfl).1
  obtain ⟨i, hi⟩ : ∃ i, i = L.length := ⟨_, rfl⟩
  have c0 := h.c0
  have c1 := h.c1
  have c2 := h.c2
  have c3 : w.cell? ⟨b, 3, none⟩ = some (.int .i64 ((i : Int) + 1)) := by rw [h.c3, hi]; simp
  have f3 := h.fz 3
  obtain ⟨p, hp⟩ : ∃ p, p = (e + i) % room := ⟨_, rfl⟩
  have hpn : p < xs.length := by rw [hp, hi]; exact h.lay.spot (by simp)
  have cp : w.cell? ⟨g, p, none⟩ = some (.int .i64 y) := by
    rw [h.own.cellAt p (by omega), List.getElem?_map, hp, hi, h.lay.last]; rfl
  have fp := h.own.frozenAt p
  have p0 : (0 : Int) ≤ (p : Int) := by omega
  have p1 : (p : Int) < (xs.length : Int) := by omega
  have HP : Hid (p = (e + i) % room) := hp
  have HL : Hid (p = (e + L.length) % room ∧ i = L.length) := by show _ ∧ _; rw [hp, hi]; exact ⟨rfl, rfl⟩
  have HH : Hid (RAt w b room e (.slice (some ⟨g, 0, none⟩) xs.length cap) xs (L ++ [y])) := h
  have hi3 : i ≤ 65536 := by omega
  have hgne : ¬ g = b := by omega
  have hgne' : ¬ b = g := by omega
  have el : ((L ++ [y]).length : Int) = (i : Int) + 1 := by rw [hi]; simp
  have HE : Hid (((L ++ [y]).length : Int) = (i : Int) + 1) := el
  have hz : ((i : Int) + 1 == 0) = false := beq_eq_false_iff_ne.2 (by omega)
  clear h hi hn hn2 hp el
  go_enter Try.func11, Try.ntmps11
  go_wp2_with (first
    | (go_at_call 13; refine (Len b room _ (L ++ [y]) _ HR.out).mono ?_; rintro r w' ⟨rfl, rfl⟩; rw [HE.out])
    | (go_at_call 28; fail))
  refine (place b e room i p _ _ rfl HP.out ?_ ?_ hr1 hr2 he hi3).mono ?_
  · rw [World.cell?_setCell_other _ _ _ _ (by intro e; injection e; omega)]; exact c1
  · rw [World.cell?_setCell_other _ _ _ _ (by intro e; injection e; omega)]; exact c2
  rintro r w2 ⟨rfl, q, rfl⟩
  go_wp2
  go_region_with (go_at_call 27; refine (zero _).mono ?_; rintro r w3 ⟨rfl, rfl⟩)
  all_goals go_wp2
  all_goals go_ret2
  all_goals obtain ⟨rfl, rfl⟩ := HL.out
  all_goals exact ⟨rfl, pop_end HH.out rfl rfl⟩

end Go.Proofs.Ytneapdegjofodaa.RingInt
