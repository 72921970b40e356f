/- What Put of a ring of string does. -/
import Derived.Test.YtneapdegjofodaaRingStr
namespace Go.Proofs.Ytneapdegjofodaa.RingStr
open Go.RowKit

theorem full_end {w w1 w2 : World} {b room e g n cap q : Nat} {xs L : List ByteArray} {y x : ByteArray} (h : RAt w b room e (.slice (some ⟨g, 0, none⟩) n cap) xs (y :: L)) (hl : (y :: L).length = room)
    (h1 : w1 = (w.drewN q).setCell ⟨g, e, none⟩ (.string x)) {q' : Nat} (h2 : w2 = (w1.drewN q').setCell ⟨b, 2, none⟩ (.int .i64 (((e + 1) % room : Nat) : Int))) :
    Ring w2 b room (.slice (some ⟨g, 0, none⟩) n cap) (L ++ [x]) ∧ Part b (.slice (some ⟨g, 0, none⟩) n cap) w w2 := by
  have hg := (h.own.lt g rfl).1
  have hn : n = xs.length := by
    rcases h.own.2 with ⟨h', _⟩ | ⟨g', cap', cur, h', _⟩
    · cases h'
    · injection h'
  subst hn
  have hgb : g ≠ b := by omega
  have cb : ∀ o, o ≠ 2 → w2.cell? ⟨b, o, none⟩ = w.cell? ⟨b, o, none⟩ := fun o ho => by
    rw [h2, World.cell?_setCell_other _ _ _ _ (by intro e; injection e; omega)]
    show w1.cell? _ = _
    rw [h1, World.cell?_setCell_other _ _ _ _ (by intro e; injection e; omega)]
    rfl
  have own1 : w1.ownsRow (b + 1) 9 1 (.slice (some ⟨g, 0, none⟩) xs.length cap) xs.length ((xs.set e x).map fun x => .string x) := by
    have := ((h.draws q).own.stored e (.string x)).1
    rw [h1, List.map_set]
    exact this
  refine ⟨⟨(e + 1) % room, xs.set e x, ⟨(cb 0 (by omega)).trans h.c0, (cb 1 (by omega)).trans h.c1, ?_, ?_, fun o => ?_, ?_, h.r1, h.r2, h.lay.fullPut hl x⟩⟩, ?_⟩
  · rw [h2]
    refine World.cell?_setCell_same' _ _ _ ?_
    show (w1.cell? _).isSome = _
    rw [h1, World.cell?_setCell_other _ _ _ _ (by intro e; injection e; omega)]
    show (w.cell? _).isSome = _
    rw [h.c2]; rfl
  · rw [cb 3 (by omega), h.c3]
    simp
  · rw [h2, World.frozen?_setCell]
    show w1.frozen? _ = _
    rw [h1, World.frozen?_setCell]
    exact h.fz o
  · rw [h2, List.length_set]
    exact ownsRow_setCell_below (a := ⟨b, 2, none⟩) (show (w1.drewN q').ownsRow _ _ _ _ _ _ from own1) (by simp) _
  · refine ⟨by rw [h2, h1]; rfl, by rw [h2, h1]; rfl, by rw [h2, h1]; rfl, by rw [h2, h1]; simp [World.setCell, World.drewN], fun k hk hb hv => ?_⟩
    rw [h2, Below.heap_setCell _ _ _ _ hb]
    show w1.heap[k]? = _
    rw [h1, Below.heap_setCell _ _ _ _ (fun e => hv (by rw [e]; rfl))]
    rfl

set_option maxRecDepth 100000 in
set_option maxHeartbeats 1000000 in
theorem Put_full (b room : Nat) (v : Value) (y x : ByteArray) (L : List ByteArray) (w : World) (h : Ring w b room v (y :: L)) (hl : (y :: L).length = room) :
    Calls Try.prog 31 #[.pointer (some ⟨b, 0, none⟩), .string x] w fun r w' => r = .returned (.tuple #[.string y, .bool true]) ∧ Ring w' b room v (L ++ [x]) ∧ Part b v w w' := by
  obtain ⟨e, xs, h⟩ := h
  have hn := h.lay.i1
  have hn2 := h.lay.n1
  have he := h.lay.e1
  have hr1 := h.r1
  have hr2 := h.r2
  obtain ⟨g, cap, rfl⟩ : ∃ g cap, v = .slice (some ⟨g, 0, none⟩) room cap := by
    rcases h.own.2 with ⟨_, h'⟩ | ⟨g', cap', cur, h', _⟩
    · omega
    · exact ⟨g', cap', by rw [h']; congr 1; omega⟩
  have hgb := (h.own.lt g rfl).1
  have c0 := h.c0
  have c1 := h.c1
  have c2 := h.c2
  have c3 : w.cell? ⟨b, 3, none⟩ = some (.int .i64 (room : Int)) := by rw [h.c3, hl]
  have f2 := h.fz 2
  have hx : xs.length = room := by omega
  have own := h.own
  rw [hx] at own
  have ce : w.cell? ⟨g, e, none⟩ = some (.string y) := by
    rw [own.cellAt e (by omega), List.getElem?_map, h.lay.fullAt]; rfl
  have fe := own.frozenAt e
  have HH : Hid (RAt w b room e (.slice (some ⟨g, 0, none⟩) room cap) xs (y :: L)) := h
  have HL : Hid ((y :: L).length = room) := hl
  have n0 : (0 : Int) ≤ (e : Int) := by omega
  have n1 : (e : Int) < (room : Int) := by omega
  have hgne : ¬ g = b := by omega
  have hgne' : ¬ b = g := by omega
  clear h hl own hx hn hn2
  go_enter Try.func31, Try.ntmps31
  go_wp2
  go_quiet (fail)
  go_wp2
  go_quiet (fail)
  go_wp2
  go_region
  go_wp2_with (go_at_call 39; fail)
  refine (place b e room 1 _ 1 _ rfl rfl ?_ ?_ hr1 hr2 he (by omega)).mono ?_
  · rw [World.cell?_setCell_other _ _ _ _ (by intro e; injection e; omega)]; exact c1
  · rw [World.cell?_setCell_other _ _ _ _ (by intro e; injection e; omega)]; exact c2
  rintro r w2 ⟨rfl, q, rfl⟩
  go_wp2
  go_ret2
  exact ⟨rfl, full_end HH.out HL.out rfl rfl⟩

theorem store_end {w w1 w2 : World} {b room e g n cap q : Nat} {xs L : List ByteArray} {x : ByteArray} (h : RAt w b room e (.slice (some ⟨g, 0, none⟩) n cap) xs L) (hl : L.length < room) (hs : (e + L.length) % room < xs.length)
    (h1 : w1 = (w.drewN q).setCell ⟨g, (e + L.length) % room, none⟩ (.string x)) (h2 : w2 = w1.setCell ⟨b, 3, none⟩ (.int .i64 ((L.length : Int) + 1))) :
    Ring w2 b room (.slice (some ⟨g, 0, none⟩) n cap) (L ++ [x]) ∧ Part b (.slice (some ⟨g, 0, none⟩) n cap) w w2 := by
  have hg := (h.own.lt g rfl).1
  have hn : n = xs.length := by
    rcases h.own.2 with ⟨h', _⟩ | ⟨g', cap', cur, h', _⟩
    · cases h'
    · injection h'
  subst hn
  have hgb : g ≠ b := by omega
  have cb : ∀ o, o ≠ 3 → w2.cell? ⟨b, o, none⟩ = w.cell? ⟨b, o, none⟩ := fun o ho => by
    rw [h2, World.cell?_setCell_other _ _ _ _ (by intro e; injection e; omega), h1, World.cell?_setCell_other _ _ _ _ (by intro e; injection e; omega)]
    rfl
  have own1 : w1.ownsRow (b + 1) 9 1 (.slice (some ⟨g, 0, none⟩) xs.length cap) xs.length ((xs.set ((e + L.length) % room) x).map fun x => .string x) := by
    have := ((h.draws q).own.stored ((e + L.length) % room) (.string x)).1
    rw [h1, List.map_set]
    exact this
  refine ⟨⟨e, xs.set ((e + L.length) % room) x, ⟨(cb 0 (by omega)).trans h.c0, (cb 1 (by omega)).trans h.c1, (cb 2 (by omega)).trans h.c2, ?_, fun o => ?_, ?_, h.r1, h.r2, h.lay.store hl hs x⟩⟩, ?_⟩
  · rw [h2]
    have e3 : ((L ++ [x]).length : Int) = (L.length : Int) + 1 := by simp
    rw [e3]
    refine World.cell?_setCell_same' _ _ _ ?_
    rw [h1, World.cell?_setCell_other _ _ _ _ (by intro e; injection e; omega)]
    show (w.cell? _).isSome = _
    rw [h.c3]; rfl
  · rw [h2, World.frozen?_setCell, h1, World.frozen?_setCell]
    exact h.fz o
  · rw [h2, List.length_set]
    exact ownsRow_setCell_below (a := ⟨b, 3, none⟩) own1 (by simp) _
  · refine ⟨by rw [h2, h1]; rfl, by rw [h2, h1]; rfl, by rw [h2, h1]; rfl, by rw [h2, h1]; simp [World.setCell, World.drewN], fun k hk hb hv => ?_⟩
    rw [h2, Below.heap_setCell _ _ _ _ hb, h1, Below.heap_setCell _ _ _ _ (fun e => hv (by rw [e]; rfl))]
    rfl

set_option maxRecDepth 100000 in
set_option maxHeartbeats 1000000 in
theorem Put_store (b room : Nat) (v : Value) (x : ByteArray) (L : List ByteArray) (w : World) (e : Nat) (xs : List ByteArray) (h : RAt w b room e v xs L) (hl : L.length < room) (hs : (e + L.length) % room < xs.length) :
    Calls Try.prog 31 #[.pointer (some ⟨b, 0, none⟩), .string x] w fun r w' => r = .returned (.tuple #[.string ByteArray.empty, .bool false]) ∧ Ring w' b room v (L ++ [x]) ∧ Part b v w w' := by
  have hn := h.lay.i1
  have hn2 := h.lay.n1
  have he := h.lay.e1
  have hr1 := h.r1
  have hr2 := h.r2
  obtain ⟨g, cap, rfl⟩ : ∃ g cap, v = .slice (some ⟨g, 0, none⟩) xs.length cap := by
    rcases h.own.2 with ⟨_, h'⟩ | ⟨g', cap', cur, h', _⟩
    · omega
    · exact ⟨g', cap', h'⟩
  have hgb := (h.own.lt g rfl).1
  obtain ⟨i, hi⟩ : ∃ i, i = L.length := ⟨_, rfl⟩
  obtain ⟨p, hp⟩ : ∃ p, p = (e + i) % room := ⟨_, rfl⟩
  obtain ⟨n, hn'⟩ : ∃ n, n = xs.length := ⟨_, rfl⟩
  have c0 := h.c0
  have c1 := h.c1
  have c2 := h.c2
  have c3 := h.c3
  rw [← hi] at c3
  rw [← hn'] at c0
  have f3 := h.fz 3
  have HH : Hid (RAt w b room e (.slice (some ⟨g, 0, none⟩) n cap) xs L) := by rw [hn']; exact h
  have own := h.own
  rw [← hn'] at own
  have hpn : p < n := by rw [hp, hi, hn']; exact hs
  have ce : ∃ u, w.cell? ⟨g, p, none⟩ = some (.string u) := by
    rw [own.cellAt p (by omega), List.getElem?_map, List.getElem?_eq_getElem (by omega)]; exact ⟨_, rfl⟩
  obtain ⟨u, ce⟩ := ce
  have fe := own.frozenAt p
  have HL : Hid (L.length < room ∧ (e + L.length) % room < xs.length ∧ i = L.length ∧ p = (e + i) % room ∧ n = xs.length) := ⟨hl, hs, hi, hp, hn'⟩
  have HP : Hid (p = (e + i) % room) := hp
  have hne : ((i : Int) == (room : Int)) = false := beq_eq_false_iff_ne.2 (by omega)
  have hi2 : i < room := by omega
  have hpn' : (p : Int) < (n : Int) := by omega
  have hp0 : (0 : Int) ≤ (p : Int) := by omega
  have hgne : ¬ g = b := by omega
  have hgne' : ¬ b = g := by omega
  clear h hl hs own hn hn2 hi hp hn'
  go_enter Try.func31, Try.ntmps31
  go_wp2
  go_quiet (fail)
  go_wp2_with (go_at_call 39; fail)
  refine (place b e room i p _ _ rfl HP.out ?_ ?_ hr1 hr2 he (by omega)).mono ?_
  · exact c1
  · exact c2
  rintro r w2 ⟨rfl, q, rfl⟩
  go_wp2_with (go_at_call 38; refine (zero _).mono ?_; rintro r w3 ⟨rfl, rfl⟩)
  go_ret2
  obtain ⟨a1, a2, rfl, rfl, rfl⟩ := HL.out
  exact ⟨rfl, store_end HH.out a1 a2 rfl rfl⟩

theorem push_end {w w0 w1 w2 : World} {b room e : Nat} {v v' : Value} {xs L : List ByteArray} {x : ByteArray} (h : RAt w b room e v xs L) (hl : L.length < room) (hs : xs.length ≤ (e + L.length) % room)
    (h0 : Below w.heap.size w w0) (hown : w1.ownsRow (b + 1) 9 1 v' (xs.length + 1) ((xs.map fun x => .string x) ++ [.string x])) (hg : w0.grownBy w1 v.ownBlock) (hv : v'.ownBlock = v.ownBlock ∨ v'.ownBlock = some w0.heap.size)
    (h2 : w2 = (w1.setCell ⟨b, 0, none⟩ v').setCell ⟨b, 3, none⟩ (.int .i64 ((L.length : Int) + 1))) :
    Ring w2 b room v' (L ++ [x]) ∧ Part b v w w2 ∧ Newer w v v' := by
  have hb := h.lt
  have hs0 := h0.size
  have hne : some b ≠ v.ownBlock := fun e => by have := (h.own.lt b e.symm).1; omega
  have b1 : w1.heap[b]? = w.heap[b]? := (hg.block b (by omega) hne).trans (h0.block b hb)
  have cb : ∀ o, o ≠ 0 → o ≠ 3 → w2.cell? ⟨b, o, none⟩ = w.cell? ⟨b, o, none⟩ := fun o ho ho' => by
    rw [h2, World.cell?_setCell_other _ _ _ _ (by intro e; injection e; omega), World.cell?_setCell_other _ _ _ _ (by intro e; injection e; omega)]
    exact World.cell?_of_block (w := w) b1
  refine ⟨⟨e, xs ++ [x], ⟨?_, (cb 1 (by omega) (by omega)).trans h.c1, (cb 2 (by omega) (by omega)).trans h.c2, ?_, fun o => ?_, ?_, h.r1, h.r2, h.lay.push hl hs x⟩⟩, ?_, ?_⟩
  · rw [h2, World.cell?_setCell_other _ _ _ _ (by intro e; injection e; omega)]
    refine World.cell?_setCell_same' _ _ _ ?_
    rw [World.cell?_of_block (w := w) b1, h.c0]; rfl
  · rw [h2]
    have e3 : ((L ++ [x]).length : Int) = (L.length : Int) + 1 := by simp
    rw [e3]
    refine World.cell?_setCell_same' _ _ _ ?_
    rw [World.cell?_setCell_other _ _ _ _ (by intro e; injection e; omega), World.cell?_of_block (w := w) b1, h.c3]; rfl
  · rw [h2, World.frozen?_setCell, World.frozen?_setCell, World.frozen?_of_block (w := w) b1]
    exact h.fz o
  · have e3 : (xs ++ [x]).length = xs.length + 1 := by simp
    rw [h2, List.map_append, e3]
    exact ownsRow_setCell_below (a := ⟨b, 3, none⟩) (ownsRow_setCell_below (a := ⟨b, 0, none⟩) hown (by simp) _) (by simp) _
  · refine ⟨by rw [h2]; exact hg.os.trans h0.os, by rw [h2]; exact hg.tape.trans h0.tape, by rw [h2]; exact hg.output.trans h0.output, ?_, fun k hk hb' hv' => ?_⟩
    · have := hg.size
      rw [h2]; simp [World.setCell]; omega
    · rw [h2, Below.heap_setCell _ _ _ _ hb', Below.heap_setCell _ _ _ _ hb', hg.block k (by omega) hv', h0.block k hk]
  · rcases hv with hv | hv
    · exact .inl hv
    · exact .inr ⟨_, hv, hs0⟩

theorem slice_form {w : World} {b : Nat} {t : TypeId} {v : Value} {n : Nat} {xs : List Value} (h : w.ownsRow b t 1 v n xs) : ∃ ao cap, v = .slice ao n cap := by
  rcases h.2 with ⟨h1, h2⟩ | ⟨g, cap, cur, h1, _⟩
  · subst h2; exact ⟨_, _, h1⟩
  · exact ⟨_, _, h1⟩

theorem kept_cells {w w0 w1 : World} {b room e : Nat} {v : Value} {xs L : List ByteArray} (h : RAt w b room e v xs L) (h0 : Below w.heap.size w w0) (hg : w0.grownBy w1 v.ownBlock) :
    w1.cell? ⟨b, 0, none⟩ = some v ∧ w1.cell? ⟨b, 3, none⟩ = some (.int .i64 (L.length : Int)) ∧ w1.frozen? ⟨b, 0, none⟩ = false ∧ w1.frozen? ⟨b, 3, none⟩ = false := by
  have hb := h.lt
  have hs0 := h0.size
  have hne : some b ≠ v.ownBlock := fun e => by have := (h.own.lt b e.symm).1; omega
  have b1 : w1.heap[b]? = w.heap[b]? := (hg.block b (by omega) hne).trans (h0.block b hb)
  exact ⟨(World.cell?_of_block (w := w) b1).trans h.c0, (World.cell?_of_block (w := w) b1).trans h.c3, (World.frozen?_of_block (w := w) b1).trans (h.fz 0), (World.frozen?_of_block (w := w) b1).trans (h.fz 3)⟩

set_option maxRecDepth 100000 in
set_option maxHeartbeats 1000000 in
theorem Put_push (b room : Nat) (v : Value) (x : ByteArray) (L : List ByteArray) (w : World) (e : Nat) (xs : List ByteArray) (h : RAt w b room e v xs L) (hl : L.length < room) (hs : xs.length ≤ (e + L.length) % room) :
    Calls Try.prog 31 #[.pointer (some ⟨b, 0, none⟩), .string x] w fun r w' => r = .returned (.tuple #[.string ByteArray.empty, .bool false]) ∧ ∃ v', Ring w' b room v' (L ++ [x]) ∧ Part b v w w' ∧ Newer w v v' := by
  obtain ⟨i0, hi0, hz0, hz1, hz2⟩ := info_parts info
  have hn2 := h.lay.n1
  have he := h.lay.e1
  have hr1 := h.r1
  have hr2 := h.r2
  obtain ⟨ao, cap, rfl⟩ := slice_form h.own
  obtain ⟨i, hi⟩ : ∃ i, i = L.length := ⟨_, rfl⟩
  obtain ⟨p, hp⟩ : ∃ p, p = (e + i) % room := ⟨_, rfl⟩
  obtain ⟨n, hn'⟩ : ∃ n, n = xs.length := ⟨_, rfl⟩
  have hb := h.lt
  have c0 := h.c0
  have c1 := h.c1
  have c2 := h.c2
  have c3 := h.c3
  rw [← hi] at c3
  rw [← hn'] at c0
  have f0 := h.fz 0
  have f3 := h.fz 3
  have HH : Hid (RAt w b room e (.slice ao xs.length cap) xs L) := h
  have HO : Hid (w.ownsRow (b + 1) 9 1 (.slice ao n cap) n (xs.map fun x => .string x)) := by rw [hn']; exact h.own
  have hpn : n ≤ p := by rw [hp, hi, hn']; exact hs
  have HL : Hid (L.length < room ∧ xs.length ≤ (e + L.length) % room ∧ i = L.length ∧ p = (e + i) % room ∧ n = xs.length) := ⟨hl, hs, hi, hp, hn'⟩
  have HP : Hid (p = (e + i) % room) := hp
  have hne : ((i : Int) == (room : Int)) = false := beq_eq_false_iff_ne.2 (by omega)
  have hi2 : i < room := by omega
  have hpn' : (n : Int) ≤ (p : Int) := by omega
  have hnr : n ≤ room := by omega
  clear h hl hs hn2 hi hp hn'
  go_enter Try.func31, Try.ntmps31
  go_wp2
  go_quiet (fail)
  go_wp2_with (go_at_call 39; fail)
  refine (place b e room i p _ _ rfl HP.out ?_ ?_ hr1 hr2 he (by omega)).mono ?_
  · exact c1
  · exact c2
  rintro r w2 ⟨rfl, q, rfl⟩
  go_wp2_with (first
    | (go_at_call 38; refine (zero _).mono ?_; rintro r w3 ⟨rfl, rfl⟩)
    | (at_builtin; refine wpList_append_own_at _ rfl _ _ 86 rfl (b + 1) 9 i0 (.string ByteArray.empty) 1 16 Try.underlying86 hi0 hz0 hz1 hz2 rfl (by decide) _ _ _ rfl (World.ownsRow.alloc (show World.ownsRow _ _ _ _ _ _ _ from HO.out) _) _ 1 1 [_] rfl rfl (cell_one_new _ _ _) (by simp [Value.oneCell']) (by unfold maxLen; omega) (by omega) (by simp; omega) ?_; intro v' w1 hown' hgrow _ hat; obtain ⟨ao', cap', rfl⟩ := slice_form hown'; have HK : Hid (w1.cell? ⟨b, 0, none⟩ = some (.slice ao n cap) ∧ w1.cell? ⟨b, 3, none⟩ = some (.int .i64 (i : Int)) ∧ w1.frozen? ⟨b, 0, none⟩ = false ∧ w1.frozen? ⟨b, 3, none⟩ = false) := (by obtain ⟨_, _, e1, _, e2⟩ := HL.out; subst e1; subst e2; exact kept_cells HH.out ((below_drewN (Below.refl _ w) _).alloc (Nat.le_refl _) _) hgrow); obtain ⟨k0, k3, g0, g3⟩ := HK.out; have HG : Hid (World.grownBy _ w1 _) := hgrow; have HW : Hid (w1.ownsRow (b + 1) 9 1 _ _ _) := hown'; have HA : Hid _ := hat; clear hat hgrow hown'))
  go_ret2
  have hgr : World.grownBy ((w.drewN (nq + q)).alloc (.cells #[.string x] 9)) w1 (Value.slice ao n cap).ownBlock := HG.out
  have hat : (Value.slice ao' (n + 1) cap').ownBlock = (Value.slice ao n cap).ownBlock ∨ (Value.slice ao' (n + 1) cap').ownBlock = some ((w.drewN (nq + q)).alloc (.cells #[.string x] 9)).heap.size := HA.out
  obtain ⟨a1, a2, rfl, rfl, rfl⟩ := HL.out
  exact ⟨rfl, _, push_end HH.out a1 a2 ((below_drewN (Below.refl _ w) _).alloc (Nat.le_refl _) _) HW.out hgr hat rfl⟩

/-- What Put tells, whether there was room or not. -/
def putX (room : Nat) (L : List ByteArray) : ByteArray := if L.length < room then ByteArray.empty else L.headD ByteArray.empty
def putB (room : Nat) (L : List ByteArray) : Bool := !decide (L.length < room)
def putL (room : Nat) (L : List ByteArray) (x : ByteArray) : List ByteArray := if L.length < room then L ++ [x] else L.tail ++ [x]

theorem Put (b room : Nat) (v : Value) (x : ByteArray) (L : List ByteArray) (w : World) (h : Ring w b room v L) :
    Calls Try.prog 31 #[.pointer (some ⟨b, 0, none⟩), .string x] w fun r w' => r = .returned (.tuple #[.string (putX room L), .bool (putB room L)]) ∧ ∃ v', Ring w' b room v' (putL room L x) ∧ Part b v w w' ∧ Newer w v v' := by
  by_cases hl : L.length < room
  · have e1 : putX room L = ByteArray.empty := if_pos hl
    have e2 : putB room L = false := by unfold putB; rw [decide_eq_true hl]; rfl
    have e3 : putL room L x = L ++ [x] := if_pos hl
    rw [e1, e2, e3]
    obtain ⟨e, xs, h⟩ := h
    by_cases hs : (e + L.length) % room < xs.length
    · exact (Put_store b room v x L w e xs h hl hs).mono fun r w' ⟨h1, h2, h3⟩ => ⟨h1, v, h2, h3, .inl rfl⟩
    · exact Put_push b room v x L w e xs h hl (Nat.le_of_not_lt hs)
  · have hle := h.le
    have hr : 1 ≤ room := let ⟨_, _, h⟩ := h; h.r1
    match L, h, hl, hle with
    | y :: L, h, hl, hle =>
      have e1 : putX room (y :: L) = y := if_neg hl
      have e2 : putB room (y :: L) = true := by unfold putB; rw [decide_eq_false hl]; rfl
      have e3 : putL room (y :: L) x = L ++ [x] := if_neg hl
      rw [e1, e2, e3]
      exact (Put_full b room v y x L w h (by omega)).mono fun r w' ⟨h1, h2, h3⟩ => ⟨h1, v, h2, h3, .inl rfl⟩
    | [], _, hl, _ => simp at hl; omega

set_option maxHeartbeats 400000 in
theorem Put_nil (x : ByteArray) (w : World) :
    Calls Try.prog 31 #[.pointer none, .string x] w fun r w' => r = .returned (.tuple #[.string ByteArray.empty, .bool false]) ∧ w' = w := by
  go_enter Try.func31, Try.ntmps31
  go_wp2_with (go_at_call 38; refine (zero _).mono ?_; rintro r w3 ⟨rfl, rfl⟩)
  go_ret2
  exact ⟨rfl, rfl⟩

end Go.Proofs.Ytneapdegjofodaa.RingStr
