/- What New of a riot does. -/
import Derived.Test.YtgclgegdojnpcaaDoorFill
namespace Go.Proofs.YtgclgegdojnpcaaDoor.Ri
open Go.RowKit Po

/-- The box of the RAM that came in; nothing old turned. -/
structure Nb (W : World) (X : Nat) (l : List Int) (w : World) : Prop where
  row : w.rangeAt X 0 (bytes l)
  lt : X < w.heap.size
  old : Below W.heap.size W w
section
variable {W w w' : World} {X : Nat} {l : List Int}
theorem Nb.below (h : Nb W X l w) (hb : Below w.heap.size w w') : Nb W X l w' := ⟨fun j v hj => (World.cell?_of_block (w := w) (hb.block X h.lt)).trans (h.row j v hj), Nat.lt_of_lt_of_le h.lt hb.size, h.old.trans (hb.mono h.old.size)⟩
theorem Nb.draws (h : Nb W X l w) (q : Nat) : Nb W X l (w.drewN q) := ⟨h.row, h.lt, below_drewN h.old q⟩
theorem TNewK (h : Nb W X l w) (ht : Tm.Tab W) : Calls Tryd.prog 23 #[] w fun e w' => ∃ b, e = .returned (ptr b) ∧ W.heap.size ≤ b ∧ Tm.TAt w' b 0 (Tm.wr 255 3) ∧ Nb W X l w' :=
  (Tm.New w (ht.below h.old ht.lt)).mono fun _ _ ⟨b, he, hb, ha, hB⟩ => ⟨b, he, Nat.le_trans h.old.size hb, ha, h.below hB⟩
theorem ENewK (h : Nb W X l w) : Calls Tryd.prog 24 #[.bool true] w fun e w' => ∃ b, e = .returned (ptr b) ∧ W.heap.size ≤ b ∧ EAt w' b ⟨true, false, false⟩ ∧ Nb W X l w' ∧ (∀ c s, Tm.TAt w c 0 s → Tm.TAt w' c 0 s ∧ c < b) :=
  (NewEdge true w).mono fun _ _ ⟨b, he, hb, ha, hB⟩ => ⟨b, he, Nat.le_trans h.old.size hb, ha, h.below hB, fun _ _ hc => ⟨hc.below hB, Nat.lt_of_lt_of_le hc.lt hb⟩⟩
end

/-- A riot that is being made: its block, its timer, its edge. -/
structure Qb (W : World) (b pt pe : Nat) (l : List Int) (x y : Go.Value) (w : World) : Prop where
  row : w.rangeAt b 0 (rcells l x y (ptr pt) (ptr pe))
  fz : ∀ o, w.frozen? ⟨b, o, none⟩ = false
  t : Tm.TAt w pt 0 (Tm.wr 255 3)
  e : EAt w pe ⟨true, false, false⟩
  lt : b < w.heap.size
  old : Below W.heap.size W w
section
variable {W w w' : World} {b pt pe : Nat} {l : List Int} {x y : Go.Value}
theorem Qb.below (h : Qb W b pt pe l x y w) (hb : Below w.heap.size w w') : Qb W b pt pe l x y w' := ⟨fun j v hj => (World.cell?_of_block (w := w) (hb.block b h.lt)).trans (h.row j v hj), fun o => (World.frozen?_of_block (w := w) (hb.block b h.lt)).trans (h.fz o), h.t.below hb, h.e.below hb, Nat.lt_of_lt_of_le h.lt hb.size, h.old.trans (hb.mono h.old.size)⟩
theorem Qb.draws (h : Qb W b pt pe l x y w) (q : Nat) : Qb W b pt pe l x y (w.drewN q) := ⟨h.row, h.fz, h.t.draws q, h.e.draws q, h.lt, below_drewN h.old q⟩
theorem rcells_at (l : List Int) (hl : l.length = 128) (a b c d : Go.Value) : (rcells l a b c d)[128]? = some a ∧ (rcells l a b c d)[129]? = some b ∧ (rcells l a b c d)[130]? = some c ∧ (rcells l a b c d)[131]? = some d := by
  have hb : (bytes l).length = 128 := by rw [bytes_length, hl]
  unfold rcells
  refine ⟨?_, ?_, ?_, ?_⟩
  all_goals
    rw [List.getElem?_append_right (by omega), hb]
    rfl
theorem Qb.put {k : Nat} {v : Go.Value} {x' y' : Go.Value} (h : Qb W b pt pe l x y w) (hl : l.length = 128) (hk : k < 132) (e : (rcells l x y (ptr pt) (ptr pe)).set k v = rcells l x' y' (ptr pt) (ptr pe)) (h1 : W.heap.size ≤ b) (h2 : b ≠ pt) (h3 : b ≠ pe) : Qb W b pt pe l x' y' (w.setCell ⟨b, k, none⟩ v) := by
  have ht : Turn b w (w.setCell ⟨b, k, none⟩ v) := (Turn.refl _ _).set _ _
  have hlen := rcells_len l hl x y (ptr pt) (ptr pe)
  refine ⟨fun j u hj => ?_, fun o => by rw [World.frozen?_setCell]; exact h.fz o, h.t.turn ht (Ne.symm h2), h.e.turn ht (Ne.symm h3), by simp [World.setCell]; exact h.lt, h.old.trans (ht.below h1 h.old.size)⟩
  rw [← e] at hj
  by_cases hjk : j = k
  · subst hjk
    rw [List.getElem?_set_self (by omega)] at hj
    obtain rfl := Option.some.inj hj
    rw [Nat.zero_add]
    refine World.cell?_setCell_same' _ _ _ ?_
    have := h.row j _ (List.getElem?_eq_getElem (by omega))
    rw [Nat.zero_add] at this
    rw [this]; rfl
  · rw [List.getElem?_set_ne (Ne.symm hjk)] at hj
    exact (World.cell?_setCell_other _ _ _ _ (by simp <;> omega)).trans (h.row j u hj)
theorem PNewK (h : Qb W b pt pe l x y w) : Calls Tryd.prog 25 #[.int .u8 255] w fun e w' => ∃ c, e = .returned (ptr c) ∧ W.heap.size ≤ c ∧ b < c ∧ pt < c ∧ pe < c ∧ PAt w' c ⟨255, 0, 0⟩ ∧ Qb W b pt pe l x y w' ∧ (∀ d s, PAt w d s → PAt w' d s ∧ d < c) :=
  (Po.New 255 w).mono fun _ _ ⟨c, he, hc, ha, hB⟩ => ⟨c, he, Nat.le_trans h.old.size hc, Nat.lt_of_lt_of_le h.lt hc, Nat.lt_of_lt_of_le h.t.lt hc, Nat.lt_of_lt_of_le h.e.lt hc, ha, h.below hB, fun _ _ hd => ⟨hd.below hB, Nat.lt_of_lt_of_le hd.lt hc⟩⟩
theorem Qb.riot {pa pb : Nat} {p q : Pt} (h : Qb W b pt pe l (ptr pa) (ptr pb) w) (hl : l.length = 128) (ha : PAt w pa p) (hb : PAt w pb q) : RAt w ⟨b, pa, pb, pt, pe⟩ ⟨l, p, q, Tm.wr 255 3, ⟨true, false, false⟩⟩ := by
  obtain ⟨a0, a1, a2, a3⟩ := rcells_at l hl (ptr pa) (ptr pb) (ptr pt) (ptr pe)
  refine ⟨fun j v hj => h.row j v ?_, ?_, ?_, ?_, ?_, h.fz, ha, hb, h.t, h.e⟩
  · unfold rcells
    rw [List.getElem?_append_left ((List.getElem?_eq_some_iff.1 hj).1)]
    exact hj
  · have := h.row _ _ a0; rwa [Nat.zero_add] at this
  · have := h.row _ _ a1; rwa [Nat.zero_add] at this
  · have := h.row _ _ a2; rwa [Nat.zero_add] at this
  · have := h.row _ _ a3; rwa [Nat.zero_add] at this
theorem Qb.c0 (h : Qb W b pt pe l x y w) (hl : l.length = 128) : w.cell? ⟨b, 128, none⟩ = some x := by have := h.row _ _ (rcells_at l hl x y (ptr pt) (ptr pe)).1; rwa [Nat.zero_add] at this
theorem Qb.c1 (h : Qb W b pt pe l x y w) (hl : l.length = 128) : w.cell? ⟨b, 129, none⟩ = some y := by have := h.row _ _ (rcells_at l hl x y (ptr pt) (ptr pe)).2.1; rwa [Nat.zero_add] at this
end

set_option maxRecDepth 100000 in
set_option maxHeartbeats 4000000 in
theorem New (l : List Int) (w : World) (hl : l.length = 128) (ht : Tm.Tab w) : Calls Tryd.prog 7 #[.agg (bytes l).toArray] w fun e w' => ∃ B : Rb, e = .returned (.pointer (some ⟨B.b, 0, none⟩)) ∧ (∀ k, B.In k → w.heap.size ≤ k) ∧ B.ok ∧ RAt w' B ⟨l, ⟨255, 0, 0⟩, ⟨255, 0, 0⟩, Tm.wr 255 3, ⟨true, false, false⟩⟩ ∧ Below w.heap.size w w' := by
  have HT : Hid (Tm.Tab w) := ht
  have hb : (bytes l).length = 128 := by rw [bytes_length, hl]
  have hfold := fold_riot l hl
  have hlen := rcells_len l hl
  have hs2 := fun a b c d x => (rcells_set l hl a b c d x).2.2.1
  have hs3 := fun a b c d x => (rcells_set l hl a b c d x).2.2.2
  clear ht
  go_enter Tryd.func7, Tryd.ntmps7
  go_wp2_with (go_at_call 23; fail)
  generalize hw1 : w.alloc _ = w1
  have HN : Hid (Nb w w.heap.size l w1) := (by
    rw [← hw1]
    have hh := heap_alloc_new w (.cells (bytes l).toArray 22)
    exact ⟨fun j v hj => by rw [Nat.zero_add, cell_of_row _ _ _ _ _ _ hh]; simpa using hj, (Array.getElem?_eq_some_iff.1 hh).1, (Below.refl _ _).alloc (Nat.le_refl _) _⟩ : Nb w w.heap.size l w1)
  clear hw1
  obtain ⟨X, hX⟩ : ∃ X, X = w.heap.size := ⟨_, rfl⟩
  rw [← hX] at HN ⊢
  clear hX
  have hu := Tryd.underlying22
  have hinf : (Tryd.prog.info? 22).map (·.size) = some (bytes l).length := by rw [info128, hb]
  go_region_held3 (fun w' => w'.rangeAt X 0 (bytes l)) (first | assumption | exact HN3.out.row | exact HN2.out.row | exact HN.out.row | exact (HN3.out.below ((Below.refl _ _).alloc (Nat.le_refl _) _)).row) (first
    | (go_at_call 23; refine (TNewK (by first | exact HN.out | exact HN.out.draws _) HT.out).mono ?_; rintro e w2 ⟨pt, rfl, hpt, hA2, hN2⟩; have HA2 : Hid (Tm.TAt w2 pt 0 (Tm.wr 255 3)) := hA2; have HN2 : Hid (Nb w X l w2) := hN2; clear hA2 hN2)
    | (go_at_call 24; refine (ENewK HN2.out).mono ?_; rintro e w3 ⟨pe, rfl, hpe, hE3, hN3, hK3⟩; have HE3 : Hid (EAt w3 pe ⟨true, false, false⟩) := hE3; have HN3 : Hid (Nb w X l w3) := hN3; have HK3 : Hid (Tm.TAt w3 pt 0 (Tm.wr 255 3) ∧ pt < pe) := hK3 _ _ HA2.out; clear hE3 hN3 hK3))
  generalize hw4 : w3.alloc _ = w4
  have HQ4 : Hid (Qb w w3.heap.size pt pe l (.pointer none) (.pointer none) w4) := (by
    rw [← hw4]
    have hh := heap_alloc_new w3 (.cells (rcells l (.pointer none) (.pointer none) (ptr pt) (ptr pe)).toArray 66)
    have hB := (Below.refl w3.heap.size w3).alloc (Nat.le_refl _) (.cells (rcells l (.pointer none) (.pointer none) (ptr pt) (ptr pe)).toArray 66)
    exact ⟨fun j v hj => by rw [Nat.zero_add, cell_of_row _ _ _ _ _ _ hh]; simpa using hj, fun _ => frozen_of_row _ _ _ _ _ hh, HK3.out.1.below hB, HE3.out.below hB, (Array.getElem?_eq_some_iff.1 hh).1, HN3.out.old.trans (hB.mono HN3.out.old.size)⟩ : Qb w w3.heap.size pt pe l (.pointer none) (.pointer none) w4)
  have hge : w.heap.size ≤ w3.heap.size := HN3.out.old.size
  have hnt : pt < w3.heap.size := HK3.out.1.lt
  have hne : pe < w3.heap.size := HE3.out.lt
  have hte : pt < pe := HK3.out.2
  clear hw4 HN HN2 HN3 HA2 HE3 HK3 hfold hs2 hs3 hu hinf
  generalize w3.heap.size = b at *
  have HL : Hid (l.length = 128) := hl
  have e0 := HQ4.out.c0 hl
  have f0 := HQ4.out.fz 128
  go_wp2
  refine wp_loop_rounds 3 ?_
  rw [rounds_succ]
  go_wp2
  go_region_held3 (fun _ => True) (trivial) (first
    | (go_at_call 25; refine (PNewK (by first | exact HQ4.out | exact HQ4.out.draws _)).mono ?_; rintro e w5 ⟨pa, rfl, hpa, hpa1, hpa2, hpa3, hP5, hQ5, -⟩; have HP5 : Hid (PAt w5 pa ⟨255, 0, 0⟩) := hP5; have HQ5 : Hid (Qb w b pt pe l (.pointer none) (.pointer none) w5) := hQ5; have d0 := hQ5.c0 HL.out; have g0 := hQ5.fz 128; clear hP5 hQ5))
  generalize hw6 : w5.setCell _ _ = w6
  have HQ6 : Hid (Qb w b pt pe l (ptr pa) (.pointer none) w6) := (by rw [← hw6]; exact HQ5.out.put HL.out (by decide) (rcells_set l HL.out _ _ _ _ _).1 hge (by omega) (by omega) : Qb w b pt pe l (ptr pa) (.pointer none) w6)
  have HP6 : Hid (PAt w6 pa ⟨255, 0, 0⟩) := (by rw [← hw6]; exact HP5.out.turn ((Turn.refl b _).set _ _) (by omega) : PAt w6 pa ⟨255, 0, 0⟩)
  clear hw6 HQ5 HP5 HQ4 d0 g0 e0 f0
  have e1 := HQ6.out.c1 HL.out
  have f1 := HQ6.out.fz 129
  go_wp2
  rw [rounds_succ]
  go_wp2
  go_region_held3 (fun _ => True) (trivial) (first
    | (go_at_call 25; refine (PNewK (by first | exact HQ6.out | exact HQ6.out.draws _)).mono ?_; rintro e w7 ⟨pb, rfl, hpb, hpb1, hpb2, hpb3, hP7, hQ7, hK7⟩; have HP7 : Hid (PAt w7 pb ⟨255, 0, 0⟩) := hP7; have HQ7 : Hid (Qb w b pt pe l (ptr pa) (.pointer none) w7) := hQ7; have HK7 : Hid (PAt w7 pa ⟨255, 0, 0⟩ ∧ pa < pb) := hK7 _ _ (by first | exact HP6.out | exact HP6.out.draws _); have d1 := hQ7.c1 HL.out; have g1 := hQ7.fz 129; clear hP7 hQ7 hK7))
  generalize hw8 : w7.setCell _ _ = w8
  have HQ8 : Hid (Qb w b pt pe l (ptr pa) (ptr pb) w8) := (by rw [← hw8]; exact HQ7.out.put HL.out (by decide) (rcells_set l HL.out _ _ _ _ _).2.1 hge (by omega) (by omega) : Qb w b pt pe l (ptr pa) (ptr pb) w8)
  have HP8 : Hid (PAt w8 pa ⟨255, 0, 0⟩) := (by rw [← hw8]; exact HK7.out.1.turn ((Turn.refl b _).set _ _) (by omega) : PAt w8 pa ⟨255, 0, 0⟩)
  have HR8 : Hid (PAt w8 pb ⟨255, 0, 0⟩) := (by rw [← hw8]; exact HP7.out.turn ((Turn.refl b _).set _ _) (by omega) : PAt w8 pb ⟨255, 0, 0⟩)
  have hab : pa < pb := HK7.out.2
  clear hw8 HQ7 HP7 HK7 d1 g1 e1 f1 HQ6 HP6
  go_wp2
  rw [rounds_succ]
  go_wp2
  go_returns
  refine ⟨⟨b, pa, pb, pt, pe⟩, rfl, fun k hk => ?_, ⟨?_, ?_, ?_, ?_, ?_, ?_, ?_, ?_, ?_, ?_⟩, HQ8.out.riot HL.out HP8.out HR8.out, HQ8.out.old⟩
  · rcases hk with e | e | e | e | e <;> (simp only at e; omega)
  all_goals (simp only; omega)

end Go.Proofs.YtgclgegdojnpcaaDoor.Ri
