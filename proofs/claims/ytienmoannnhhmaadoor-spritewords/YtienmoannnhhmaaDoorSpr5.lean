/- What the delay line tells: the two ages that count. -/
import Derived.Test.YtienmoannnhhmaaDoorSpr4
set_option linter.unusedVariables false
namespace Go.Proofs.YtienmoannnhhmaaDoor.Sp
open Go.RowKit Go.Shelf

attribute [local go_sem] Oper.semAt_some

set_option maxHeartbeats 1000000 in
theorem ages (n : Nat) (b off : Nat) (w : World) :
    CallsIn Fence.wide n Tryd.prog 49 #[.pointer (some ⟨b, off, none⟩)] w fun e w' =>
      e = .returned (.func (.func 60) #[] #[.pointer (some ⟨w.heap.size, 0, none⟩)]) ∧
      w' = w.alloc (.cells #[.pointer (some ⟨b, off, none⟩)] 82) := by
  refine callsIn_of_wp Tryd.func49 rfl trivial ?_ rfl
  simp only [Tryd.ntmps49, List.size_toArray, List.length_cons, List.length_nil, Nat.reduceAdd, Nat.reduceSub, Array.replicate_succ, Array.replicate_zero, List.push_toArray, List.append_toArray, List.nil_append, List.cons_append]
  gi_wp2
  go_ret
  exact ⟨rfl, rfl⟩

theorem ages_stops (n : Nat) (hn : 1 ≤ n) (Bd b off X : Nat) (S : Nat → Prop) (w : World)
    (hBd : w.cell? ⟨Bd, 0, none⟩ = some (.pointer (some ⟨b, off, none⟩))) (hT : Tb w) (hD : DlAt w b off X)
    (ld : S Bd) (lb : S b) (l0 : S 0) (ln : ∀ k, S k → k < w.heap.size) :
    SeqStopsK Fence.wide n Tryd.prog 60 #[.pointer (some ⟨Bd, 0, none⟩)] (fun x : Nat => #[Value.int .i64 (x : Int)]) (Keeps S)
      (fun ys => ys = bt X 256) (fun pre => pre <+: bt X 256) 256 w := fun l J Jx W hW hJ _ hY h0 =>
  ages1 n hn l Bd b off X S J Jx (fun pre A B ha hb => hJ pre A B none ha hb (fun r e => by cases e)) hY W ((hW.cell (p := ⟨Bd, 0, none⟩) (ln _ ld)).trans hBd)
    (hT.kept (hW.block 0 (ln _ l0))) (hD.kept (hW.block b (ln _ lb))) ld lb l0 h0

/-- The boxes of lastTwo: its result, last, n. -/
structure Ls (g : Nat) (p q m : Nat) (W : World) : Prop where
  r0 : W.cell? ⟨g, 0, none⟩ = some (.int .i64 0)
  r1 : W.cell? ⟨g, 1, none⟩ = some (.int .i64 0)
  rf : W.frozen? ⟨g, 0, none⟩ = false
  rg : W.frozen? ⟨g, 1, none⟩ = false
  l0 : W.cell? ⟨g + 1, 0, none⟩ = some (.int .i64 (p : Int))
  l1 : W.cell? ⟨g + 1, 1, none⟩ = some (.int .i64 (q : Int))
  lf : W.frozen? ⟨g + 1, 0, none⟩ = false
  lg : W.frozen? ⟨g + 1, 1, none⟩ = false
  n0 : W.cell? ⟨g + 2, 0, none⟩ = some (.int .i64 (m : Int))
  nf : W.frozen? ⟨g + 2, 0, none⟩ = false
theorem Ls.own {g p q m : Nat} {A B : World} {row : Option Nat} (h : Ls g p q m A) (hg : A.grownBy B row) (hr : ∀ r, row = some r → ∃ o : Obj, A.heap[r]? = some o ∧ o.isCells = false) : Ls g p q m B :=
  ⟨cell_kept h.r0 hg hr, cell_kept h.r1 hg hr, (frozen_kept h.r0 hg hr).trans h.rf, (frozen_kept h.r1 hg hr).trans h.rg, cell_kept h.l0 hg hr, cell_kept h.l1 hg hr, (frozen_kept h.l0 hg hr).trans h.lf, (frozen_kept h.l1 hg hr).trans h.lg, cell_kept h.n0 hg hr, (frozen_kept h.n0 hg hr).trans h.nf⟩

theorem Ls.setl0 {g p q m : Nat} {W : World} (h : Ls g p q m W) (x : Nat) : Ls g x q m (W.setCell ⟨g + 1, 0, none⟩ (.int .i64 (x : Int))) := by
  have o : ∀ a v, a ≠ (⟨g + 1, 0, none⟩ : Addr) → W.cell? a = some v → (W.setCell ⟨g + 1, 0, none⟩ (.int .i64 (x : Int))).cell? a = some v := fun a v ha hv => (World.cell?_setCell_other _ _ _ _ (Ne.symm ha)).trans hv
  exact ⟨o _ _ (by intro e; injection e; omega) h.r0, o _ _ (by intro e; injection e; omega) h.r1, by rw [World.frozen?_setCell]; exact h.rf, by rw [World.frozen?_setCell]; exact h.rg, World.cell?_setCell_same' _ _ _ (by rw [h.l0]; rfl), o _ _ (by intro e; injection e; omega) h.l1, by rw [World.frozen?_setCell]; exact h.lf, by rw [World.frozen?_setCell]; exact h.lg, o _ _ (by intro e; injection e; omega) h.n0, by rw [World.frozen?_setCell]; exact h.nf⟩
theorem Ls.setl1 {g p q m : Nat} {W : World} (h : Ls g p q m W) (x : Nat) : Ls g p x m (W.setCell ⟨g + 1, 1, none⟩ (.int .i64 (x : Int))) := by
  have o : ∀ a v, a ≠ (⟨g + 1, 1, none⟩ : Addr) → W.cell? a = some v → (W.setCell ⟨g + 1, 1, none⟩ (.int .i64 (x : Int))).cell? a = some v := fun a v ha hv => (World.cell?_setCell_other _ _ _ _ (Ne.symm ha)).trans hv
  exact ⟨o _ _ (by intro e; injection e; omega) h.r0, o _ _ (by intro e; injection e; omega) h.r1, by rw [World.frozen?_setCell]; exact h.rf, by rw [World.frozen?_setCell]; exact h.rg, o _ _ (by intro e; injection e; omega) h.l0, World.cell?_setCell_same' _ _ _ (by rw [h.l1]; rfl), by rw [World.frozen?_setCell]; exact h.lf, by rw [World.frozen?_setCell]; exact h.lg, o _ _ (by intro e; injection e; omega) h.n0, by rw [World.frozen?_setCell]; exact h.nf⟩
theorem Ls.setn {g p q m : Nat} {W : World} (h : Ls g p q m W) (x : Nat) {v : Int} (hv : v = (x : Int)) : Ls g p q x (W.setCell ⟨g + 2, 0, none⟩ (.int .i64 v)) := by
  subst hv
  have o : ∀ a v, a ≠ (⟨g + 2, 0, none⟩ : Addr) → W.cell? a = some v → (W.setCell ⟨g + 2, 0, none⟩ (.int .i64 (x : Int))).cell? a = some v := fun a v ha hv => (World.cell?_setCell_other _ _ _ _ (Ne.symm ha)).trans hv
  exact ⟨o _ _ (by intro e; injection e; omega) h.r0, o _ _ (by intro e; injection e; omega) h.r1, by rw [World.frozen?_setCell]; exact h.rf, by rw [World.frozen?_setCell]; exact h.rg, o _ _ (by intro e; injection e; omega) h.l0, o _ _ (by intro e; injection e; omega) h.l1, by rw [World.frozen?_setCell]; exact h.lf, by rw [World.frozen?_setCell]; exact h.lg, World.cell?_setCell_same' _ _ _ (by rw [h.n0]; rfl), by rw [World.frozen?_setCell]; exact h.nf⟩

theorem lt2_two (a b : Nat) (ha : a < 8) (r : List Nat) : lt2 (a :: b :: r) = (a, b) := by simp [lt2]; omega
theorem lt2_big (a : Nat) (ha : 8 ≤ a) (r : List Nat) : lt2 (a :: r) = (a, 255) := by simp [lt2, ha]
theorem lt2_one (a : Nat) : lt2 [a] = (a, 255) := by simp [lt2]

set_option maxRecDepth 100000 in
set_option maxHeartbeats 2000000 in
theorem lastTwo_in (b off X : Nat) (w : World) (hT : Tb w) (hD : DlAt w b off X) :
    CallsIn Fence.wide 3 Tryd.prog 36 #[.pointer (some ⟨b, off, none⟩)] w fun e w' => e = .returned (.agg #[.int .i64 ((ag X).1 : Int), .int .i64 ((ag X).2 : Int)]) ∧ Below w.heap.size w w' := by
  have hb := hD.blt
  have h0 := hT.pos
  have a1 := heap_alloc_new w (.cells #[.int .i64 0, .int .i64 0] 65)
  have a2 := heap_alloc_new (w.alloc (.cells #[.int .i64 0, .int .i64 0] 65)) (.cells #[.int .i64 255, .int .i64 255] 65)
  have a3 := heap_alloc_new ((w.alloc (.cells #[.int .i64 0, .int .i64 0] 65)).alloc (.cells #[.int .i64 255, .int .i64 255] 65)) (.cells #[.int .i64 0] 3)
  have a4 := heap_alloc_new (((w.alloc (.cells #[.int .i64 0, .int .i64 0] 65)).alloc (.cells #[.int .i64 255, .int .i64 255] 65)).alloc (.cells #[.int .i64 0] 3)) (.cells #[.pointer (some ⟨b, off, none⟩)] 82)
  have b1 : Below w.heap.size w (w.alloc (.cells #[.int .i64 0, .int .i64 0] 65)) := (Below.refl _ w).alloc (Nat.le_refl _) _
  have b2 := (Below.refl (w.heap.size + 1) (w.alloc (.cells #[.int .i64 0, .int .i64 0] 65))).alloc (by simp) (.cells #[.int .i64 255, .int .i64 255] 65)
  have b3 := (Below.refl (w.heap.size + 2) ((w.alloc (.cells #[.int .i64 0, .int .i64 0] 65)).alloc (.cells #[.int .i64 255, .int .i64 255] 65))).alloc (by simp) (.cells #[.int .i64 0] 3)
  have b4 := (Below.refl (w.heap.size + 3) (((w.alloc (.cells #[.int .i64 0, .int .i64 0] 65)).alloc (.cells #[.int .i64 255, .int .i64 255] 65)).alloc (.cells #[.int .i64 0] 3))).alloc (by simp) (.cells #[.pointer (some ⟨b, off, none⟩)] 82)
  have hsz : ((((w.alloc (.cells #[.int .i64 0, .int .i64 0] 65)).alloc (.cells #[.int .i64 255, .int .i64 255] 65)).alloc (.cells #[.int .i64 0] 3)).alloc (.cells #[.pointer (some ⟨b, off, none⟩)] 82)).heap.size = w.heap.size + 4 := by simp
  refine callsIn_of_wp_marks Tryd.func36 rfl trivial ?_ rfl
  simp only [Tryd.ntmps36, List.size_toArray, List.length_cons, List.length_nil, Nat.reduceAdd, Nat.reduceSub, Array.replicate_succ, Array.replicate_zero, List.push_toArray, List.append_toArray, List.nil_append, List.cons_append]
  gi_wp2_with (refine ⟨trivial, ?_⟩; gi_at_call 49; refine (ages _ b off _).mono ?_; rintro e w' ⟨rfl, rfl⟩)
  simp only [World.size_alloc] at a2 a3 a4
  have e1 := ((b4.mono (by omega)).block w.heap.size (by omega : w.heap.size < w.heap.size + 1)).trans (((b3.mono (by omega)).block w.heap.size (by omega : w.heap.size < w.heap.size + 1)).trans (b2.block w.heap.size (by omega)))
  have e2 := ((b4.mono (by omega)).block (w.heap.size + 1) (by omega : w.heap.size + 1 < w.heap.size + 2)).trans (b3.block (w.heap.size + 1) (by omega))
  have e3 := b4.block (w.heap.size + 1 + 1) (by omega)
  have hB4 : Below w.heap.size w _ := b1.trans ((b2.mono (by omega)).trans ((b3.mono (by omega)).trans (b4.mono (by omega))))
  rw [a1] at e1
  rw [a2] at e2
  rw [a3] at e3
  clear a1 a2 a3 b1 b2 b3 b4
  generalize (((w.alloc (.cells #[.int .i64 0, .int .i64 0] 65)).alloc (.cells #[.int .i64 255, .int .i64 255] 65)).alloc (.cells #[.int .i64 0] 3)).alloc (.cells #[.pointer (some ⟨b, off, none⟩)] 82) = w4 at a4 e1 e2 e3 hB4 hsz ⊢
  have hL : Ls w.heap.size 255 255 0 w4 := ⟨cell_of_row _ _ _ _ _ _ e1, cell_of_row _ _ _ _ _ _ e1, frozen_of_row _ _ _ _ _ e1, frozen_of_row _ _ _ _ _ e1, cell_of_row _ _ _ _ _ _ e2, cell_of_row _ _ _ _ _ _ e2, frozen_of_row _ _ _ _ _ e2, frozen_of_row _ _ _ _ _ e2, cell_of_row _ _ _ _ _ _ e3, frozen_of_row _ _ _ _ _ e3⟩
  have hBd : w4.cell? ⟨w.heap.size + 1 + 1 + 1, 0, none⟩ = some (.pointer (some ⟨b, off, none⟩)) := cell_of_row _ _ _ _ _ _ a4
  have hT4 : Tb w4 := hT.below hB4
  have hD4 : DlAt w4 b off X := hD.below hB4
  clear a4 e1 e2 e3
  obtain ⟨g, hg⟩ : ∃ g, g = w.heap.size := ⟨_, rfl⟩
  rw [← hg] at hL hBd hB4 hsz hb h0 ⊢
  have HG : Hid (g = w.heap.size) := hg
  clear hg hT hD
  refine wpIn_rangeFunc_ownF rfl (by decide) (gf := 60) (lb := #[.pointer (some ⟨g + 1 + 1 + 1, 0, none⟩)]) rfl trivial (enters_of Tryd.func60 (by kernel_rfl) rfl)
    (ages_stops _ (by decide) (g + 1 + 1 + 1) b off X (fun k => k < g ∨ k = g + 3) w4 hBd hT4 hD4 (.inr rfl) (.inl hb) (.inl h0) (by rintro k (h | h) <;> omega))
    Keeps.trans (Keeps.put (by rintro k (h | h) <;> omega)) (Below.refl _ _) (fun _ => rfl)
    (fun pre W => ((pre = [] ∨ ∃ a, pre = [a] ∧ a < 8) ∧ Ls g (lt2 pre).1 (lt2 pre).2 pre.length W) ∧ Below g w4 W)
    (fun c pre W => (c = .exit 0 ∧ (∀ r, lt2 (pre ++ r) = lt2 pre) ∧ ∃ m, Ls g (lt2 pre).1 (lt2 pre).2 m W) ∧ Below g w4 W)
    (OwnFrom.and (Own.from (fun s A B row hs hg hr => ⟨hs.1, hs.2.own hg hr⟩) _) (ownFrom_below (by omega) (by omega)))
    (fun c => OwnFrom.and (Own.from (fun s A B row hs hg hr => ⟨hs.1, hs.2.1, (let ⟨m, h⟩ := hs.2.2; ⟨m, h.own hg hr⟩)⟩) _) (ownFrom_below (by omega) (by omega)))
    ⟨⟨.inl rfl, hL⟩, Below.refl _ _⟩
    (fun x => { tmps := #[.pointer (some ⟨b, off, none⟩), undef, .pointer (some ⟨g, 0, none⟩), .pointer (some ⟨g + 1, 0, none⟩), .pointer (some ⟨g + 1 + 1, 0, none⟩), .int .i64 (x : Int), .agg #[.int .i64 255, .int .i64 255], .pointer (some ⟨b, off, none⟩), .func (.func 60) #[] #[.pointer (some ⟨g + 1 + 1 + 1, 0, none⟩)], .int .i64 (x : Int), undef, undef, undef, undef, undef, undef, undef, undef, undef, undef, undef, undef], defers := [] }) ?assign ?body ?done ?stop
  case assign =>
    intro l x W K hK
    gi_wp2
    simpa using hK
  case body =>
    rintro l pre x W ⟨⟨hp, hL⟩, hB⟩ hlen
    have HL : Hid (Ls g (lt2 pre).1 (lt2 pre).2 pre.length W) := hL
    have HB : Hid (Below g w4 W) := hB
    have q0 := hL.l0
    have q1 := hL.l1
    have q2 := hL.lf
    have q3 := hL.lg
    have q4 := hL.n0
    have q5 := hL.nf
    clear hL hB hBd hT4 hD4
    rcases hp with rfl | ⟨a, rfl, ha⟩
    · simp only [List.length_nil, Int.cast_ofNat_Int, lt2] at q0 q1 q4
      by_cases h8 : 8 ≤ x
      · have h8' : (8 : Int) ≤ (x : Int) := by omega
        have H8 : Hid (8 ≤ x) := h8
        clear h8
        gi_wp2
        refine ⟨(KeepsOthers.setCell _ _ _).trans (KeepsOthers.setCell _ _ _), ⟨rfl, fun r => ?_, 1, ?_⟩, ?_⟩
        · rw [show ([] ++ [x]) ++ r = x :: r from rfl, show [] ++ [x] = x :: [] from rfl, lt2_big x H8.out, lt2_big x H8.out]
        · show Ls g (lt2 [x]).1 (lt2 [x]).2 1 _
          rw [lt2_one]
          exact (HL.out.setl0 x).setn 1 rfl
        · exact (HB.out.setCell (p := ⟨g + 1, 0, none⟩) (by simp) _).setCell (p := ⟨g + 1 + 1, 0, none⟩) (by simp; omega) _
      · have h8' : ¬ (8 : Int) ≤ (x : Int) := by omega
        have H8 : Hid (¬ 8 ≤ x) := h8
        clear h8
        gi_wp2
        refine ⟨(KeepsOthers.setCell _ _ _).trans (KeepsOthers.setCell _ _ _), (Keeps.setCell _ _ _ (by rintro (h | h) <;> simp only at h <;> omega)).trans (Keeps.setCell _ _ _ (by rintro (h | h) <;> simp only at h <;> omega)), ⟨.inr ⟨x, rfl, by have := H8.out; omega⟩, ?_⟩, ?_⟩
        · show Ls g (lt2 [x]).1 (lt2 [x]).2 1 _
          rw [lt2_one]
          exact (HL.out.setl0 x).setn 1 rfl
        · exact (HB.out.setCell (p := ⟨g + 1, 0, none⟩) (by simp) _).setCell (p := ⟨g + 1 + 1, 0, none⟩) (by simp; omega) _
    · have HA : Hid (a < 8) := ha
      simp only [List.length_singleton, lt2_one, Int.cast_ofNat_Int] at q0 q1 q4
      clear ha
      gi_wp2
      refine ⟨(KeepsOthers.setCell _ _ _).trans (KeepsOthers.setCell _ _ _), ⟨rfl, fun r => ?_, 2, ?_⟩, ?_⟩
      · rw [show [a] ++ [x] = [a, x] from rfl, show [a, x] ++ r = a :: x :: r from rfl, lt2_two a x HA.out, lt2_two a x HA.out]
      · rw [show [a] ++ [x] = [a, x] from rfl, lt2_two a x HA.out]
        have := HL.out
        rw [lt2_one] at this
        exact (this.setl1 x).setn 2 rfl
      · exact (HB.out.setCell (p := ⟨g + 1, 1, none⟩) (by simp) _).setCell (p := ⟨g + 1 + 1, 0, none⟩) (by simp; omega) _
  case done =>
    rintro D ys W hD rfl ⟨⟨hp, hL⟩, hB⟩ hK
    obtain ⟨p, hpp⟩ : ∃ p, p = (ag X).1 := ⟨_, rfl⟩
    obtain ⟨q, hqq⟩ : ∃ q, q = (ag X).2 := ⟨_, rfl⟩
    have HPQ : Hid (p = (ag X).1 ∧ q = (ag X).2) := ⟨hpp, hqq⟩
    have hL2 : Ls g p q (bt X 256).length W := by rw [hpp, hqq]; exact hL
    have HL : Hid (Ls g p q (bt X 256).length W) := hL2
    have HB : Hid (Below g w4 W) := hB
    have q0 := hL2.l0
    have q1 := hL2.l1
    have q2 := hL2.r0
    have q3 := hL2.r1
    have q4 := hL2.rf
    have q5 := hL2.rg
    clear hL hB hBd hT4 hD4 hp hL2 hpp hqq
    gi_wp2
    have s0 : ((W.setCell ⟨g, 0, none⟩ (.int .i64 (p : Int))).setCell ⟨g, 1, none⟩ (.int .i64 (q : Int))).cell? ⟨g, 0, none⟩ = some (.int .i64 (p : Int)) :=
      (World.cell?_setCell_other _ _ _ _ (by intro e; injection e; omega)).trans (World.cell?_setCell_same' _ _ _ (by rw [HL.out.r0]; rfl))
    have s1 : ((W.setCell ⟨g, 0, none⟩ (.int .i64 (p : Int))).setCell ⟨g, 1, none⟩ (.int .i64 (q : Int))).cell? ⟨g, 1, none⟩ = some (.int .i64 (q : Int)) :=
      World.cell?_setCell_same' _ _ _ (by rw [World.cell?_setCell_other _ _ _ _ (by intro e; injection e; omega), HL.out.r1]; rfl)
    have hK' := ((KeepsOthers.setCell W ⟨g, 0, none⟩ (.int .i64 (p : Int))).trans (KeepsOthers.setCell _ ⟨g, 1, none⟩ (.int .i64 (q : Int)))).same D _ hK rfl
    have hB5 : Below g w ((W.setCell ⟨g, 0, none⟩ (.int .i64 (p : Int))).setCell ⟨g, 1, none⟩ (.int .i64 (q : Int))) := ((hB4.trans HB.out).setCell (p := ⟨g, 0, none⟩) (Nat.le_refl _) _).setCell (p := ⟨g, 1, none⟩) (Nat.le_refl _) _
    refine ⟨by simp, .inl ⟨_, _, rfl, run_takeDeferred hK', ?_⟩⟩
    have e1 := cell_kept s0 (grownBy_putObj' _ D (.deferred none)) (fun r e => by cases e; exact ⟨_, hK', rfl⟩)
    have e2 := cell_kept s1 (grownBy_putObj' _ D (.deferred none)) (fun r e => by cases e; exact ⟨_, hK', rfl⟩)
    have hB6 : Below w.heap.size w ((W.setCell ⟨g, 0, none⟩ (.int .i64 (p : Int))).setCell ⟨g, 1, none⟩ (.int .i64 (q : Int))) := by rw [← HG.out]; exact hB5
    refine ⟨.agg #[.int .i64 (p : Int), .int .i64 (q : Int)], ?_, by rw [HPQ.out.1, HPQ.out.2], hB6.trans (belowK_b (w := w) (Nat.le_refl _) _ D _ _ (by have := HG.out; omega) hK' rfl rfl)⟩
    simp [results, Tryd.f36, go_sem, e1, e2]
  case stop =>
    rintro D c pre W hD hpre ⟨⟨rfl, hlt, m, hL⟩, hB⟩ hK
    obtain ⟨p, hpp⟩ : ∃ p, p = (ag X).1 := ⟨_, rfl⟩
    obtain ⟨q, hqq⟩ : ∃ q, q = (ag X).2 := ⟨_, rfl⟩
    have HPQ : Hid (p = (ag X).1 ∧ q = (ag X).2) := ⟨hpp, hqq⟩
    have hL2 : Ls g p q m W := by
      obtain ⟨r, hr⟩ := hpre
      have e : ag X = lt2 pre := by unfold ag; rw [← hr]; exact hlt r
      rw [hpp, hqq, e]; exact hL
    have HL : Hid (Ls g p q m W) := hL2
    have HB : Hid (Below g w4 W) := hB
    have q0 := hL2.l0
    have q1 := hL2.l1
    have q2 := hL2.r0
    have q3 := hL2.r1
    have q4 := hL2.rf
    have q5 := hL2.rg
    clear hL hB hBd hT4 hD4 hlt hpre hL2 hpp hqq
    gi_wp2
    have s0 : ((W.setCell ⟨g, 0, none⟩ (.int .i64 (p : Int))).setCell ⟨g, 1, none⟩ (.int .i64 (q : Int))).cell? ⟨g, 0, none⟩ = some (.int .i64 (p : Int)) :=
      (World.cell?_setCell_other _ _ _ _ (by intro e; injection e; omega)).trans (World.cell?_setCell_same' _ _ _ (by rw [HL.out.r0]; rfl))
    have s1 : ((W.setCell ⟨g, 0, none⟩ (.int .i64 (p : Int))).setCell ⟨g, 1, none⟩ (.int .i64 (q : Int))).cell? ⟨g, 1, none⟩ = some (.int .i64 (q : Int)) :=
      World.cell?_setCell_same' _ _ _ (by rw [World.cell?_setCell_other _ _ _ _ (by intro e; injection e; omega), HL.out.r1]; rfl)
    have hK' := ((KeepsOthers.setCell W ⟨g, 0, none⟩ (.int .i64 (p : Int))).trans (KeepsOthers.setCell _ ⟨g, 1, none⟩ (.int .i64 (q : Int)))).same D _ hK rfl
    have hB5 : Below g w ((W.setCell ⟨g, 0, none⟩ (.int .i64 (p : Int))).setCell ⟨g, 1, none⟩ (.int .i64 (q : Int))) := ((hB4.trans HB.out).setCell (p := ⟨g, 0, none⟩) (Nat.le_refl _) _).setCell (p := ⟨g, 1, none⟩) (Nat.le_refl _) _
    refine ⟨by simp, .inl ⟨_, _, rfl, run_takeDeferred hK', ?_⟩⟩
    have e1 := cell_kept s0 (grownBy_putObj' _ D (.deferred none)) (fun r e => by cases e; exact ⟨_, hK', rfl⟩)
    have e2 := cell_kept s1 (grownBy_putObj' _ D (.deferred none)) (fun r e => by cases e; exact ⟨_, hK', rfl⟩)
    have hB6 : Below w.heap.size w ((W.setCell ⟨g, 0, none⟩ (.int .i64 (p : Int))).setCell ⟨g, 1, none⟩ (.int .i64 (q : Int))) := by rw [← HG.out]; exact hB5
    refine ⟨.agg #[.int .i64 (p : Int), .int .i64 (q : Int)], ?_, by rw [HPQ.out.1, HPQ.out.2], hB6.trans (belowK_b (w := w) (Nat.le_refl _) _ D _ _ (by have := HG.out; omega) hK' rfl rfl)⟩
    simp [results, Tryd.f36, go_sem, e1, e2]

theorem lastTwo (b off X : Nat) (w : World) (hT : Tb w) (hD : DlAt w b off X) :
    Calls Tryd.prog 36 #[.pointer (some ⟨b, off, none⟩)] w fun e w' => e = .returned (.agg #[.int .i64 ((ag X).1 : Int), .int .i64 ((ag X).2 : Int)]) ∧ Below w.heap.size w w' :=
  callsIn_wide.1 (lastTwo_in b off X w hT hD)

end Go.Proofs.YtienmoannnhhmaaDoor.Sp
