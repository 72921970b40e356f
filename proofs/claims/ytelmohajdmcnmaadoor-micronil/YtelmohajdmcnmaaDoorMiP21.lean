/- A cycle's end, step 21. -/
import Derived.Test.YtelmohajdmcnmaaDoorMiA
namespace Go.Proofs.YtelmohajdmcnmaaDoor.Mi
open Go.RowKit Alu Ex
set_option linter.unusedVariables false


set_option maxRecDepth 100000 in
set_option maxHeartbeats 8000000 in
theorem endPlace_21 (b v : Nat) (c : Cp) (w : World) (h : Row w b c.cells) (ok : c.ok) (hv : v < 256) (e : c.st = 21) : Calls Tryd.prog 38 #[.pointer (some ⟨b, 0, none⟩), .int .u8 (v : Int)] w fun e w' => e = .returned (.tuple #[]) ∧ Row w' b (c.clk v).cells ∧ Turn b w w' := by
  have H : Hid (Row w b c.cells) := h
  have c0 := h.at_ 0 _ rfl
  have c1 := h.at_ 1 _ rfl
  have c2 := h.at_ 2 _ rfl
  have c3 := h.at_ 3 _ rfl
  have c4 := h.at_ 4 _ rfl
  have c5 := h.at_ 5 _ rfl
  have c6 := h.at_ 6 _ rfl
  have c7 := h.at_ 7 _ rfl
  have c9 := h.at_ 9 _ rfl
  have c11 := h.at_ 11 _ rfl
  have c16 := h.at_ 16 _ rfl
  clear h
  have hf := H.out.fz
  have TU : Hid (∀ w : World, Calls Tryd.prog 30 #[.string c.nm, .agg #[.int .u8 (c.r.a : Int), .int .u8 (c.r.x : Int), .int .u8 (c.r.y : Int), .int .u8 (c.r.s : Int), .int .u8 (c.r.p : Int), .int .u16 (c.r.pc : Int)], .int .u8 (c.da : Int)] w fun e w' => e = .returned (.tuple #[.int .u8 ((tuV c.nm.toList c.r c.da : Nat) : Int), .agg #[.int .u8 ((tuR c.nm.toList c.r c.da).a : Int), .int .u8 ((tuR c.nm.toList c.r c.da).x : Int), .int .u8 ((tuR c.nm.toList c.r c.da).y : Int), .int .u8 ((tuR c.nm.toList c.r c.da).s : Int), .int .u8 ((tuR c.nm.toList c.r c.da).p : Int), .int .u16 ((tuR c.nm.toList c.r c.da).pc : Int)]]) ∧ Below w.heap.size w w') := fun w => Ex.TurnX c.nm c.da c.r ok.da w ok.r
  rw [e] at c6
  have HE : Hid (c.clk v = Cp.wt { c with rb := tuR c.nm.toList c.r c.da } c.ad (tuV c.nm.toList c.r c.da) 22) := by show _ = _; unfold Cp.clk; rw [e]; rfl
  go_enter Tryd.func38, Tryd.ntmps38
  generalize tuV c.nm.toList c.r c.da = x at TU HE
  generalize tuR c.nm.toList c.r c.da = q at TU HE
  have HD : Hid (∀ X : Obj, Row (w.alloc X) b c.cells) := fun X => H.out.alloc c.pos X
  have hlt : b < w.heap.size := H.out.lt c.pos
  go_wp2_with (fail)
  go_cut [5, 6] (fun s1 s2 wc => ∃ g, s1 = .int .u8 (x : Int) ∧ s2 = .pointer (some ⟨g, 0, none⟩) ∧ Row wc g (rL q) ∧ Row wc b c.cells ∧ Below w.heap.size w wc ∧ w.heap.size ≤ g)
  case first =>
    rename_i hJ hK
    go_region_held3 (fun w' => w'.cell? ⟨b, 0, none⟩ = some (.int .u8 (c.r.a : Int)) ∧ w'.cell? ⟨b, 1, none⟩ = some (.int .u8 (c.r.x : Int)) ∧ w'.cell? ⟨b, 2, none⟩ = some (.int .u8 (c.r.y : Int)) ∧ w'.cell? ⟨b, 3, none⟩ = some (.int .u8 (c.r.s : Int)) ∧ w'.cell? ⟨b, 4, none⟩ = some (.int .u8 (c.r.p : Int)) ∧ w'.cell? ⟨b, 5, none⟩ = some (.int .u16 (c.r.pc : Int)) ∧ w'.cell? ⟨b, 11, none⟩ = some (.string c.nm) ∧ w'.cell? ⟨b, 9, none⟩ = some (.int .u8 (c.da : Int))) (exact sOf9 (by repeat (first | with_reducible exact H.out | with_reducible exact HR1.out | with_reducible refine Row.drew ?_ | with_reducible refine Row.alloc ?_ c.pos _ | with_reducible refine Row.far ?_ (by omega)))) (first
      | (go_at_call 30; refine (TU.out _).mono ?_; rintro e w1 ⟨rfl, hB1⟩; have HB1 : Hid (Below _ _ w1) := hB1; have HR1 : Hid (Row w1 b c.cells) := (by show Row w1 b c.cells; first | with_reducible exact H.out.drew.below c.pos hB1 | with_reducible exact H.out.below c.pos hB1 | with_reducible exact (H.out.alloc c.pos _).drew.below c.pos hB1 | with_reducible exact (H.out.alloc c.pos _).below c.pos hB1 | with_reducible exact (H.out.drew.alloc c.pos _).below c.pos hB1 | fail); have hz1 : w.heap.size ≤ w1.heap.size := (by have := hB1.size; simp at this; omega); (try (have HZ : Row w1 w.heap.size zL := (by first | with_reducible exact (newZ _ rfl).drew.below zpos hB1 | with_reducible exact (newZ _ rfl).below zpos hB1 | fail); have z0 := HZ.at_ 0 _ rfl; have z1 := HZ.at_ 1 _ rfl; have z2 := HZ.at_ 2 _ rfl; have z3 := HZ.at_ 3 _ rfl; have z4 := HZ.at_ 4 _ rfl; have z5 := HZ.at_ 5 _ rfl; have zf := HZ.fz))))
    all_goals (refine hK _ _ (Met.intro (hJ _ _ ?_)); (repeat apply Exists.intro); refine ⟨?_, rfl⟩)
    · exact ⟨_, rfl, rfl, Row.new w1 _ _, HR1.out.alloc c.pos _, ((below_drewN (Below.refl _ w) 1).trans hB1).alloc hz1 _, hz1⟩
    · refine ⟨_, rfl, rfl, ((((((HZ.put 0 _).put 1 _).put 2 _).put 3 _).put 4 _).put 5 _).to rfl, ?_, ?_, Nat.le_refl _⟩
      · repeat (first | with_reducible exact HR1.out | with_reducible refine Row.far ?_ (by omega))
      · have hB : Below w.heap.size w w1 := (below_drewN ((Below.refl _ w).alloc (Nat.le_refl _) _) 1).trans (hB1.mono (by simp))
        repeat (first | with_reducible exact hB | with_reducible refine below_set ?_ (by omega))
  case rest =>
    obtain ⟨g, rfl, rfl, hQ, hA, hBw, hg⟩ := hcut
    have HA : Hid (Row wc b c.cells) := hA
    have HQ : Hid (Row wc g (rL q)) := hQ
    have HT : Hid (Turn b w wc) := Turn.of_below hBw
    have hbg : ¬ b = g := by omega
    have q0 := hQ.at_ 0 _ rfl
    have q1 := hQ.at_ 1 _ rfl
    have q2 := hQ.at_ 2 _ rfl
    have q3 := hQ.at_ 3 _ rfl
    have q4 := hQ.at_ 4 _ rfl
    have q5 := hQ.at_ 5 _ rfl
    have a7 := hA.at_ 7 _ rfl
    have a17 := hA.at_ 17 _ rfl
    have a18 := hA.at_ 18 _ rfl
    have a19 := hA.at_ 19 _ rfl
    have a20 := hA.at_ 20 _ rfl
    have a21 := hA.at_ 21 _ rfl
    have a22 := hA.at_ 22 _ rfl
    have af := hA.fz
    clear hQ hA hBw c0 c1 c2 c3 c4 c5 c6 c7 c9 c11 c16 hf
    go_wp2_with (go_at_call 64; refine (write b c.ad x 22 ({ c with rb := q } : Cp) _ (((((((HA.out.put 17 _).put 18 _).put 19 _).put 20 _).put 21 _).put 22 _).to rfl)).mono ?_; rintro e w2 ⟨rfl, h2, t2⟩)
    go_returns
    exact ⟨rfl, by rw [HE.out]; exact h2, (Turn.set (Turn.set (Turn.set (Turn.set (Turn.set (Turn.set HT.out _ _) _ _) _ _) _ _) _ _) _ _).trans t2⟩

end Go.Proofs.YtelmohajdmcnmaaDoor.Mi
