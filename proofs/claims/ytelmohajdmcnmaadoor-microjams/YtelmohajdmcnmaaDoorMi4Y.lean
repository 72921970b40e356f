/- A byte's place is reached. -/
import Derived.Test.YtelmohajdmcnmaaDoorMi2Y
import Derived.Test.YtelmohajdmcnmaaDoorEx8
import Derived.Test.YtelmohajdmcnmaaDoorEx9
import Derived.Test.YtelmohajdmcnmaaDoorExO
import Derived.Deep.RegionWith
import Derived.Deep.DeepCutAuto
namespace Go.Proofs.YtelmohajdmcnmaaDoor.Mi
open Go.RowKit Alu Ex
set_option linter.unusedVariables false

def zL : List Go.Value := [.int .u8 0, .int .u8 0, .int .u8 0, .int .u8 0, .int .u8 0, .int .u16 0]
def rL (r : Rg) : List Go.Value := [.int .u8 (r.a : Int), .int .u8 (r.x : Int), .int .u8 (r.y : Int), .int .u8 (r.s : Int), .int .u8 (r.p : Int), .int .u16 (r.pc : Int)]
theorem sOf {w : World} {b : Nat} {c : Cp} (h : Row w b c.cells) : w.cell? ⟨b, 0, none⟩ = some (.int .u8 (c.r.a : Int)) ∧ w.cell? ⟨b, 1, none⟩ = some (.int .u8 (c.r.x : Int)) ∧ w.cell? ⟨b, 2, none⟩ = some (.int .u8 (c.r.y : Int)) ∧ w.cell? ⟨b, 3, none⟩ = some (.int .u8 (c.r.s : Int)) ∧ w.cell? ⟨b, 4, none⟩ = some (.int .u8 (c.r.p : Int)) ∧ w.cell? ⟨b, 5, none⟩ = some (.int .u16 (c.r.pc : Int)) ∧ w.cell? ⟨b, 11, none⟩ = some (.string c.nm) ∧ w.cell? ⟨b, 16, none⟩ = some (.int .u8 (c.hi : Int)) := ⟨h.at_ 0 _ rfl, h.at_ 1 _ rfl, h.at_ 2 _ rfl, h.at_ 3 _ rfl, h.at_ 4 _ rfl, h.at_ 5 _ rfl, h.at_ 11 _ rfl, h.at_ 16 _ rfl⟩
theorem Row.far {w : World} {b g k : Nat} {v : Go.Value} {cs : List Go.Value} (h : Row w b cs) (hn : ¬ b = g) : Row (w.setCell ⟨g, k, none⟩ v) b cs := h.kept (Below.heap_setCell _ _ _ _ hn)
theorem zpos : 0 < zL.length := by decide
theorem newZ {w : World} {g : Nat} (X : TypeId) (hg : g = w.heap.size) : Row (w.alloc (.cells #[.int .u8 0, .int .u8 0, .int .u8 0, .int .u8 0, .int .u8 0, .int .u16 0] X)) g zL := by
  subst hg
  exact Row.new w _ X
set_option maxRecDepth 100000 in
set_option maxHeartbeats 1000000 in
theorem Unsure (s : ByteArray) (w : World) : Calls Tryd.prog 101 #[.string s] w fun e w' => e = .returned (.bool (unsure s.toList)) ∧ w' = w := by
  have HE : Hid (unsure s.toList = (s.toList == [83, 72, 65] || s.toList == [83, 72, 88] || s.toList == [83, 72, 89] || s.toList == [84, 65, 83])) := (rfl : _ = _)
  cases q0 : (s.toList == [83, 72, 65]) <;> cases q1 : (s.toList == [83, 72, 88]) <;> cases q2 : (s.toList == [83, 72, 89]) <;> cases q3 : (s.toList == [84, 65, 83])
  all_goals
    have HV := HE.out
    rw [q0, q1, q2, q3] at HV
    rw [HV]
    clear HV HE
    go_enter Tryd.func101, Tryd.ntmps101
    go_wp2
    go_ret
    exact ⟨rfl, rfl⟩

set_option maxRecDepth 100000 in
set_option maxHeartbeats 4000000 in
theorem store (b pl : Nat) (c : Cp) (w : World) (h : Row w b c.cells) (ok : c.ok) (hpl : pl < 65536) : Calls Tryd.prog 87 #[.pointer (some ⟨b, 0, none⟩), .int .u16 (pl : Int)] w fun e w' => e = .returned (.tuple #[]) ∧ Row w' b (c.so pl).cells ∧ Turn b w w' := by
  have H : Hid (Row w b c.cells) := h
  have c0 := h.at_ 0 _ rfl
  have c1 := h.at_ 1 _ rfl
  have c2 := h.at_ 2 _ rfl
  have c3 := h.at_ 3 _ rfl
  have c4 := h.at_ 4 _ rfl
  have c5 := h.at_ 5 _ rfl
  have c11 := h.at_ 11 _ rfl
  have c16 := h.at_ 16 _ rfl
  clear h
  have ST : Hid (∀ w : World, Calls Tryd.prog 29 #[.string c.nm, .agg #[.int .u8 (c.r.a : Int), .int .u8 (c.r.x : Int), .int .u8 (c.r.y : Int), .int .u8 (c.r.s : Int), .int .u8 (c.r.p : Int), .int .u16 (c.r.pc : Int)], .int .u8 (c.hi : Int)] w fun e w' => e = .returned (.tuple #[.int .u8 ((stV c.nm.toList c.r ((c.hi + 1) % 256) : Nat) : Int), .agg #[.int .u8 ((stR c.nm.toList c.r).a : Int), .int .u8 ((stR c.nm.toList c.r).x : Int), .int .u8 ((stR c.nm.toList c.r).y : Int), .int .u8 ((stR c.nm.toList c.r).s : Int), .int .u8 ((stR c.nm.toList c.r).p : Int), .int .u16 ((stR c.nm.toList c.r).pc : Int)]]) ∧ Below w.heap.size w w') := fun w => Ex.Store c.nm c.hi c.r ok.hi w ok.r
  have hv : stV c.nm.toList c.r ((c.hi + 1) % 256) < 256 := stV_lt _ _ _ ok.r (by omega)
  have HS : Hid (c.so pl = Cp.wt { c with rb := stR c.nm.toList c.r } (if pl / 256 ≠ c.hi ∧ unsure c.nm.toList = true then jn (pl % 256) (stV c.nm.toList c.r ((c.hi + 1) % 256)) else pl) (stV c.nm.toList c.r ((c.hi + 1) % 256)) 22) := (rfl : _ = _)
  generalize stV c.nm.toList c.r ((c.hi + 1) % 256) = v at ST hv HS
  generalize stR c.nm.toList c.r = q at ST HS
  have hhi := ok.hi
  have UN : Hid (∀ w, Calls Tryd.prog 101 #[.string c.nm] w fun e w' => e = .returned (.bool (unsure c.nm.toList)) ∧ w' = w) := fun w => Unsure c.nm w
  have JO : Hid (∀ w, Calls Tryd.prog 53 #[.int .u8 ((pl : Int) % 256), .int .u8 (v : Int)] w fun e w' => e = .returned (.int .u16 ((jn (pl % 256) v : Nat) : Int)) ∧ w' = w) := fun w => by
    have := join8 (pl % 256) v w (by omega) hv
    rwa [show (((pl % 256 : Nat)) : Int) = (pl : Int) % 256 by omega] at this
  by_cases hL : pl / 256 = c.hi
  · have HR : Hid (c.so pl = Cp.wt { c with rb := q } pl v 22) := by show _ = _; rw [HS.out, if_neg (fun e => e.1 hL)]
    have hL1 : (pl : Int) / 256 = (c.hi : Int) := by omega
    clear HS
    go_enter Tryd.func87, Tryd.ntmps87
    have HD : Hid (∀ X : Obj, Row (w.alloc X) b c.cells) := fun X => H.out.alloc c.pos X
    have d0 : ∀ X : Obj, (w.alloc X).cell? ⟨b, 0, none⟩ = _ := fun X => (HD.out X).at_ 0 _ rfl
    have d1 : ∀ X : Obj, (w.alloc X).cell? ⟨b, 1, none⟩ = _ := fun X => (HD.out X).at_ 1 _ rfl
    have d2 : ∀ X : Obj, (w.alloc X).cell? ⟨b, 2, none⟩ = _ := fun X => (HD.out X).at_ 2 _ rfl
    have d3 : ∀ X : Obj, (w.alloc X).cell? ⟨b, 3, none⟩ = _ := fun X => (HD.out X).at_ 3 _ rfl
    have d4 : ∀ X : Obj, (w.alloc X).cell? ⟨b, 4, none⟩ = _ := fun X => (HD.out X).at_ 4 _ rfl
    have d5 : ∀ X : Obj, (w.alloc X).cell? ⟨b, 5, none⟩ = _ := fun X => (HD.out X).at_ 5 _ rfl
    have d11 : ∀ X : Obj, (w.alloc X).cell? ⟨b, 11, none⟩ = _ := fun X => (HD.out X).at_ 11 _ rfl
    have d16 : ∀ X : Obj, (w.alloc X).cell? ⟨b, 16, none⟩ = _ := fun X => (HD.out X).at_ 16 _ rfl
    have df : ∀ (X : Obj) (j : Nat), (w.alloc X).frozen? ⟨b, j, none⟩ = false := fun X j => (HD.out X).fz j
    have hlt : b < w.heap.size := H.out.lt c.pos
    go_wp2_with (fail)
    go_cut [4, 5] (fun s4 s5 wc => ∃ g, s4 = .int .u8 (v : Int) ∧ s5 = .pointer (some ⟨g, 0, none⟩) ∧ Row wc g (rL q) ∧ Row wc b c.cells ∧ Below w.heap.size w wc)
    case first =>
      rename_i hJ hK
      go_region_held3 (fun w' => w'.cell? ⟨b, 0, none⟩ = some (.int .u8 (c.r.a : Int)) ∧ w'.cell? ⟨b, 1, none⟩ = some (.int .u8 (c.r.x : Int)) ∧ w'.cell? ⟨b, 2, none⟩ = some (.int .u8 (c.r.y : Int)) ∧ w'.cell? ⟨b, 3, none⟩ = some (.int .u8 (c.r.s : Int)) ∧ w'.cell? ⟨b, 4, none⟩ = some (.int .u8 (c.r.p : Int)) ∧ w'.cell? ⟨b, 5, none⟩ = some (.int .u16 (c.r.pc : Int)) ∧ w'.cell? ⟨b, 11, none⟩ = some (.string c.nm) ∧ w'.cell? ⟨b, 16, none⟩ = some (.int .u8 (c.hi : Int))) (exact sOf (by repeat (first | with_reducible exact H.out | with_reducible exact HR1.out | with_reducible refine Row.drew ?_ | with_reducible refine Row.alloc ?_ c.pos _ | with_reducible refine Row.far ?_ (by omega)))) (first
        | (go_at_call 29; refine (ST.out _).mono ?_; rintro e w1 ⟨rfl, hB1⟩; have HB1 : Hid (Below _ _ w1) := hB1; have HR1 : Hid (Row w1 b c.cells) := (by show Row w1 b c.cells; first | with_reducible exact H.out.drew.below c.pos hB1 | with_reducible exact H.out.below c.pos hB1 | with_reducible exact (H.out.alloc c.pos _).drew.below c.pos hB1 | with_reducible exact (H.out.alloc c.pos _).below c.pos hB1 | with_reducible exact (H.out.drew.alloc c.pos _).below c.pos hB1 | fail); have hz1 : w.heap.size ≤ w1.heap.size := (by have := hB1.size; simp at this; omega); (try (have HZ : Row w1 w.heap.size zL := (by first | with_reducible exact (newZ _ rfl).drew.below zpos hB1 | with_reducible exact (newZ _ rfl).below zpos hB1 | fail); have z0 := HZ.at_ 0 _ rfl; have z1 := HZ.at_ 1 _ rfl; have z2 := HZ.at_ 2 _ rfl; have z3 := HZ.at_ 3 _ rfl; have z4 := HZ.at_ 4 _ rfl; have z5 := HZ.at_ 5 _ rfl; have zf := HZ.fz))))
      all_goals (refine hK _ _ (Met.intro (hJ _ _ ?_)); (repeat apply Exists.intro); refine ⟨?_, rfl⟩)
      · exact ⟨_, rfl, rfl, Row.new w1 _ _, HR1.out.alloc c.pos _, ((below_drewN (Below.refl _ w) 1).trans hB1).alloc hz1 _⟩
      · refine ⟨_, rfl, rfl, ((((((HZ.put 0 _).put 1 _).put 2 _).put 3 _).put 4 _).put 5 _).to rfl, ?_, ?_⟩
        · repeat (first | with_reducible exact HR1.out | with_reducible refine Row.far ?_ (by omega))
        · have hB : Below w.heap.size w w1 := (below_drewN ((Below.refl _ w).alloc (Nat.le_refl _) _) 1).trans (hB1.mono (by simp))
          repeat (first | with_reducible exact hB | with_reducible refine below_set ?_ (by omega))
    case rest =>
      obtain ⟨g, rfl, rfl, hQ, hA, hBw⟩ := hcut
      have HA : Hid (Row wc b c.cells) := hA
      have HT : Hid (Turn b w wc) := Turn.of_below hBw
      have a11 := hA.at_ 11 _ rfl
      have a16 := hA.at_ 16 _ rfl
      have a17 := hA.at_ 17 _ rfl
      have a18 := hA.at_ 18 _ rfl
      have a19 := hA.at_ 19 _ rfl
      have a20 := hA.at_ 20 _ rfl
      have a21 := hA.at_ 21 _ rfl
      have a22 := hA.at_ 22 _ rfl
      have af := hA.fz
      have q0 := hQ.at_ 0 _ rfl
      have q1 := hQ.at_ 1 _ rfl
      have q2 := hQ.at_ 2 _ rfl
      have q3 := hQ.at_ 3 _ rfl
      have q4 := hQ.at_ 4 _ rfl
      have q5 := hQ.at_ 5 _ rfl
      have qf := hQ.fz
      clear hA hQ hBw c0 c1 c2 c3 c4 c5 c11 c16 d0 d1 d2 d3 d4 d5 d11 d16 df
      go_wp2_with (first
        | (go_at_call 101; refine (UN.out _).mono ?_; rintro e w' ⟨rfl, rfl⟩)
        | (go_at_call 53; refine (JO.out _).mono ?_; rintro e w' ⟨rfl, rfl⟩)
        | (go_at_call 64; refine (write b pl v 22 { c with rb := q } _ (((((((HA.out.put 17 _).put 18 _).put 19 _).put 20 _).put 21 _).put 22 _).to rfl)).mono ?_; rintro e w2 ⟨rfl, h2, t2⟩))
      go_returns
      exact ⟨rfl, by rw [HR.out]; exact h2, (Turn.set (Turn.set (Turn.set (Turn.set (Turn.set (Turn.set HT.out _ _) _ _) _ _) _ _) _ _) _ _).trans t2⟩

  · have hL1 : ¬ (pl : Int) / 256 = (c.hi : Int) := by omega
    cases hu : unsure c.nm.toList
    rotate_left
    · have HR : Hid (c.so pl = Cp.wt { c with rb := q } (jn (pl % 256) v) v 22) := by show _ = _; rw [HS.out, if_pos ⟨hL, hu⟩]
      clear HS
      rw [hu] at UN
      go_enter Tryd.func87, Tryd.ntmps87
      have HD : Hid (∀ X : Obj, Row (w.alloc X) b c.cells) := fun X => H.out.alloc c.pos X
      have d0 : ∀ X : Obj, (w.alloc X).cell? ⟨b, 0, none⟩ = _ := fun X => (HD.out X).at_ 0 _ rfl
      have d1 : ∀ X : Obj, (w.alloc X).cell? ⟨b, 1, none⟩ = _ := fun X => (HD.out X).at_ 1 _ rfl
      have d2 : ∀ X : Obj, (w.alloc X).cell? ⟨b, 2, none⟩ = _ := fun X => (HD.out X).at_ 2 _ rfl
      have d3 : ∀ X : Obj, (w.alloc X).cell? ⟨b, 3, none⟩ = _ := fun X => (HD.out X).at_ 3 _ rfl
      have d4 : ∀ X : Obj, (w.alloc X).cell? ⟨b, 4, none⟩ = _ := fun X => (HD.out X).at_ 4 _ rfl
      have d5 : ∀ X : Obj, (w.alloc X).cell? ⟨b, 5, none⟩ = _ := fun X => (HD.out X).at_ 5 _ rfl
      have d11 : ∀ X : Obj, (w.alloc X).cell? ⟨b, 11, none⟩ = _ := fun X => (HD.out X).at_ 11 _ rfl
      have d16 : ∀ X : Obj, (w.alloc X).cell? ⟨b, 16, none⟩ = _ := fun X => (HD.out X).at_ 16 _ rfl
      have df : ∀ (X : Obj) (j : Nat), (w.alloc X).frozen? ⟨b, j, none⟩ = false := fun X j => (HD.out X).fz j
      have hlt : b < w.heap.size := H.out.lt c.pos
      go_wp2_with (fail)
      go_cut [4, 5] (fun s4 s5 wc => ∃ g, s4 = .int .u8 (v : Int) ∧ s5 = .pointer (some ⟨g, 0, none⟩) ∧ Row wc g (rL q) ∧ Row wc b c.cells ∧ Below w.heap.size w wc)
      case first =>
        rename_i hJ hK
        go_region_held3 (fun w' => w'.cell? ⟨b, 0, none⟩ = some (.int .u8 (c.r.a : Int)) ∧ w'.cell? ⟨b, 1, none⟩ = some (.int .u8 (c.r.x : Int)) ∧ w'.cell? ⟨b, 2, none⟩ = some (.int .u8 (c.r.y : Int)) ∧ w'.cell? ⟨b, 3, none⟩ = some (.int .u8 (c.r.s : Int)) ∧ w'.cell? ⟨b, 4, none⟩ = some (.int .u8 (c.r.p : Int)) ∧ w'.cell? ⟨b, 5, none⟩ = some (.int .u16 (c.r.pc : Int)) ∧ w'.cell? ⟨b, 11, none⟩ = some (.string c.nm) ∧ w'.cell? ⟨b, 16, none⟩ = some (.int .u8 (c.hi : Int))) (exact sOf (by repeat (first | with_reducible exact H.out | with_reducible exact HR1.out | with_reducible refine Row.drew ?_ | with_reducible refine Row.alloc ?_ c.pos _ | with_reducible refine Row.far ?_ (by omega)))) (first
          | (go_at_call 29; refine (ST.out _).mono ?_; rintro e w1 ⟨rfl, hB1⟩; have HB1 : Hid (Below _ _ w1) := hB1; have HR1 : Hid (Row w1 b c.cells) := (by show Row w1 b c.cells; first | with_reducible exact H.out.drew.below c.pos hB1 | with_reducible exact H.out.below c.pos hB1 | with_reducible exact (H.out.alloc c.pos _).drew.below c.pos hB1 | with_reducible exact (H.out.alloc c.pos _).below c.pos hB1 | with_reducible exact (H.out.drew.alloc c.pos _).below c.pos hB1 | fail); have hz1 : w.heap.size ≤ w1.heap.size := (by have := hB1.size; simp at this; omega); (try (have HZ : Row w1 w.heap.size zL := (by first | with_reducible exact (newZ _ rfl).drew.below zpos hB1 | with_reducible exact (newZ _ rfl).below zpos hB1 | fail); have z0 := HZ.at_ 0 _ rfl; have z1 := HZ.at_ 1 _ rfl; have z2 := HZ.at_ 2 _ rfl; have z3 := HZ.at_ 3 _ rfl; have z4 := HZ.at_ 4 _ rfl; have z5 := HZ.at_ 5 _ rfl; have zf := HZ.fz))))
        all_goals (refine hK _ _ (Met.intro (hJ _ _ ?_)); (repeat apply Exists.intro); refine ⟨?_, rfl⟩)
        · exact ⟨_, rfl, rfl, Row.new w1 _ _, HR1.out.alloc c.pos _, ((below_drewN (Below.refl _ w) 1).trans hB1).alloc hz1 _⟩
        · refine ⟨_, rfl, rfl, ((((((HZ.put 0 _).put 1 _).put 2 _).put 3 _).put 4 _).put 5 _).to rfl, ?_, ?_⟩
          · repeat (first | with_reducible exact HR1.out | with_reducible refine Row.far ?_ (by omega))
          · have hB : Below w.heap.size w w1 := (below_drewN ((Below.refl _ w).alloc (Nat.le_refl _) _) 1).trans (hB1.mono (by simp))
            repeat (first | with_reducible exact hB | with_reducible refine below_set ?_ (by omega))
      case rest =>
        obtain ⟨g, rfl, rfl, hQ, hA, hBw⟩ := hcut
        have HA : Hid (Row wc b c.cells) := hA
        have HT : Hid (Turn b w wc) := Turn.of_below hBw
        have a11 := hA.at_ 11 _ rfl
        have a16 := hA.at_ 16 _ rfl
        have a17 := hA.at_ 17 _ rfl
        have a18 := hA.at_ 18 _ rfl
        have a19 := hA.at_ 19 _ rfl
        have a20 := hA.at_ 20 _ rfl
        have a21 := hA.at_ 21 _ rfl
        have a22 := hA.at_ 22 _ rfl
        have af := hA.fz
        have q0 := hQ.at_ 0 _ rfl
        have q1 := hQ.at_ 1 _ rfl
        have q2 := hQ.at_ 2 _ rfl
        have q3 := hQ.at_ 3 _ rfl
        have q4 := hQ.at_ 4 _ rfl
        have q5 := hQ.at_ 5 _ rfl
        have qf := hQ.fz
        clear hA hQ hBw c0 c1 c2 c3 c4 c5 c11 c16 d0 d1 d2 d3 d4 d5 d11 d16 df
        go_wp2_with (first
          | (go_at_call 101; refine (UN.out _).mono ?_; rintro e w' ⟨rfl, rfl⟩)
          | (go_at_call 53; refine (JO.out _).mono ?_; rintro e w' ⟨rfl, rfl⟩)
          | (go_at_call 64; refine (write b (jn (pl % 256) v) v 22 { c with rb := q } _ (((((((HA.out.put 17 _).put 18 _).put 19 _).put 20 _).put 21 _).put 22 _).to rfl)).mono ?_; rintro e w2 ⟨rfl, h2, t2⟩))
        go_returns
        exact ⟨rfl, by rw [HR.out]; exact h2, (Turn.set (Turn.set (Turn.set (Turn.set (Turn.set (Turn.set HT.out _ _) _ _) _ _) _ _) _ _) _ _).trans t2⟩
    · have HR : Hid (c.so pl = Cp.wt { c with rb := q } pl v 22) := by show _ = _; rw [HS.out, if_neg (fun e => by rw [hu] at e; exact absurd e.2 (by decide))]
      clear HS
      rw [hu] at UN
      go_enter Tryd.func87, Tryd.ntmps87
      have HD : Hid (∀ X : Obj, Row (w.alloc X) b c.cells) := fun X => H.out.alloc c.pos X
      have d0 : ∀ X : Obj, (w.alloc X).cell? ⟨b, 0, none⟩ = _ := fun X => (HD.out X).at_ 0 _ rfl
      have d1 : ∀ X : Obj, (w.alloc X).cell? ⟨b, 1, none⟩ = _ := fun X => (HD.out X).at_ 1 _ rfl
      have d2 : ∀ X : Obj, (w.alloc X).cell? ⟨b, 2, none⟩ = _ := fun X => (HD.out X).at_ 2 _ rfl
      have d3 : ∀ X : Obj, (w.alloc X).cell? ⟨b, 3, none⟩ = _ := fun X => (HD.out X).at_ 3 _ rfl
      have d4 : ∀ X : Obj, (w.alloc X).cell? ⟨b, 4, none⟩ = _ := fun X => (HD.out X).at_ 4 _ rfl
      have d5 : ∀ X : Obj, (w.alloc X).cell? ⟨b, 5, none⟩ = _ := fun X => (HD.out X).at_ 5 _ rfl
      have d11 : ∀ X : Obj, (w.alloc X).cell? ⟨b, 11, none⟩ = _ := fun X => (HD.out X).at_ 11 _ rfl
      have d16 : ∀ X : Obj, (w.alloc X).cell? ⟨b, 16, none⟩ = _ := fun X => (HD.out X).at_ 16 _ rfl
      have df : ∀ (X : Obj) (j : Nat), (w.alloc X).frozen? ⟨b, j, none⟩ = false := fun X j => (HD.out X).fz j
      have hlt : b < w.heap.size := H.out.lt c.pos
      go_wp2_with (fail)
      go_cut [4, 5] (fun s4 s5 wc => ∃ g, s4 = .int .u8 (v : Int) ∧ s5 = .pointer (some ⟨g, 0, none⟩) ∧ Row wc g (rL q) ∧ Row wc b c.cells ∧ Below w.heap.size w wc)
      case first =>
        rename_i hJ hK
        go_region_held3 (fun w' => w'.cell? ⟨b, 0, none⟩ = some (.int .u8 (c.r.a : Int)) ∧ w'.cell? ⟨b, 1, none⟩ = some (.int .u8 (c.r.x : Int)) ∧ w'.cell? ⟨b, 2, none⟩ = some (.int .u8 (c.r.y : Int)) ∧ w'.cell? ⟨b, 3, none⟩ = some (.int .u8 (c.r.s : Int)) ∧ w'.cell? ⟨b, 4, none⟩ = some (.int .u8 (c.r.p : Int)) ∧ w'.cell? ⟨b, 5, none⟩ = some (.int .u16 (c.r.pc : Int)) ∧ w'.cell? ⟨b, 11, none⟩ = some (.string c.nm) ∧ w'.cell? ⟨b, 16, none⟩ = some (.int .u8 (c.hi : Int))) (exact sOf (by repeat (first | with_reducible exact H.out | with_reducible exact HR1.out | with_reducible refine Row.drew ?_ | with_reducible refine Row.alloc ?_ c.pos _ | with_reducible refine Row.far ?_ (by omega)))) (first
          | (go_at_call 29; refine (ST.out _).mono ?_; rintro e w1 ⟨rfl, hB1⟩; have HB1 : Hid (Below _ _ w1) := hB1; have HR1 : Hid (Row w1 b c.cells) := (by show Row w1 b c.cells; first | with_reducible exact H.out.drew.below c.pos hB1 | with_reducible exact H.out.below c.pos hB1 | with_reducible exact (H.out.alloc c.pos _).drew.below c.pos hB1 | with_reducible exact (H.out.alloc c.pos _).below c.pos hB1 | with_reducible exact (H.out.drew.alloc c.pos _).below c.pos hB1 | fail); have hz1 : w.heap.size ≤ w1.heap.size := (by have := hB1.size; simp at this; omega); (try (have HZ : Row w1 w.heap.size zL := (by first | with_reducible exact (newZ _ rfl).drew.below zpos hB1 | with_reducible exact (newZ _ rfl).below zpos hB1 | fail); have z0 := HZ.at_ 0 _ rfl; have z1 := HZ.at_ 1 _ rfl; have z2 := HZ.at_ 2 _ rfl; have z3 := HZ.at_ 3 _ rfl; have z4 := HZ.at_ 4 _ rfl; have z5 := HZ.at_ 5 _ rfl; have zf := HZ.fz))))
        all_goals (refine hK _ _ (Met.intro (hJ _ _ ?_)); (repeat apply Exists.intro); refine ⟨?_, rfl⟩)
        · exact ⟨_, rfl, rfl, Row.new w1 _ _, HR1.out.alloc c.pos _, ((below_drewN (Below.refl _ w) 1).trans hB1).alloc hz1 _⟩
        · refine ⟨_, rfl, rfl, ((((((HZ.put 0 _).put 1 _).put 2 _).put 3 _).put 4 _).put 5 _).to rfl, ?_, ?_⟩
          · repeat (first | with_reducible exact HR1.out | with_reducible refine Row.far ?_ (by omega))
          · have hB : Below w.heap.size w w1 := (below_drewN ((Below.refl _ w).alloc (Nat.le_refl _) _) 1).trans (hB1.mono (by simp))
            repeat (first | with_reducible exact hB | with_reducible refine below_set ?_ (by omega))
      case rest =>
        obtain ⟨g, rfl, rfl, hQ, hA, hBw⟩ := hcut
        have HA : Hid (Row wc b c.cells) := hA
        have HT : Hid (Turn b w wc) := Turn.of_below hBw
        have a11 := hA.at_ 11 _ rfl
        have a16 := hA.at_ 16 _ rfl
        have a17 := hA.at_ 17 _ rfl
        have a18 := hA.at_ 18 _ rfl
        have a19 := hA.at_ 19 _ rfl
        have a20 := hA.at_ 20 _ rfl
        have a21 := hA.at_ 21 _ rfl
        have a22 := hA.at_ 22 _ rfl
        have af := hA.fz
        have q0 := hQ.at_ 0 _ rfl
        have q1 := hQ.at_ 1 _ rfl
        have q2 := hQ.at_ 2 _ rfl
        have q3 := hQ.at_ 3 _ rfl
        have q4 := hQ.at_ 4 _ rfl
        have q5 := hQ.at_ 5 _ rfl
        have qf := hQ.fz
        clear hA hQ hBw c0 c1 c2 c3 c4 c5 c11 c16 d0 d1 d2 d3 d4 d5 d11 d16 df
        go_wp2_with (first
          | (go_at_call 101; refine (UN.out _).mono ?_; rintro e w' ⟨rfl, rfl⟩)
          | (go_at_call 53; refine (JO.out _).mono ?_; rintro e w' ⟨rfl, rfl⟩)
          | (go_at_call 64; refine (write b pl v 22 { c with rb := q } _ (((((((HA.out.put 17 _).put 18 _).put 19 _).put 20 _).put 21 _).put 22 _).to rfl)).mono ?_; rintro e w2 ⟨rfl, h2, t2⟩))
        go_returns
        exact ⟨rfl, by rw [HR.out]; exact h2, (Turn.set (Turn.set (Turn.set (Turn.set (Turn.set (Turn.set HT.out _ _) _ _) _ _) _ _) _ _) _ _).trans t2⟩
end Go.Proofs.YtelmohajdmcnmaaDoor.Mi

/- What a code's kind asks. -/
namespace Go.Proofs.YtelmohajdmcnmaaDoor.Mi
open Go.RowKit Alu Ex
set_option linter.unusedVariables false

set_option maxRecDepth 100000 in
set_option maxHeartbeats 4000000 in
theorem access (b pl : Nat) (c : Cp) (w : World) (h : Row w b c.cells) (ok : c.ok) (hpl : pl < 65536) : Calls Tryd.prog 59 #[.pointer (some ⟨b, 0, none⟩), .int .u16 (pl : Int)] w fun e w' => e = .returned (.tuple #[]) ∧ Row w' b (c.ac pl).cells ∧ Turn b w w' := by
  have H : Hid (Row w b c.cells) := h
  have c13 := h.at_ 13 _ rfl
  have hf := h.fz
  clear h
  have k0 := ok.kd0
  have k1 := ok.kd1
  have k2 := ok.md
  rcases (show c.kd = 0 ∨ c.kd = 1 ∨ c.kd = 2 ∨ c.kd = 3 ∨ c.kd = 4 ∨ c.kd = 5 ∨ c.kd = 6 ∨ c.kd = 7 ∨ c.kd = 8 ∨ c.kd = 9 ∨ c.kd = 10 ∨ c.kd = 11 ∨ c.kd = 12 by omega) with e | e | e | e | e | e | e | e | e | e | e | e | e
  · rw [e] at c13
    have HE : Hid (c.ac pl = c.rd pl 19) := by show _ = _; simp [Cp.ac, e]
    go_enter Tryd.func59, Tryd.ntmps59
    go_wp2_with (first | (go_at_call 48; refine (read b pl 19 c _ H.out).mono ?_; rintro e w1 ⟨rfl, h1, t1⟩))
    go_returns
    exact ⟨rfl, by rw [HE.out]; exact h1, t1⟩
  · rw [e] at c13
    have HE : Hid (c.ac pl = c.rd pl 19) := by show _ = _; simp [Cp.ac, e]
    go_enter Tryd.func59, Tryd.ntmps59
    go_wp2_with (first | (go_at_call 48; refine (read b pl 19 c _ H.out).mono ?_; rintro e w1 ⟨rfl, h1, t1⟩))
    go_returns
    exact ⟨rfl, by rw [HE.out]; exact h1, t1⟩
  · rw [e] at c13
    have HE : Hid (c.ac pl = c.so pl) := by show _ = _; simp [Cp.ac, e]
    go_enter Tryd.func59, Tryd.ntmps59
    go_wp2_with (first | (go_at_call 87; refine (store b pl c _ H.out ok hpl).mono ?_; rintro e w1 ⟨rfl, h1, t1⟩))
    go_returns
    exact ⟨rfl, by rw [HE.out]; exact h1, t1⟩
  · rw [e] at c13
    have HE : Hid (c.ac pl = c.rd pl 20) := by show _ = _; simp [Cp.ac, e]
    go_enter Tryd.func59, Tryd.ntmps59
    go_wp2_with (first | (go_at_call 48; refine (read b pl 20 c _ H.out).mono ?_; rintro e w1 ⟨rfl, h1, t1⟩))
    go_returns
    exact ⟨rfl, by rw [HE.out]; exact h1, t1⟩
  · rw [e] at c13
    have HE : Hid (c.ac pl = c.rd pl 19) := by show _ = _; simp [Cp.ac, e]
    go_enter Tryd.func59, Tryd.ntmps59
    go_wp2_with (first | (go_at_call 48; refine (read b pl 19 c _ H.out).mono ?_; rintro e w1 ⟨rfl, h1, t1⟩))
    go_returns
    exact ⟨rfl, by rw [HE.out]; exact h1, t1⟩
  · rw [e] at c13
    have HE : Hid (c.ac pl = c.rd pl 19) := by show _ = _; simp [Cp.ac, e]
    go_enter Tryd.func59, Tryd.ntmps59
    go_wp2_with (first | (go_at_call 48; refine (read b pl 19 c _ H.out).mono ?_; rintro e w1 ⟨rfl, h1, t1⟩))
    go_returns
    exact ⟨rfl, by rw [HE.out]; exact h1, t1⟩
  · rw [e] at c13
    have HE : Hid (c.ac pl = c.rd pl 19) := by show _ = _; simp [Cp.ac, e]
    go_enter Tryd.func59, Tryd.ntmps59
    go_wp2_with (first | (go_at_call 48; refine (read b pl 19 c _ H.out).mono ?_; rintro e w1 ⟨rfl, h1, t1⟩))
    go_returns
    exact ⟨rfl, by rw [HE.out]; exact h1, t1⟩
  · rw [e] at c13
    have HE : Hid (c.ac pl = c.jp pl) := by show _ = _; simp [Cp.ac, e]
    go_enter Tryd.func59, Tryd.ntmps59
    go_wp2_with (first | (go_at_call 52; refine (jump b pl c _ H.out).mono ?_; rintro e w1 ⟨rfl, h1, t1⟩))
    go_returns
    exact ⟨rfl, by rw [HE.out]; exact h1, t1⟩
  · rw [e] at c13
    have HE : Hid (c.ac pl = c.rd pl 19) := by show _ = _; simp [Cp.ac, e]
    go_enter Tryd.func59, Tryd.ntmps59
    go_wp2_with (first | (go_at_call 48; refine (read b pl 19 c _ H.out).mono ?_; rintro e w1 ⟨rfl, h1, t1⟩))
    go_returns
    exact ⟨rfl, by rw [HE.out]; exact h1, t1⟩
  · rw [e] at c13
    have HE : Hid (c.ac pl = c.rd pl 19) := by show _ = _; simp [Cp.ac, e]
    go_enter Tryd.func59, Tryd.ntmps59
    go_wp2_with (first | (go_at_call 48; refine (read b pl 19 c _ H.out).mono ?_; rintro e w1 ⟨rfl, h1, t1⟩))
    go_returns
    exact ⟨rfl, by rw [HE.out]; exact h1, t1⟩
  · rw [e] at c13
    have HE : Hid (c.ac pl = c.rd pl 19) := by show _ = _; simp [Cp.ac, e]
    go_enter Tryd.func59, Tryd.ntmps59
    go_wp2_with (first | (go_at_call 48; refine (read b pl 19 c _ H.out).mono ?_; rintro e w1 ⟨rfl, h1, t1⟩))
    go_returns
    exact ⟨rfl, by rw [HE.out]; exact h1, t1⟩
  · rw [e] at c13
    have HE : Hid (c.ac pl = c.rd pl 19) := by show _ = _; simp [Cp.ac, e]
    go_enter Tryd.func59, Tryd.ntmps59
    go_wp2_with (first | (go_at_call 48; refine (read b pl 19 c _ H.out).mono ?_; rintro e w1 ⟨rfl, h1, t1⟩))
    go_returns
    exact ⟨rfl, by rw [HE.out]; exact h1, t1⟩
  · rw [e] at c13
    have HE : Hid (c.ac pl = c.rd pl 19) := by show _ = _; simp [Cp.ac, e]
    go_enter Tryd.func59, Tryd.ntmps59
    go_wp2_with (first | (go_at_call 48; refine (read b pl 19 c _ H.out).mono ?_; rintro e w1 ⟨rfl, h1, t1⟩))
    go_returns
    exact ⟨rfl, by rw [HE.out]; exact h1, t1⟩

set_option maxRecDepth 100000 in
set_option maxHeartbeats 4000000 in
theorem endPeeking (b : Nat) (c : Cp) (w : World) (h : Row w b c.cells) (ok : c.ok) : Calls Tryd.prog 65 #[.pointer (some ⟨b, 0, none⟩)] w fun e w' => e = .returned (.tuple #[]) ∧ Row w' b (c.pk).cells ∧ Turn b w w' := by
  have H : Hid (Row w b c.cells) := h
  have c5 := h.at_ 5 _ rfl
  have c13 := h.at_ 13 _ rfl
  have hf := h.fz
  clear h
  have hpc := ok.r.pc
  have HP : Hid ((c.r.pc : Int) / 256 = ((c.r.pc / 256 : Nat) : Int)) := by show _ = _; omega
  have k0 := ok.kd0
  have k1 := ok.kd1
  have k2 := ok.md
  rcases (show c.kd = 0 ∨ c.kd = 1 ∨ c.kd = 2 ∨ c.kd = 3 ∨ c.kd = 4 ∨ c.kd = 5 ∨ c.kd = 6 ∨ c.kd = 7 ∨ c.kd = 8 ∨ c.kd = 9 ∨ c.kd = 10 ∨ c.kd = 11 ∨ c.kd = 12 by omega) with e | e | e | e | e | e | e | e | e | e | e | e | e
  · rw [e] at c13
    have HE : Hid (c.pk = c.pl 31) := by show _ = _; simp [Cp.pk, e]
    go_enter Tryd.func65, Tryd.ntmps65
    go_wp2_with (first | (go_at_call 68; refine (pull b 31 c _ H.out ok.r.s).mono ?_; rintro e w1 ⟨rfl, h1, t1⟩))
    go_returns
    exact ⟨rfl, by rw [HE.out]; exact h1, t1⟩
  · rw [e] at c13
    have HE : Hid (c.pk = c.pl 31) := by show _ = _; simp [Cp.pk, e]
    go_enter Tryd.func65, Tryd.ntmps65
    go_wp2_with (first | (go_at_call 68; refine (pull b 31 c _ H.out ok.r.s).mono ?_; rintro e w1 ⟨rfl, h1, t1⟩))
    go_returns
    exact ⟨rfl, by rw [HE.out]; exact h1, t1⟩
  · rw [e] at c13
    have HE : Hid (c.pk = c.pl 31) := by show _ = _; simp [Cp.pk, e]
    go_enter Tryd.func65, Tryd.ntmps65
    go_wp2_with (first | (go_at_call 68; refine (pull b 31 c _ H.out ok.r.s).mono ?_; rintro e w1 ⟨rfl, h1, t1⟩))
    go_returns
    exact ⟨rfl, by rw [HE.out]; exact h1, t1⟩
  · rw [e] at c13
    have HE : Hid (c.pk = c.pl 31) := by show _ = _; simp [Cp.pk, e]
    go_enter Tryd.func65, Tryd.ntmps65
    go_wp2_with (first | (go_at_call 68; refine (pull b 31 c _ H.out ok.r.s).mono ?_; rintro e w1 ⟨rfl, h1, t1⟩))
    go_returns
    exact ⟨rfl, by rw [HE.out]; exact h1, t1⟩
  · rw [e] at c13
    have HE : Hid (c.pk = c.pl 31) := by show _ = _; simp [Cp.pk, e]
    go_enter Tryd.func65, Tryd.ntmps65
    go_wp2_with (first | (go_at_call 68; refine (pull b 31 c _ H.out ok.r.s).mono ?_; rintro e w1 ⟨rfl, h1, t1⟩))
    go_returns
    exact ⟨rfl, by rw [HE.out]; exact h1, t1⟩
  · rw [e] at c13
    have HE : Hid (c.pk = c.pl 31) := by show _ = _; simp [Cp.pk, e]
    go_enter Tryd.func65, Tryd.ntmps65
    go_wp2_with (first | (go_at_call 68; refine (pull b 31 c _ H.out ok.r.s).mono ?_; rintro e w1 ⟨rfl, h1, t1⟩))
    go_returns
    exact ⟨rfl, by rw [HE.out]; exact h1, t1⟩
  · rw [e] at c13
    have HE : Hid (c.pk = c.pl 29) := by show _ = _; simp [Cp.pk, e]
    go_enter Tryd.func65, Tryd.ntmps65
    go_wp2_with (first | (go_at_call 68; refine (pull b 29 c _ H.out ok.r.s).mono ?_; rintro e w1 ⟨rfl, h1, t1⟩))
    go_returns
    exact ⟨rfl, by rw [HE.out]; exact h1, t1⟩
  · rw [e] at c13
    have HE : Hid (c.pk = c.pl 31) := by show _ = _; simp [Cp.pk, e]
    go_enter Tryd.func65, Tryd.ntmps65
    go_wp2_with (first | (go_at_call 68; refine (pull b 31 c _ H.out ok.r.s).mono ?_; rintro e w1 ⟨rfl, h1, t1⟩))
    go_returns
    exact ⟨rfl, by rw [HE.out]; exact h1, t1⟩
  · rw [e] at c13
    have HE : Hid (c.pk = c.ph (c.r.pc / 256) 25) := by show _ = _; simp [Cp.pk, e]
    go_enter Tryd.func65, Tryd.ntmps65
    go_wp2_with (first | (go_at_call 66; rw [HP.out]; refine (push b (c.r.pc / 256) 25 c _ H.out ok.r.s).mono ?_; rintro e w1 ⟨rfl, h1, t1⟩))
    go_returns
    exact ⟨rfl, by rw [HE.out]; exact h1, t1⟩
  · rw [e] at c13
    have HE : Hid (c.pk = c.pl 31) := by show _ = _; simp [Cp.pk, e]
    go_enter Tryd.func65, Tryd.ntmps65
    go_wp2_with (first | (go_at_call 68; refine (pull b 31 c _ H.out ok.r.s).mono ?_; rintro e w1 ⟨rfl, h1, t1⟩))
    go_returns
    exact ⟨rfl, by rw [HE.out]; exact h1, t1⟩
  · rw [e] at c13
    have HE : Hid (c.pk = c.pl 30) := by show _ = _; simp [Cp.pk, e]
    go_enter Tryd.func65, Tryd.ntmps65
    go_wp2_with (first | (go_at_call 68; refine (pull b 30 c _ H.out ok.r.s).mono ?_; rintro e w1 ⟨rfl, h1, t1⟩))
    go_returns
    exact ⟨rfl, by rw [HE.out]; exact h1, t1⟩
  · rw [e] at c13
    have HE : Hid (c.pk = c.pl 31) := by show _ = _; simp [Cp.pk, e]
    go_enter Tryd.func65, Tryd.ntmps65
    go_wp2_with (first | (go_at_call 68; refine (pull b 31 c _ H.out ok.r.s).mono ?_; rintro e w1 ⟨rfl, h1, t1⟩))
    go_returns
    exact ⟨rfl, by rw [HE.out]; exact h1, t1⟩
  · rw [e] at c13
    have HE : Hid (c.pk = c.pl 31) := by show _ = _; simp [Cp.pk, e]
    go_enter Tryd.func65, Tryd.ntmps65
    go_wp2_with (first | (go_at_call 68; refine (pull b 31 c _ H.out ok.r.s).mono ?_; rintro e w1 ⟨rfl, h1, t1⟩))
    go_returns
    exact ⟨rfl, by rw [HE.out]; exact h1, t1⟩

set_option maxRecDepth 100000 in
set_option maxHeartbeats 4000000 in
theorem comeBack (b pl : Nat) (c : Cp) (w : World) (h : Row w b c.cells) (ok : c.ok) (hpl : pl < 65536) : Calls Tryd.prog 69 #[.pointer (some ⟨b, 0, none⟩), .int .u16 (pl : Int)] w fun e w' => e = .returned (.tuple #[]) ∧ Row w' b (c.cb pl).cells ∧ Turn b w w' := by
  have H : Hid (Row w b c.cells) := h
  have c5 := h.at_ 5 _ rfl
  have c13 := h.at_ 13 _ rfl
  have hf := h.fz
  clear h
  have k0 := ok.kd0
  have k1 := ok.kd1
  have k2 := ok.md
  rcases (show c.kd = 0 ∨ c.kd = 1 ∨ c.kd = 2 ∨ c.kd = 3 ∨ c.kd = 4 ∨ c.kd = 5 ∨ c.kd = 6 ∨ c.kd = 7 ∨ c.kd = 8 ∨ c.kd = 9 ∨ c.kd = 10 ∨ c.kd = 11 ∨ c.kd = 12 by omega) with e | e | e | e | e | e | e | e | e | e | e | e | e
  · rw [e] at c13
    have HE : Hid (c.cb pl = (c.sr (c.r.go pl)).rd pl 33) := by show _ = _; simp [Cp.cb, e]
    go_enter Tryd.func69, Tryd.ntmps69
    go_wp2_with (first | (go_at_call 48; refine (read b pl 33 (c.sr (c.r.go pl)) _ ((H.out.put 5 _).to rfl)).mono ?_; rintro e w1 ⟨rfl, h1, t1'⟩; have t1 := (Turn.set (Turn.refl b w) _ _).trans t1'; clear t1'))
    go_returns
    exact ⟨rfl, by rw [HE.out]; exact h1, t1⟩
  · rw [e] at c13
    have HE : Hid (c.cb pl = (c.sr (c.r.go pl)).rd pl 33) := by show _ = _; simp [Cp.cb, e]
    go_enter Tryd.func69, Tryd.ntmps69
    go_wp2_with (first | (go_at_call 48; refine (read b pl 33 (c.sr (c.r.go pl)) _ ((H.out.put 5 _).to rfl)).mono ?_; rintro e w1 ⟨rfl, h1, t1'⟩; have t1 := (Turn.set (Turn.refl b w) _ _).trans t1'; clear t1'))
    go_returns
    exact ⟨rfl, by rw [HE.out]; exact h1, t1⟩
  · rw [e] at c13
    have HE : Hid (c.cb pl = (c.sr (c.r.go pl)).rd pl 33) := by show _ = _; simp [Cp.cb, e]
    go_enter Tryd.func69, Tryd.ntmps69
    go_wp2_with (first | (go_at_call 48; refine (read b pl 33 (c.sr (c.r.go pl)) _ ((H.out.put 5 _).to rfl)).mono ?_; rintro e w1 ⟨rfl, h1, t1'⟩; have t1 := (Turn.set (Turn.refl b w) _ _).trans t1'; clear t1'))
    go_returns
    exact ⟨rfl, by rw [HE.out]; exact h1, t1⟩
  · rw [e] at c13
    have HE : Hid (c.cb pl = (c.sr (c.r.go pl)).rd pl 33) := by show _ = _; simp [Cp.cb, e]
    go_enter Tryd.func69, Tryd.ntmps69
    go_wp2_with (first | (go_at_call 48; refine (read b pl 33 (c.sr (c.r.go pl)) _ ((H.out.put 5 _).to rfl)).mono ?_; rintro e w1 ⟨rfl, h1, t1'⟩; have t1 := (Turn.set (Turn.refl b w) _ _).trans t1'; clear t1'))
    go_returns
    exact ⟨rfl, by rw [HE.out]; exact h1, t1⟩
  · rw [e] at c13
    have HE : Hid (c.cb pl = (c.sr (c.r.go pl)).rd pl 33) := by show _ = _; simp [Cp.cb, e]
    go_enter Tryd.func69, Tryd.ntmps69
    go_wp2_with (first | (go_at_call 48; refine (read b pl 33 (c.sr (c.r.go pl)) _ ((H.out.put 5 _).to rfl)).mono ?_; rintro e w1 ⟨rfl, h1, t1'⟩; have t1 := (Turn.set (Turn.refl b w) _ _).trans t1'; clear t1'))
    go_returns
    exact ⟨rfl, by rw [HE.out]; exact h1, t1⟩
  · rw [e] at c13
    have HE : Hid (c.cb pl = (c.sr (c.r.go pl)).rd pl 33) := by show _ = _; simp [Cp.cb, e]
    go_enter Tryd.func69, Tryd.ntmps69
    go_wp2_with (first | (go_at_call 48; refine (read b pl 33 (c.sr (c.r.go pl)) _ ((H.out.put 5 _).to rfl)).mono ?_; rintro e w1 ⟨rfl, h1, t1'⟩; have t1 := (Turn.set (Turn.refl b w) _ _).trans t1'; clear t1'))
    go_returns
    exact ⟨rfl, by rw [HE.out]; exact h1, t1⟩
  · rw [e] at c13
    have HE : Hid (c.cb pl = (c.sr (c.r.go pl)).rd pl 33) := by show _ = _; simp [Cp.cb, e]
    go_enter Tryd.func69, Tryd.ntmps69
    go_wp2_with (first | (go_at_call 48; refine (read b pl 33 (c.sr (c.r.go pl)) _ ((H.out.put 5 _).to rfl)).mono ?_; rintro e w1 ⟨rfl, h1, t1'⟩; have t1 := (Turn.set (Turn.refl b w) _ _).trans t1'; clear t1'))
    go_returns
    exact ⟨rfl, by rw [HE.out]; exact h1, t1⟩
  · rw [e] at c13
    have HE : Hid (c.cb pl = (c.sr (c.r.go pl)).rd pl 33) := by show _ = _; simp [Cp.cb, e]
    go_enter Tryd.func69, Tryd.ntmps69
    go_wp2_with (first | (go_at_call 48; refine (read b pl 33 (c.sr (c.r.go pl)) _ ((H.out.put 5 _).to rfl)).mono ?_; rintro e w1 ⟨rfl, h1, t1'⟩; have t1 := (Turn.set (Turn.refl b w) _ _).trans t1'; clear t1'))
    go_returns
    exact ⟨rfl, by rw [HE.out]; exact h1, t1⟩
  · rw [e] at c13
    have HE : Hid (c.cb pl = (c.sr (c.r.go pl)).rd pl 33) := by show _ = _; simp [Cp.cb, e]
    go_enter Tryd.func69, Tryd.ntmps69
    go_wp2_with (first | (go_at_call 48; refine (read b pl 33 (c.sr (c.r.go pl)) _ ((H.out.put 5 _).to rfl)).mono ?_; rintro e w1 ⟨rfl, h1, t1'⟩; have t1 := (Turn.set (Turn.refl b w) _ _).trans t1'; clear t1'))
    go_returns
    exact ⟨rfl, by rw [HE.out]; exact h1, t1⟩
  · rw [e] at c13
    have HE : Hid (c.cb pl = (c.sr (c.r.go pl)).rd pl 33) := by show _ = _; simp [Cp.cb, e]
    go_enter Tryd.func69, Tryd.ntmps69
    go_wp2_with (first | (go_at_call 48; refine (read b pl 33 (c.sr (c.r.go pl)) _ ((H.out.put 5 _).to rfl)).mono ?_; rintro e w1 ⟨rfl, h1, t1'⟩; have t1 := (Turn.set (Turn.refl b w) _ _).trans t1'; clear t1'))
    go_returns
    exact ⟨rfl, by rw [HE.out]; exact h1, t1⟩
  · rw [e] at c13
    have HE : Hid (c.cb pl = c.jp pl) := by show _ = _; simp [Cp.cb, e]
    go_enter Tryd.func69, Tryd.ntmps69
    go_wp2_with (first | (go_at_call 52; refine (jump b pl c _ H.out).mono ?_; rintro e w1 ⟨rfl, h1, t1⟩))
    go_returns
    exact ⟨rfl, by rw [HE.out]; exact h1, t1⟩
  · rw [e] at c13
    have HE : Hid (c.cb pl = (c.sr (c.r.go pl)).rd pl 33) := by show _ = _; simp [Cp.cb, e]
    go_enter Tryd.func69, Tryd.ntmps69
    go_wp2_with (first | (go_at_call 48; refine (read b pl 33 (c.sr (c.r.go pl)) _ ((H.out.put 5 _).to rfl)).mono ?_; rintro e w1 ⟨rfl, h1, t1'⟩; have t1 := (Turn.set (Turn.refl b w) _ _).trans t1'; clear t1'))
    go_returns
    exact ⟨rfl, by rw [HE.out]; exact h1, t1⟩
  · rw [e] at c13
    have HE : Hid (c.cb pl = (c.sr (c.r.go pl)).rd pl 33) := by show _ = _; simp [Cp.cb, e]
    go_enter Tryd.func69, Tryd.ntmps69
    go_wp2_with (first | (go_at_call 48; refine (read b pl 33 (c.sr (c.r.go pl)) _ ((H.out.put 5 _).to rfl)).mono ?_; rintro e w1 ⟨rfl, h1, t1'⟩; have t1 := (Turn.set (Turn.refl b w) _ _).trans t1'; clear t1'))
    go_returns
    exact ⟨rfl, by rw [HE.out]; exact h1, t1⟩

set_option maxHeartbeats 1000000 in
theorem clF_bits : ∀ p : Nat, p < 256 → bits .or .u8 (bits .andNot .u8 (p : Int) 16) 32 = ((clF p : Nat) : Int) := by decide +kernel
theorem or16 : ∀ p : Nat, p < 256 → bits .or .u8 (p : Int) 16 = ((W p 16 true : Nat) : Int) := by decide +kernel
theorem or4 : ∀ p : Nat, p < 256 → bits .or .u8 (p : Int) 4 = ((W p 4 true : Nat) : Int) := by decide +kernel
theorem clF_lt (p : Nat) (h : p < 256) : clF p < 256 := W_lt _ _ _ (W_lt _ _ _ h (by decide)) (by decide)
theorem cleanFlags (p : Nat) (w : World) (h : p < 256) : Calls Tryd.prog 50 #[.int .u8 (p : Int)] w fun e w' => e = .returned (.int .u8 ((clF p : Nat) : Int)) ∧ w' = w := by
  have HB : Hid (bits .or .u8 (bits .andNot .u8 (p : Int) 16) 32 = ((clF p : Nat) : Int)) := clF_bits p h
  go_enter Tryd.func50, Tryd.ntmps50
  go_wp2
  go_ret
  exact ⟨ret_int HB.out, rfl⟩
set_option maxHeartbeats 1000000 in
theorem pushRegister (b : Nat) (c : Cp) (w : World) (h : Row w b c.cells) (ok : c.ok) : Calls Tryd.prog 84 #[.pointer (some ⟨b, 0, none⟩)] w fun e w' => e = .returned (.tuple #[]) ∧ Row w' b c.pr.cells ∧ Turn b w w' := by
  have H : Hid (Row w b c.cells) := h
  have c0 := h.at_ 0 _ rfl
  have c4 := h.at_ 4 _ rfl
  have c11 := h.at_ 11 _ rfl
  clear h
  have hp := ok.r.p
  have HO : Hid (bits .or .u8 (c.r.p : Int) 16 = ((W c.r.p 16 true : Nat) : Int)) := or16 _ hp
  cases q : (c.nm.toList == [80, 72, 80])
  · have HE : Hid (c.pr = c.ph c.r.a 24) := by show _ = _; simp [Cp.pr, isPHP, q]
    go_enter Tryd.func84, Tryd.ntmps84
    go_wp2_with (go_at_call 66; refine (push b c.r.a 24 c _ H.out ok.r.s).mono ?_; rintro e w1 ⟨rfl, h1, t1⟩)
    go_returns
    exact ⟨rfl, by rw [HE.out]; exact h1, t1⟩
  · have HE : Hid (c.pr = c.ph (W c.r.p 16 true) 24) := by show _ = _; simp [Cp.pr, isPHP, q]
    go_enter Tryd.func84, Tryd.ntmps84
    go_wp2_with (go_at_call 66; rw [HO.out]; refine (push b (W c.r.p 16 true) 24 c _ H.out ok.r.s).mono ?_; rintro e w1 ⟨rfl, h1, t1⟩)
    go_returns
    exact ⟨rfl, by rw [HE.out]; exact h1, t1⟩

end Go.Proofs.YtelmohajdmcnmaaDoor.Mi
