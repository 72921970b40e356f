/- What SpriteWords stands on: two things, then three and a box. -/
import Derived.Test.YtienmoannnhhmaaDoorSpr9
import Derived.Test.YtienmoannnhhmaaDoorAwakeS
import Derived.Test.YtienmoannnhhmaaDoorArrEq
import Derived.Test.YtienmoannnhhmaaDoorSeenX
import Derived.Deep.QuietTactic
set_option linter.unusedVariables false
namespace Go.Proofs.YtienmoannnhhmaaDoor.Sp
open Go.RowKit Count

/-- An act. -/
structure Act where
  kind : Int
  ticks : Nat
  copies : Nat
  n : Int
  x : Int
  y : Int
  z : Int
def Act.row (a : Act) : List Go.Value := [.int .i64 a.kind, .int .u16 (a.ticks : Int), .int .u8 (a.copies : Int), .int .i64 a.n, .int .i64 a.x, .int .i64 a.y, .int .i64 a.z]
def Act.ok (a : Act) : Prop := -9223372036854775808 ≤ a.kind ∧ a.kind ≤ 9223372036854775807 ∧ a.ticks ≤ 65535 ∧ a.copies < 256

theorem kind5 {k r : Int} (h : k.tmod 5 = r) : -4 ≤ r ∧ r ≤ 4 := by
  subst h
  rcases Int.le_total 0 k with h | h
  · have := Int.tmod_eq_emod_of_nonneg (b := 5) h; omega
  · have : k.tmod 5 = -((-k).tmod 5) := by rw [Int.neg_tmod]; omega
    have e := Int.tmod_eq_emod_of_nonneg (a := -k) (b := 5) (by omega)
    omega

theorem words_self (x y z : Int) (w : World) : (Op.equalIn 10000 29 (.agg #[.int .i64 x, .int .i64 y, .int .i64 z]) (.agg #[.int .i64 x, .int .i64 y, .int .i64 z])).run Tryd.prog w = .ok true w :=
  equal_self (P := Tryd.prog) (t := 29) (e := 3) Tryd.underlying29 (by kernel_rfl) (by kernel_rfl) Tryd.underlying3 _ (fun j hj => by
    match j, hj with
    | 0, _ => exact ⟨_, _, rfl⟩
    | 1, _ => exact ⟨_, _, rfl⟩
    | 2, _ => exact ⟨_, _, rfl⟩) w

theorem canB_of {y z : Nat} (h : mayB y z) : canB (y : Int) (z : Int) = true := by
  obtain ⟨h1, h2, h3, h4⟩ := h
  unfold canB
  split <;> simp <;> omega

theorem Set_any (b pb n X : Nat) (x y z : Int) (w : World) (h : TAt w b pb n X) : Calls Tryd.prog 11 #[.pointer (some ⟨b, 0, none⟩), .agg #[.int .i64 x, .int .i64 y, .int .i64 z]] w fun e w' => ∃ v n' X', e = .returned (.int .i64 v) ∧ TAt w' b pb n' X' ∧ Tn (S2 b pb) w w' := by
  by_cases hn : canB y z = true ∧ 0 ≤ x ∧ x < 160
  · obtain ⟨hc, hx0, hx1⟩ := hn
    have hr := canB_nat hc
    obtain ⟨m, rfl⟩ := Int.eq_ofNat_of_zero_le hx0
    obtain ⟨y, rfl⟩ := Int.eq_ofNat_of_zero_le hr.1
    obtain ⟨z, rfl⟩ := Int.eq_ofNat_of_zero_le hr.2.2.1
    exact (Set_yes b pb n X m y z w (by omega) hc h).mono fun e w' ⟨he, ha, hT⟩ => ⟨_, _, _, he, ha, hT⟩
  · exact (Set_no b pb n X x y z w hn h).mono fun e w' ⟨he, ha, hT⟩ => ⟨_, _, _, he, ha, hT⟩

/-- Two things; nothing old has turned. -/
structure Tw (W : World) (b pb n X b2 pb2 : Nat) (w : World) : Prop where
  t : TAt w b pb n X
  u : TAt w b2 pb2 0 0
  old : Below W.heap.size W w
  lo : W.heap.size ≤ b ∧ W.heap.size ≤ pb
  ap : b < b2 ∧ b < pb2 ∧ pb < b2 ∧ pb < pb2
theorem Tw.turn {W w w' : World} {b pb n X b2 pb2 n' X' : Nat} (h : Tw W b pb n X b2 pb2 w) (ht : Tn (S2 b pb) w w') (hp : TAt w' b pb n' X') : Tw W b pb n' X' b2 pb2 w' :=
  have ha := h.ap
  ⟨hp, h.u.turn ht (by rintro (e | e) <;> omega) (by rintro (e | e) <;> omega), h.old.trans (ht.below (by rintro k (rfl | rfl); exact h.lo.1; exact h.lo.2) h.old.size), h.lo, h.ap⟩
theorem Tw.below {W w w' : World} {b pb n X b2 pb2 : Nat} (h : Tw W b pb n X b2 pb2 w) (hb : Below w.heap.size w w') : Tw W b pb n X b2 pb2 w' :=
  ⟨h.t.below hb, h.u.below hb, h.old.trans (hb.mono h.old.size), h.lo, h.ap⟩

/-- The blocks of three things and a box. -/
structure Bk where
  b : Nat
  pb : Nat
  b2 : Nat
  pb2 : Nat
  b3 : Nat
  pb3 : Nat
  g : Nat
structure Bk.ok (W : World) (B : Bk) : Prop where
  lo : W.heap.size ≤ B.b ∧ W.heap.size ≤ B.pb
  a2 : B.b < B.b2 ∧ B.b < B.pb2 ∧ B.pb < B.b2 ∧ B.pb < B.pb2
  a3 : B.b2 < B.b3 ∧ B.b2 < B.pb3 ∧ B.pb2 < B.b3 ∧ B.pb2 < B.pb3
  ag : B.b3 < B.g ∧ B.pb3 < B.g
/-- Three things, the second and the third of the same ages; the box holds the first one's words. -/
structure Al (W : World) (B : Bk) (n X m Y Z : Nat) (w : World) : Prop where
  t : TAt w B.b B.pb n X
  u : TAt w B.b2 B.pb2 m Y
  c : TAt w B.b3 B.pb3 m Z
  e : ag Z = ag Y
  g0 : w.cell? ⟨B.g, 0, none⟩ = some (.int .i64 (n : Int))
  g1 : w.cell? ⟨B.g, 1, none⟩ = some (.int .i64 ((ag X).1 : Int))
  g2 : w.cell? ⟨B.g, 2, none⟩ = some (.int .i64 ((ag X).2 : Int))
  old : Below W.heap.size W w
  ok : B.ok W
section
variable {W w w' w'' : World} {B : Bk} {n X m Y Z m' Y' Z' : Nat}
theorem Al.glt (h : Al W B n X m Y Z w) : B.g < w.heap.size := lt_of_cell h.g0
theorem Al.below (h : Al W B n X m Y Z w) (hb : Below w.heap.size w w') : Al W B n X m Y Z w' :=
  ⟨h.t.below hb, h.u.below hb, h.c.below hb, h.e, (hb.cell (p := ⟨B.g, 0, none⟩) h.glt).trans h.g0, (hb.cell (p := ⟨B.g, 1, none⟩) h.glt).trans h.g1, (hb.cell (p := ⟨B.g, 2, none⟩) h.glt).trans h.g2, h.old.trans (hb.mono h.old.size), h.ok⟩
theorem Al.draws (h : Al W B n X m Y Z w) (q : Nat) : Al W B n X m Y Z (w.drewN q) := ⟨h.t.draws q, h.u.draws q, h.c.draws q, h.e, h.g0, h.g1, h.g2, below_drewN h.old q, h.ok⟩
theorem Al.gs {b pb b2 pb2 b3 pb3 g y z : Nat} (h : Al W ⟨b, pb, b2, pb2, b3, pb3, g⟩ n X m Y Z w) (hy : y = (ag X).1 ∧ z = (ag X).2 ∧ mayB y z) : w.cell? ⟨g, 0, none⟩ = some (.int .i64 (n : Int)) ∧ w.cell? ⟨g, 1, none⟩ = some (.int .i64 (y : Int)) ∧ w.cell? ⟨g, 2, none⟩ = some (.int .i64 (z : Int)) := by
  rw [hy.1, hy.2.1]
  exact ⟨h.g0, h.g1, h.g2⟩
theorem Al.step (h : Al W B n X m Y Z w) (ht : Tn (S2 B.b2 B.pb2) w w') (hu : TAt w' B.b2 B.pb2 m' Y') (hs : Tn (S2 B.b3 B.pb3) w' w'') (hc : TAt w'' B.b3 B.pb3 m' Z') (he : ag Z' = ag Y') : Al W B n X m' Y' Z' w'' := by
  have l0 := h.ok.lo
  have l1 := h.ok.a2
  have l2 := h.ok.a3
  have l3 := h.ok.ag
  have hg := h.glt
  have hsz := ht.size
  have n1 : ¬ S2 B.b2 B.pb2 B.g := by rintro (e | e) <;> omega
  have n2 : ¬ S2 B.b3 B.pb3 B.g := by rintro (e | e) <;> omega
  have kt := (h.t.turn ht (by rintro (e | e) <;> omega) (by rintro (e | e) <;> omega)).turn hs (by rintro (e | e) <;> omega) (by rintro (e | e) <;> omega)
  have ku := hu.turn hs (by rintro (e | e) <;> omega) (by rintro (e | e) <;> omega)
  refine ⟨kt, ku, hc, he, ?_, ?_, ?_, (h.old.trans (ht.below (by rintro k (rfl | rfl) <;> omega) h.old.size)).trans (hs.below (by rintro k (rfl | rfl) <;> omega) (by have := h.old.size; omega)), h.ok⟩
  · exact (hs.cell (by omega) n2).trans ((ht.cell hg n1).trans h.g0)
  · exact (hs.cell (by omega) n2).trans ((ht.cell hg n1).trans h.g1)
  · exact (hs.cell (by omega) n2).trans ((ht.cell hg n1).trans h.g2)
end

end Go.Proofs.YtienmoannnhhmaaDoor.Sp
