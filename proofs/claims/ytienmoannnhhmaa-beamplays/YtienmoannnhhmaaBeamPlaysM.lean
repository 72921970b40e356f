/- The beam, the document's beam in its box, nothing old turned: each call over that one bundle. -/
import Derived.Test.YtienmoannnhhmaaAwakeB
import Derived.Test.YtienmoannnhhmaaRef15
import Derived.Test.YtienmoannnhhmaaArrEq
import Derived.Test.YtienmoannnhhmaaSeenX
import Derived.Deep.RegionWith
set_option linter.unusedVariables false
namespace Go.Proofs.Ytienmoannnhhmaa.beamPlays
open Go.RowKit Count Bm

/-- An act. -/
structure Act where
  kind : Int
  n : Nat
  w0 : Int
  w1 : Int
def Act.row (a : Act) : List Go.Value := [.int .i64 a.kind, .int .u16 (a.n : Int), .int .i64 a.w0, .int .i64 a.w1]
def Act.ok (a : Act) : Prop := -9223372036854775808 ≤ a.kind ∧ a.kind ≤ 9223372036854775807 ∧ a.n ≤ 65535

/-- The blocks: the beam, its parts, the box. -/
structure Bk where
  b : Nat
  cb : Nat
  db : Nat
  g : Nat
structure Bk.ok (W : World) (B : Bk) : Prop where
  hS : ∀ k, S3 B.b B.cb B.db k → W.heap.size ≤ k
  hg : W.heap.size ≤ B.g
  gS : ¬ S3 B.b B.cb B.db B.g

structure Be (W : World) (B : Bk) (t : Nat) (l : Bool) (t' : Nat) (l' : Bool) (w : World) : Prop where
  p : BAt w B.b B.cb B.db t l
  g0 : w.cell? ⟨B.g, 0, none⟩ = some (.int .i64 (t' : Int))
  g1 : w.cell? ⟨B.g, 1, none⟩ = some (.bool l')
  gz : ∀ i, w.frozen? ⟨B.g, i, none⟩ = false
  old : Below W.heap.size W w
  ok : B.ok W

section
variable {W w w' : World} {B : Bk} {t t' : Nat} {l l' : Bool}
theorem Be.glt (h : Be W B t l t' l' w) : B.g < w.heap.size := lt_of_cell h.g0
theorem Be.below (h : Be W B t l t' l' w) (hb : Below w.heap.size w w') : Be W B t l t' l' w' :=
  ⟨h.p.below hb, (hb.cell (p := ⟨B.g, 0, none⟩) h.glt).trans h.g0, (hb.cell (p := ⟨B.g, 1, none⟩) h.glt).trans h.g1, fun i => (hb.frozen (p := ⟨B.g, i, none⟩) h.glt).trans (h.gz i), h.old.trans (hb.mono h.old.size), h.ok⟩
theorem Be.draws (h : Be W B t l t' l' w) (q : Nat) : Be W B t l t' l' (w.drewN q) := ⟨h.p.draws q, h.g0, h.g1, h.gz, below_drewN h.old q, h.ok⟩
theorem Be.turn {t2 : Nat} {l2 : Bool} (h : Be W B t l t' l' w) (ht : Tn (S3 B.b B.cb B.db) w w') (hp : BAt w' B.b B.cb B.db t2 l2) : Be W B t2 l2 t' l' w' :=
  ⟨hp, (ht.cell h.glt h.ok.gS).trans h.g0, (ht.cell h.glt h.ok.gS).trans h.g1, fun i => (ht.fz h.glt h.ok.gS).trans (h.gz i), h.old.trans (ht.below h.ok.hS h.old.size), h.ok⟩
theorem Be.box (h : Be W B t l t' l' w) (ht : Tn (fun k => k = B.g) w w') {t2 : Nat} {l2 : Bool} (h0 : w'.cell? ⟨B.g, 0, none⟩ = some (.int .i64 (t2 : Int))) (h1 : w'.cell? ⟨B.g, 1, none⟩ = some (.bool l2)) (hz : ∀ i, w'.frozen? ⟨B.g, i, none⟩ = false) : Be W B t l t2 l2 w' :=
  ⟨h.p.turn ht (fun e => h.ok.gS (e ▸ .inl rfl)) (fun e => h.ok.gS (e ▸ .inr (.inl rfl))) (fun e => h.ok.gS (e ▸ .inr (.inr rfl))), h0, h1, hz, h.old.trans (ht.below (fun k e => by have := h.ok.hg; omega) h.old.size), h.ok⟩
theorem Be.put1 (h : Be W B t l t' l' w) (l2 : Bool) : Be W B t l t' l2 (w.setCell ⟨B.g, 1, none⟩ (.bool l2)) :=
  h.box ((Tn.refl (fun k => k = B.g) w).set B.g 1 _ rfl) ((World.cell?_setCell_other _ _ _ _ (by simp)).trans h.g0) (World.cell?_setCell_same' _ _ _ (by rw [h.g1]; rfl)) (fun i => by rw [World.frozen?_setCell]; exact h.gz i)
theorem Be.put0 (h : Be W B t l t' l' w) (t2 : Nat) : Be W B t l t2 l' (w.setCell ⟨B.g, 0, none⟩ (.int .i64 (t2 : Int))) :=
  h.box ((Tn.refl (fun k => k = B.g) w).set B.g 0 _ rfl) (World.cell?_setCell_same' _ _ _ (by rw [h.g0]; rfl)) ((World.cell?_setCell_other _ _ _ _ (by simp)).trans h.g1) (fun i => by rw [World.frozen?_setCell]; exact h.gz i)

/-- What the second word is. -/
def lw (l : Bool) : Int := if l then 1 else 0
/-- Begun: late behind it, and whether a line begins. -/
def bB (t : Nat) : Bool := decide (t = 0)

theorem BeginP (h : Be W B t l t' l' w) : Calls Try.prog 10 #[.pointer (some ⟨B.b, 0, none⟩)] w fun e w' => e = .returned (.bool (bB t)) ∧ Be W B t (bl t l) t' l' w' := by
  by_cases ht : t = 0
  · subst ht
    exact (Begin_yes B.b B.cb B.db l w h.p).mono fun _ _ ⟨he, ha, hT⟩ => ⟨he, h.turn hT ha⟩
  · rw [show bB t = false from decide_eq_false ht, show bl t l = l from if_neg ht]
    exact (Begin_no B.b B.cb B.db t l w ht h.p).mono fun _ _ ⟨he, hb⟩ => ⟨he, h.below hb⟩
theorem DarkP (h : Be W B t l t' l' w) : Calls Try.prog 11 #[.pointer (some ⟨B.b, 0, none⟩)] w fun e w' => e = .returned (.bool (dark t l)) ∧ Be W B t l t' l' w' :=
  (Dark B.b B.cb B.db t l w h.p).mono fun _ _ ⟨he, hb⟩ => ⟨he, h.below hb⟩
theorem PulseP (h : Be W B t l t' l' w) : Calls Try.prog 12 #[.pointer (some ⟨B.b, 0, none⟩)] w fun e w' => e = .returned (.bool (pulse t)) ∧ Be W B t l t' l' w' :=
  (Pulse B.b B.cb B.db t l w h.p).mono fun _ _ ⟨he, hb⟩ => ⟨he, h.below hb⟩
theorem ClockP (h : Be W B t l t' l' w) : Calls Try.prog 9 #[.pointer (some ⟨B.b, 0, none⟩)] w fun e w' => e = .returned (.int .i64 (t : Int)) ∧ Be W B t l t' l' w' :=
  (Clock B.b B.cb B.db t l w h.p).mono fun _ _ ⟨he, hb⟩ => ⟨he, h.below hb⟩
theorem WordsP (h : Be W B t l t' l' w) : Calls Try.prog 13 #[.pointer (some ⟨B.b, 0, none⟩)] w fun e w' => e = .returned (.agg #[.int .i64 (t : Int), .int .i64 (lw l)]) ∧ Be W B t l t' l' w' :=
  (Bm.Words B.b B.cb B.db t l w h.p).mono fun _ _ ⟨he, hb⟩ => ⟨he, h.below hb⟩
theorem NextP (h : Be W B t l t' l' w) : Calls Try.prog 6 #[.pointer (some ⟨B.b, 0, none⟩)] w fun e w' => e = .returned (.tuple #[]) ∧ Be W B (nx t) l t' l' w' :=
  (Bm.Next B.b B.cb B.db t l w h.p).mono fun _ _ ⟨he, ha, hT⟩ => ⟨he, h.turn hT ha⟩
theorem CombP (h : Be W B t l t' l' w) : Calls Try.prog 7 #[.pointer (some ⟨B.b, 0, none⟩)] w fun e w' => e = .returned (.tuple #[]) ∧ Be W B t true t' l' w' :=
  (Comb B.b B.cb B.db t l w h.p).mono fun _ _ ⟨he, ha, hT⟩ => ⟨he, h.turn hT ha⟩
theorem ResetP (h : Be W B t l t' l' w) : Calls Try.prog 8 #[.pointer (some ⟨B.b, 0, none⟩)] w fun e w' => e = .returned (.tuple #[]) ∧ Be W B 0 l t' l' w' :=
  (Reset B.b B.cb B.db t l w h.p).mono fun _ _ ⟨he, ha, hT⟩ => ⟨he, h.turn hT ha⟩
theorem SetP_yes (j : Nat) (y : Int) (hj : j < 228) (hy : y = 0 ∨ y = 1) (h : Be W B t l t' l' w) : Calls Try.prog 14 #[.pointer (some ⟨B.b, 0, none⟩), .agg #[.int .i64 (j : Int), .int .i64 y]] w fun e w' => e = .returned (.int .i64 0) ∧ Be W B j (y == 1) t' l' w' :=
  (Set_yes B.b B.cb B.db t j y l w hj hy h.p).mono fun _ _ ⟨he, ha, hT⟩ => ⟨he, h.turn hT ha⟩
theorem SetP_no (x y : Int) (hn : ¬ (0 ≤ x ∧ x < 228 ∧ (y = 0 ∨ y = 1))) (h : Be W B t l t' l' w) : Calls Try.prog 14 #[.pointer (some ⟨B.b, 0, none⟩), .agg #[.int .i64 x, .int .i64 y]] w fun e w' => e = .returned (.int .i64 6) ∧ Be W B t l t' l' w' :=
  (Set_no B.b x y w hn).mono fun _ _ ⟨he, hb⟩ => ⟨he, h.below hb⟩

theorem RBeginP (u : Nat) (m : Bool) (h : Be W B t l t' l' w) : Calls Try.prog 16 #[.agg #[.int .i64 (u : Int), .bool m]] w fun e w' => e = .returned (.tuple #[.agg #[.int .i64 (u : Int), .bool (bl u m)], .bool (bB u)]) ∧ Be W B t l t' l' w' := by
  by_cases hu : u = 0
  · subst hu
    exact (RBegin_yes m w).mono fun _ _ ⟨he, hb⟩ => ⟨he, h.below hb⟩
  · rw [show bB u = false from decide_eq_false hu, show bl u m = m from if_neg hu]
    exact (RBegin_no u m w hu).mono fun _ _ ⟨he, hb⟩ => ⟨he, h.below hb⟩
theorem RDarkP (u : Nat) (m : Bool) (h : Be W B t l t' l' w) : Calls Try.prog 17 #[.agg #[.int .i64 (u : Int), .bool m]] w fun e w' => e = .returned (.bool (dark u m)) ∧ Be W B t l t' l' w' :=
  (RDark u m w).mono fun _ _ ⟨he, hb⟩ => ⟨he, h.below hb⟩
theorem RPulseP (u : Nat) (m : Bool) (h : Be W B t l t' l' w) : Calls Try.prog 18 #[.agg #[.int .i64 (u : Int), .bool m]] w fun e w' => e = .returned (.bool (pulse u)) ∧ Be W B t l t' l' w' :=
  (RPulse u m w).mono fun _ _ ⟨he, hb⟩ => ⟨he, h.below hb⟩
theorem RNextP (u : Nat) (m : Bool) (hu : u < 228) (h : Be W B t l t' l' w) : Calls Try.prog 19 #[.agg #[.int .i64 (u : Int), .bool m]] w fun e w' => e = .returned (.agg #[.int .i64 (nx u : Int), .bool m]) ∧ Be W B t l t' l' w' :=
  (RNext u m w hu).mono fun _ _ ⟨he, hb⟩ => ⟨he, h.below hb⟩
theorem RWordsP (u : Nat) (m : Bool) (h : Be W B t l t' l' w) : Calls Try.prog 21 #[.agg #[.int .i64 (u : Int), .bool m]] w fun e w' => e = .returned (.agg #[.int .i64 (u : Int), .int .i64 (lw m)]) ∧ Be W B t l t' l' w' :=
  (RWords u m w).mono fun _ _ ⟨he, hb⟩ => ⟨he, h.below hb⟩
theorem RRightP (x y : Int) {c : Bool} (hc : right x y = c) (h : Be W B t l t' l' w) : Calls Try.prog 20 #[.agg #[.int .i64 x, .int .i64 y]] w fun e w' => e = .returned (.bool c) ∧ Be W B t l t' l' w' :=
  (RRight x y w).mono fun _ _ ⟨he, hb⟩ => ⟨hc ▸ he, h.below hb⟩
end

/-- The same, and a second box. -/
structure Bx (W : World) (B : Bk) (t : Nat) (l : Bool) (t' : Nat) (l' : Bool) (h u : Nat) (m : Bool) (w : World) : Prop where
  b : Be W B t l t' l' w
  h0 : w.cell? ⟨h, 0, none⟩ = some (.int .i64 (u : Int))
  h1 : w.cell? ⟨h, 1, none⟩ = some (.bool m)
  hn : ¬ S3 B.b B.cb B.db h
  hg : h ≠ B.g

section
variable {W w w' : World} {B : Bk} {t t' h u : Nat} {l l' m : Bool}
theorem Bx.lt (x : Bx W B t l t' l' h u m w) : h < w.heap.size := lt_of_cell x.h0
theorem Bx.below (x : Bx W B t l t' l' h u m w) (hb : Below w.heap.size w w') : Bx W B t l t' l' h u m w' := ⟨x.b.below hb, (hb.cell (p := ⟨h, 0, none⟩) x.lt).trans x.h0, (hb.cell (p := ⟨h, 1, none⟩) x.lt).trans x.h1, x.hn, x.hg⟩
theorem Bx.draws (x : Bx W B t l t' l' h u m w) (q : Nat) : Bx W B t l t' l' h u m (w.drewN q) := ⟨x.b.draws q, x.h0, x.h1, x.hn, x.hg⟩
theorem Bx.turn {t2 : Nat} {l2 : Bool} (x : Bx W B t l t' l' h u m w) (ht : Tn (S3 B.b B.cb B.db) w w') (hp : BAt w' B.b B.cb B.db t2 l2) : Bx W B t2 l2 t' l' h u m w' := ⟨x.b.turn ht hp, (ht.cell x.lt x.hn).trans x.h0, (ht.cell x.lt x.hn).trans x.h1, x.hn, x.hg⟩
theorem Bx.new (x : Be W B t l t' l' w) (u : Nat) (m : Bool) (T : TypeId) : Bx W B t l t' l' w.heap.size u m (w.alloc (.cells #[.int .i64 (u : Int), .bool m] T)) := by
  have hh := heap_alloc_new w (.cells #[.int .i64 (u : Int), .bool m] T)
  have hB := (Below.refl w.heap.size w).alloc (Nat.le_refl _) (.cells #[.int .i64 (u : Int), .bool m] T)
  have a1 := x.p.lt
  have a2 := x.p.c.lt
  have a3 := x.p.d.lt
  have a4 := x.glt
  exact ⟨x.below hB, cell_of_row _ _ _ _ _ _ hh, cell_of_row _ _ _ _ _ _ hh, by rintro (e | e | e) <;> omega, by omega⟩
theorem BeginX (x : Bx W B t l t' l' h u m w) : Calls Try.prog 10 #[.pointer (some ⟨B.b, 0, none⟩)] w fun e w' => e = .returned (.bool (bB t)) ∧ Bx W B t (bl t l) t' l' h u m w' := by
  by_cases ht : t = 0
  · subst ht
    exact (Begin_yes B.b B.cb B.db l w x.b.p).mono fun _ _ ⟨he, ha, hT⟩ => ⟨he, x.turn hT ha⟩
  · rw [show bB t = false from decide_eq_false ht, show bl t l = l from if_neg ht]
    exact (Begin_no B.b B.cb B.db t l w ht x.b.p).mono fun _ _ ⟨he, hb⟩ => ⟨he, x.below hb⟩
theorem DarkX (x : Bx W B t l t' l' h u m w) : Calls Try.prog 11 #[.pointer (some ⟨B.b, 0, none⟩)] w fun e w' => e = .returned (.bool (dark t l)) ∧ Bx W B t l t' l' h u m w' :=
  (Dark B.b B.cb B.db t l w x.b.p).mono fun _ _ ⟨he, hb⟩ => ⟨he, x.below hb⟩
theorem PulseX (x : Bx W B t l t' l' h u m w) : Calls Try.prog 12 #[.pointer (some ⟨B.b, 0, none⟩)] w fun e w' => e = .returned (.bool (pulse t)) ∧ Bx W B t l t' l' h u m w' :=
  (Pulse B.b B.cb B.db t l w x.b.p).mono fun _ _ ⟨he, hb⟩ => ⟨he, x.below hb⟩
theorem ClockX (x : Bx W B t l t' l' h u m w) : Calls Try.prog 9 #[.pointer (some ⟨B.b, 0, none⟩)] w fun e w' => e = .returned (.int .i64 (t : Int)) ∧ Bx W B t l t' l' h u m w' :=
  (Clock B.b B.cb B.db t l w x.b.p).mono fun _ _ ⟨he, hb⟩ => ⟨he, x.below hb⟩
theorem NextX (x : Bx W B t l t' l' h u m w) : Calls Try.prog 6 #[.pointer (some ⟨B.b, 0, none⟩)] w fun e w' => e = .returned (.tuple #[]) ∧ Bx W B (nx t) l t' l' h u m w' :=
  (Bm.Next B.b B.cb B.db t l w x.b.p).mono fun _ _ ⟨he, ha, hT⟩ => ⟨he, x.turn hT ha⟩
theorem RDarkX (x : Bx W B t l t' l' h u m w) : Calls Try.prog 17 #[.agg #[.int .i64 (u : Int), .bool m]] w fun e w' => e = .returned (.bool (dark u m)) ∧ Bx W B t l t' l' h u m w' :=
  (RDark u m w).mono fun _ _ ⟨he, hb⟩ => ⟨he, x.below hb⟩
theorem RPulseX (x : Bx W B t l t' l' h u m w) : Calls Try.prog 18 #[.agg #[.int .i64 (u : Int), .bool m]] w fun e w' => e = .returned (.bool (pulse u)) ∧ Bx W B t l t' l' h u m w' :=
  (RPulse u m w).mono fun _ _ ⟨he, hb⟩ => ⟨he, x.below hb⟩
theorem RNextX (hu : u < 228) (x : Bx W B t l t' l' h u m w) : Calls Try.prog 19 #[.agg #[.int .i64 (u : Int), .bool m]] w fun e w' => e = .returned (.agg #[.int .i64 (nx u : Int), .bool m]) ∧ Bx W B t l t' l' h u m w' :=
  (RNext u m w hu).mono fun _ _ ⟨he, hb⟩ => ⟨he, x.below hb⟩
end

theorem kind5 {k r : Int} (h : k.tmod 5 = r) : -4 ≤ r ∧ r ≤ 4 := by
  subst h
  rcases Int.le_total 0 k with h | h
  · have := Int.tmod_eq_emod_of_nonneg (b := 5) h; omega
  · have : k.tmod 5 = -((-k).tmod 5) := by rw [Int.neg_tmod]; omega
    have e := Int.tmod_eq_emod_of_nonneg (a := -k) (b := 5) (by omega)
    omega

theorem words_self (x y : Int) (w : World) : (Op.equalIn 10000 29 (.agg #[.int .i64 x, .int .i64 y]) (.agg #[.int .i64 x, .int .i64 y])).run Try.prog w = .ok true w :=
  equal_self (P := Try.prog) (t := 29) (e := 3) Try.underlying29 (by kernel_rfl) (by kernel_rfl) Try.underlying3 _ (fun j hj => by
    match j, hj with
    | 0, _ => exact ⟨_, _, rfl⟩
    | 1, _ => exact ⟨_, _, rfl⟩) w

end Go.Proofs.Ytienmoannnhhmaa.beamPlays
