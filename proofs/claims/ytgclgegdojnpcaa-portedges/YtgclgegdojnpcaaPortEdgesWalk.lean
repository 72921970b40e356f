/- PortEdges, walked: whatever comes in, true comes out. -/
import Derived.Test.YtgclgegdojnpcaaAwake7
import Derived.Test.YtgclgegdojnpcaaPort3
import Derived.Test.YtgclgegdojnpcaaRef7
import Derived.Test.YtgclgegdojnpcaaArrEq
import Derived.Test.YtgclgegdojnpcaaSeenX
import Derived.Deep.RegionWith
set_option linter.unusedVariables false
namespace Go.Proofs.Ytgclgegdojnpcaa.portEdges
open Go.RowKit Po

/-- A sight. -/
structure Act where
  kind : Int
  v : Bool
  w0 : Int
  w1 : Int
  w2 : Int
def Act.row (a : Act) : List Go.Value := [.int .i64 a.kind, .bool a.v, .int .i64 a.w0, .int .i64 a.w1, .int .i64 a.w2]
def Act.ok (a : Act) : Prop := -9223372036854775808 ≤ a.kind ∧ a.kind ≤ 9223372036854775807

set_option maxHeartbeats 400000 in
theorem Caught (b : Nat) (p : Eg) (w : World) (h : EAt w b p) : Calls Try.prog 26 #[.pointer (some ⟨b, 0, none⟩)] w fun e w' => e = .returned (.bool p.c) ∧ w' = w := by
  obtain ⟨h0, h1, h2, hf⟩ := h
  go_enter Try.func26, Try.ntmps26
  go_wp2
  go_returns
  exact ⟨rfl, rfl⟩

/-- The edge, the document's edge in its box, nothing old turned. -/
structure Be (W : World) (b g : Nat) (E F : Eg) (w : World) : Prop where
  p : EAt w b E
  q : EAt w g F
  old : Below W.heap.size W w
  hb : W.heap.size ≤ b
  hg : W.heap.size ≤ g
  bg : b ≠ g
section
variable {W w w' : World} {b g : Nat} {E F : Eg}
theorem Be.draws (h : Be W b g E F w) (q : Nat) : Be W b g E F (w.drewN q) := ⟨h.p.draws q, h.q.draws q, below_drewN h.old q, h.hb, h.hg, h.bg⟩
theorem Be.below (h : Be W b g E F w) (hb : Below w.heap.size w w') : Be W b g E F w' := ⟨h.p.below hb, h.q.below hb, h.old.trans (hb.mono h.old.size), h.hb, h.hg, h.bg⟩
theorem Be.turn {E' : Eg} (h : Be W b g E F w) (ht : Turn b w w') (hp : EAt w' b E') : Be W b g E' F w' := ⟨hp, h.q.turn ht (Ne.symm h.bg), h.old.trans (ht.below h.hb h.old.size), h.hb, h.hg, h.bg⟩
theorem Be.boxed {F' : Eg} (h : Be W b g E F w) (ht : Turn g w w') (hg : EAt w' g F') : Be W b g E F' w' := ⟨h.p.turn ht h.bg, hg, h.old.trans (ht.below h.hg h.old.size), h.hb, h.hg, h.bg⟩
theorem ChooseP (x : Bool) (h : Be W b g E F w) : Calls Try.prog 20 #[.pointer (some ⟨b, 0, none⟩), .bool x] w fun e w' => e = .returned (.tuple #[]) ∧ Be W b g ⟨E.h, x, E.c⟩ F w' :=
  (Choose b x E w h.p).mono fun _ _ ⟨he, ha, ht⟩ => ⟨he, h.turn ht ha⟩
theorem SeeP (x : Bool) (h : Be W b g E F w) : Calls Try.prog 24 #[.pointer (some ⟨b, 0, none⟩), .bool x] w fun e w' => e = .returned (.tuple #[]) ∧ Be W b g (see E x) F w' :=
  (See b x E w h.p).mono fun _ _ ⟨he, ha, ht⟩ => ⟨he, h.turn ht ha⟩
theorem TakeP (h : Be W b g E F w) : Calls Try.prog 21 #[.pointer (some ⟨b, 0, none⟩)] w fun e w' => e = .returned (.bool E.c) ∧ Be W b g ⟨E.h, E.r, false⟩ F w' :=
  (Take b E w h.p).mono fun _ _ ⟨he, ha, ht⟩ => ⟨he, h.turn ht ha⟩
theorem SetP_yes (x y z : Int) (hx : isBit x) (hy : isBit y) (hz : isBit z) (h : Be W b g E F w) : Calls Try.prog 22 #[.pointer (some ⟨b, 0, none⟩), .agg #[.int .i64 x, .int .i64 y, .int .i64 z]] w fun e w' => e = .returned (.int .i64 0) ∧ Be W b g ⟨x == 1, y == 1, z == 1⟩ F w' :=
  (ESet_yes b x y z E w hx hy hz h.p).mono fun _ _ ⟨he, ha, ht⟩ => ⟨he, h.turn ht ha⟩
theorem SetP_no (x y z : Int) (hn : ¬ (isBit x ∧ isBit y ∧ isBit z)) (h : Be W b g E F w) : Calls Try.prog 22 #[.pointer (some ⟨b, 0, none⟩), .agg #[.int .i64 x, .int .i64 y, .int .i64 z]] w fun e w' => e = .returned (.int .i64 6) ∧ Be W b g E F w' :=
  (ESet_no b x y z w hn).mono fun _ _ ⟨he, hb⟩ => ⟨he, h.below hb⟩
theorem BitsP (x y z : Int) {c : Bool} (hc : decide (isBit x ∧ isBit y ∧ isBit z) = c) (h : Be W b g E F w) : Calls Try.prog 23 #[.agg #[.int .i64 x, .int .i64 y, .int .i64 z]] w fun e w' => e = .returned (.bool c) ∧ Be W b g E F w' :=
  (RBits x y z w).mono fun _ _ ⟨he, hb⟩ => ⟨hc ▸ he, h.below hb⟩
theorem CaughtP (h : Be W b g E F w) : Calls Try.prog 26 #[.pointer (some ⟨b, 0, none⟩)] w fun e w' => e = .returned (.bool E.c) ∧ Be W b g E F w' :=
  (Caught b E w h.p).mono fun _ _ ⟨he, hw⟩ => ⟨he, hw ▸ h⟩
theorem WordsP (h : Be W b g E F w) : Calls Try.prog 27 #[.pointer (some ⟨b, 0, none⟩)] w fun e w' => e = .returned (.agg (ewords E)) ∧ Be W b g E F w' :=
  (EWords b E w h.p).mono fun _ _ ⟨he, hb⟩ => ⟨he, h.below hb⟩
theorem RWordsP (p : Eg) (h : Be W b g E F w) : Calls Try.prog 28 #[.agg #[.bool p.h, .bool p.r, .bool p.c]] w fun e w' => e = .returned (.agg (ewords p)) ∧ Be W b g E F w' :=
  (RWords p w).mono fun _ _ ⟨he, hb⟩ => ⟨he, h.below hb⟩
theorem RSeeP (p : Eg) (x : Bool) (h : Be W b g E F w) : Calls Try.prog 25 #[.agg #[.bool p.h, .bool p.r, .bool p.c], .bool x] w fun e w' => e = .returned (.agg #[.bool (see p x).h, .bool (see p x).r, .bool (see p x).c]) ∧ Be W b g E F w' :=
  (RSee p x w).mono fun _ _ ⟨he, hb⟩ => ⟨he, h.below hb⟩
end

theorem kind6 {k r : Int} (h : k.tmod 6 = r) : -5 ≤ r ∧ r ≤ 5 := by
  subst h
  rcases Int.le_total 0 k with h | h
  · have := Int.tmod_eq_emod_of_nonneg (b := 6) h; omega
  · have : k.tmod 6 = -((-k).tmod 6) := by rw [Int.neg_tmod]; omega
    have e := Int.tmod_eq_emod_of_nonneg (a := -k) (b := 6) (by omega)
    omega

theorem words_self (E : Eg) (w : World) : (Op.equalIn 10000 25 (.agg (ewords E)) (.agg (ewords E))).run Try.prog w = .ok true w :=
  equal_self (P := Try.prog) (t := 25) (e := 3) Try.underlying25 (by kernel_rfl) (by kernel_rfl) Try.underlying3 _ (fun j hj => by
    match j, hj with
    | 0, _ => exact ⟨_, _, rfl⟩
    | 1, _ => exact ⟨_, _, rfl⟩
    | 2, _ => exact ⟨_, _, rfl⟩) w

set_option maxRecDepth 100000 in
set_option maxHeartbeats 4000000 in
theorem good (A : List Act) (ao : Option Addr) (cap b0 off0 : Nat) (hi : Bool) (W : World) (hA : ∀ a ∈ A, a.ok) (hl : A.length ≤ 100) (hS : SeenX W ao cap b0 off0 5 (A.map Act.row)) :
    Calls Try.prog 4 #[.bool hi, .slice ao A.length cap] W fun e w' => e = .returned (.bool true) ∧ Below W.heap.size W w' := by
  have HA : Hid (∀ a ∈ A, a.ok) := hA
  have HS : Hid (SeenX W ao cap b0 off0 5 (A.map Act.row)) := hS
  have hcap := hS.max
  have hle := hS.le
  rw [List.length_map] at hle
  clear hA hS
  generalize hn : A.length = n at *
  have HN : Hid (A.length = n) := hn
  clear hn
  go_enter Try.func4, Try.ntmps4
  go_wp2_with (go_at_call 19; fail)
  refine (NewEdge hi W).mono ?_
  rintro e w1 ⟨b, rfl, hb, hA1, hB1⟩
  have HB1 : Hid (Below W.heap.size W w1) := hB1
  have HA1 : Hid (EAt w1 b ⟨hi, false, false⟩) := hA1
  clear hA1 hB1
  go_wp2
  generalize hw2 : w1.alloc _ = w2
  have HB2 : Hid (Be W b w1.heap.size ⟨hi, false, false⟩ ⟨hi, false, false⟩ w2) := (by
    rw [← hw2]
    have hh := heap_alloc_new w1 (.cells #[.bool hi, .bool false, .bool false] 41)
    have hB := (Below.refl w1.heap.size w1).alloc (Nat.le_refl _) (.cells #[.bool hi, .bool false, .bool false] 41)
    exact ⟨HA1.out.below hB, ⟨cell_of_row _ _ _ _ _ _ hh, cell_of_row _ _ _ _ _ _ hh, cell_of_row _ _ _ _ _ _ hh, fun _ => frozen_of_row _ _ _ _ _ hh⟩, HB1.out.trans (hB.mono HB1.out.size), hb, HB1.out.size, by have := HA1.out.lt; omega⟩ : Be W b w1.heap.size ⟨hi, false, false⟩ ⟨hi, false, false⟩ w2)
  clear hw2 HA1 HB1
  generalize w1.heap.size = g at *
  go_loopw [7] (fun v wr => ∃ (k : Nat) (E : Eg), k ≤ n ∧ v = .int .i64 (k : Int) ∧ Be W b g E E wr) (fun v _ => n - (intOf v).toNat)
  case atStart => exact ⟨0, ⟨hi, false, false⟩, by omega, rfl, HB2.out⟩
  case round =>
    obtain ⟨k, E, hk, rfl, hR⟩ := hrel
    have HR : Hid (Be W b g E E wr) := hR
    clear hR HB2
    by_cases hkn : k < n
    · obtain ⟨a, ha⟩ : ∃ a, A[k]? = some a := ⟨_, List.getElem?_eq_getElem (by rw [HN.out]; exact hkn)⟩
      obtain ⟨r0, r1⟩ := HA.out a (List.mem_of_getElem? ha)
      have hrow : (A.map Act.row)[k]? = some a.row := by rw [List.getElem?_map, ha]; rfl
      have hao := HS.out.at_ (fun e => by rw [e] at hrow; cases hrow)
      have hb0 : b0 < W.heap.size := HS.out.lt (fun e => by rw [e] at hrow; cases hrow)
      subst hao
      have HC : Hid (∀ w', Below W.heap.size W w' → w'.cell? ⟨b0, off0 + k * 5, none⟩ = some (.int .i64 a.kind) ∧ w'.cell? ⟨b0, off0 + k * 5 + 1, none⟩ = some (.bool a.v) ∧ w'.cell? ⟨b0, off0 + k * 5 + 2, none⟩ = some (.int .i64 a.w0) ∧ w'.cell? ⟨b0, off0 + k * 5 + 3, none⟩ = some (.int .i64 a.w1) ∧ w'.cell? ⟨b0, off0 + k * 5 + 4, none⟩ = some (.int .i64 a.w2)) := fun w' hw' =>
        have hSr := HS.out.below hw' (Nat.le_refl _)
        ⟨hSr.cell k _ hrow 0 _ rfl, hSr.cell k _ hrow 1 _ rfl, hSr.cell k _ hrow 2 _ rfl, hSr.cell k _ hrow 3 _ rfl, hSr.cell k _ hrow 4 _ rfl⟩
      obtain ⟨c0, c1, c2, c3, c4⟩ := HC.out _ HR.out.old
      obtain ⟨q, hq⟩ : ∃ q, a.kind.tmod 6 = q := ⟨_, rfl⟩
      obtain ⟨q1, q2⟩ := kind6 hq
      have k0 : (0 : Int) ≤ (k : Int) := by omega
      have k1 : (k : Int) < (n : Int) := by omega
      clear hrow ha
      have heq := words_self
      have hne1 : ¬ b0 = g := by have := HR.out.hg; omega
      have hne2 : ¬ g = b0 := by have := HR.out.hg; omega
      have h6 : (q + 6) % 6 = 3 ∨ (q + 6) % 6 = 4 ∨ (q + 6) % 6 = 5 ∨ ((q + 6) % 6 = 0 ∨ (q + 6) % 6 = 1 ∨ (q + 6) % 6 = 2) := by omega
      rcases h6 with hm | hm | hm | hm
      · go_wp2_with (go_at_call 20; fail)
        refine (ChooseP a.v HR.out).mono ?_
        rintro e w3 ⟨rfl, hR3⟩
        have HR3 : Hid (Be W b g ⟨E.h, a.v, E.c⟩ E w3) := hR3
        obtain ⟨d0, d1, d2, d3, d4⟩ := HC.out _ hR3.old
        have g1 := hR3.q.c1
        have gz := hR3.q.fz 1
        clear hR3 c0 c1 c2 c3 c4
        go_wp2
        generalize hw4 : w3.setCell _ _ = w4
        have HX : Hid (Be W b g ⟨E.h, a.v, E.c⟩ ⟨E.h, a.v, E.c⟩ w4) := (by rw [← hw4]; exact HR3.out.boxed ((Turn.refl g _).set _ _) ((show EAt w3 g ⟨E.h, E.r, E.c⟩ from HR3.out.q).put1 _) : Be W b g ⟨E.h, a.v, E.c⟩ ⟨E.h, a.v, E.c⟩ w4)
        clear hw4 HR3 d0 d1 d2 d3 d4 g1 gz HR
        obtain ⟨EE, HY⟩ : ∃ EE : Eg, Hid (Be W b g EE EE w4) := ⟨⟨E.h, a.v, E.c⟩, HX.out⟩
        clear HX
        have e0 := HY.out.q.c0
        have e1 := HY.out.q.c1
        have e2 := HY.out.q.c2
        go_region_held3 (fun w' => w'.cell? ⟨g, 0, none⟩ = some (.bool EE.h) ∧ w'.cell? ⟨g, 1, none⟩ = some (.bool EE.r) ∧ w'.cell? ⟨g, 2, none⟩ = some (.bool EE.c)) (first | exact ⟨by assumption, by assumption, by assumption⟩ | go_keep) (first
          | (go_at_call 26; refine (CaughtP (E := EE) (F := EE) (W := W) (g := g) (by first | exact HY.out | exact HY.out.draws _)).mono ?_; rintro e w5 ⟨rfl, hR5⟩; have H5 : Hid (Be W b g EE EE w5) := hR5; have i0' := hR5.q.c0; have i1' := hR5.q.c1; have i2' := hR5.q.c2; clear hR5)
          | (go_at_call 27; refine (WordsP H5.out).mono ?_; rintro e w6 ⟨rfl, hR6⟩; have H6 : Hid (Be W b g EE EE w6) := hR6; have i0' := hR6.q.c0; have i1' := hR6.q.c1; have i2' := hR6.q.c2; clear hR6)
          | (go_at_call 28; refine (RWordsP EE H6.out).mono ?_; rintro e w7 ⟨rfl, hR7⟩; have H7 : Hid (Be W b g EE EE w7) := hR7; have i0' := hR7.q.c0; have i1' := hR7.q.c1; have i2' := hR7.q.c2; clear hR7))
        all_goals go_wp2
        all_goals go_roundw
        case rel => exact ⟨k + 1, EE, by omega, by go_num, H7.out⟩
        case measure => simp [intOf]; omega
      · have x2 := HR.out.q.c2
        go_wp2
        go_region_held3 (fun w' => w'.cell? ⟨g, 2, none⟩ = some (.bool E.c)) (first | assumption | go_keep) (first
          | (go_at_call 21; refine (TakeP (E := E) (F := E) (W := W) (g := g) (by first | exact HR.out | exact HR.out.draws _)).mono ?_; rintro e w3 ⟨rfl, hR3⟩; have HR3 : Hid (Be W b g ⟨E.h, E.r, false⟩ E w3) := hR3; have g2 := hR3.q.c2; have gz := hR3.q.fz 2; clear hR3))
        all_goals
          clear c0 c1 c2 c3 c4
          go_wp2
          generalize hw4 : w3.setCell _ _ = w4
          have HX : Hid (Be W b g ⟨E.h, E.r, false⟩ ⟨E.h, E.r, false⟩ w4) := (by rw [← hw4]; exact HR3.out.boxed ((Turn.refl g _).set _ _) ((show EAt w3 g ⟨E.h, E.r, E.c⟩ from HR3.out.q).put2 _) : Be W b g ⟨E.h, E.r, false⟩ ⟨E.h, E.r, false⟩ w4)
          clear hw4 HR3 g2 gz HR x2
          obtain ⟨EE, HY⟩ : ∃ EE : Eg, Hid (Be W b g EE EE w4) := ⟨⟨E.h, E.r, false⟩, HX.out⟩
          clear HX
          have e0 := HY.out.q.c0
          have e1 := HY.out.q.c1
          have e2 := HY.out.q.c2
          go_region_held3 (fun w' => w'.cell? ⟨g, 0, none⟩ = some (.bool EE.h) ∧ w'.cell? ⟨g, 1, none⟩ = some (.bool EE.r) ∧ w'.cell? ⟨g, 2, none⟩ = some (.bool EE.c)) (first | exact ⟨by assumption, by assumption, by assumption⟩ | go_keep) (first
            | (go_at_call 26; refine (CaughtP (E := EE) (F := EE) (W := W) (g := g) (by first | exact HY.out | exact HY.out.draws _)).mono ?_; rintro e w5 ⟨rfl, hR5⟩; have H5 : Hid (Be W b g EE EE w5) := hR5; have i0' := hR5.q.c0; have i1' := hR5.q.c1; have i2' := hR5.q.c2; clear hR5)
            | (go_at_call 27; refine (WordsP H5.out).mono ?_; rintro e w6 ⟨rfl, hR6⟩; have H6 : Hid (Be W b g EE EE w6) := hR6; have i0' := hR6.q.c0; have i1' := hR6.q.c1; have i2' := hR6.q.c2; clear hR6)
            | (go_at_call 28; refine (RWordsP EE H6.out).mono ?_; rintro e w7 ⟨rfl, hR7⟩; have H7 : Hid (Be W b g EE EE w7) := hR7; have i0' := hR7.q.c0; have i1' := hR7.q.c1; have i2' := hR7.q.c2; clear hR7))
          all_goals go_wp2
          all_goals go_roundw
          case rel => exact ⟨k + 1, EE, by omega, by go_num, H7.out⟩
          case measure => simp [intOf]; omega
      · by_cases hby : isBit a.w0 ∧ isBit a.w1 ∧ isBit a.w2
        · have HD : Hid (decide (isBit a.w0 ∧ isBit a.w1 ∧ isBit a.w2) = true) := decide_eq_true hby
          have HBy : Hid (isBit a.w0 ∧ isBit a.w1 ∧ isBit a.w2) := hby
          clear hby
          go_wp2_with (go_at_call 22; fail)
          refine (SetP_yes _ _ _ HBy.out.1 HBy.out.2.1 HBy.out.2.2 HR.out).mono ?_
          rintro e w3 ⟨rfl, hR3⟩
          have HR3 : Hid (Be W b g ⟨a.w0 == 1, a.w1 == 1, a.w2 == 1⟩ E w3) := hR3
          obtain ⟨-, -, d2, d3, d4⟩ := HC.out _ hR3.old
          clear hR3 c0 c1 c2 c3 c4 HR
          go_wp2_with (go_at_call 23; fail)
          refine (BitsP _ _ _ HD.out HR3.out).mono ?_
          rintro e w3a ⟨rfl, hR3⟩
          have HR3a : Hid (Be W b g ⟨a.w0 == 1, a.w1 == 1, a.w2 == 1⟩ E w3a) := hR3
          obtain ⟨-, -, f2, f3, f4⟩ := HC.out _ hR3.old
          have g0 := hR3.q.c0
          have g1 := hR3.q.c1
          have g2 := hR3.q.c2
          have gz := hR3.q.fz
          clear hR3 d2 d3 d4 HR3
          go_wp2
          go_region_held3 (fun w' => w'.cell? ⟨b0, off0 + k * 5 + 2, none⟩ = some (.int .i64 a.w0) ∧ w'.cell? ⟨b0, off0 + k * 5 + 3, none⟩ = some (.int .i64 a.w1) ∧ w'.cell? ⟨b0, off0 + k * 5 + 4, none⟩ = some (.int .i64 a.w2)) (go_keep) (fail)
          go_wp2_with (go_at_call 23; fail)
          generalize hw4 : World.drew _ = w4
          have HX : Hid (Be W b g ⟨a.w0 == 1, a.w1 == 1, a.w2 == 1⟩ ⟨a.w0 == 1, a.w1 == 1, a.w2 == 1⟩ w4) := (by rw [← hw4]; exact (HR3a.out.boxed ((((Turn.refl g _).set (0 : Nat) (.bool (a.w0 == 1))).set 1 (.bool (a.w1 == 1))).set 2 (.bool (a.w2 == 1))) ((((show EAt w3a g ⟨E.h, E.r, E.c⟩ from HR3a.out.q).put0 _).put1 _).put2 _)).draws 1 : Be W b g ⟨a.w0 == 1, a.w1 == 1, a.w2 == 1⟩ ⟨a.w0 == 1, a.w1 == 1, a.w2 == 1⟩ w4)
          clear hw4 HR3a f2 f3 f4 g0 g1 g2 gz
          refine (BitsP _ _ _ HD.out HX.out).mono ?_
          rintro e w4a ⟨rfl, hR4⟩
          obtain ⟨EE, HY⟩ : ∃ EE : Eg, Hid (Be W b g EE EE w4a) := ⟨⟨a.w0 == 1, a.w1 == 1, a.w2 == 1⟩, hR4⟩
          clear HX hR4 HC hne1 hne2
          go_wp2
          have e0 := HY.out.q.c0
          have e1 := HY.out.q.c1
          have e2 := HY.out.q.c2
          go_region_held3 (fun w' => w'.cell? ⟨g, 0, none⟩ = some (.bool EE.h) ∧ w'.cell? ⟨g, 1, none⟩ = some (.bool EE.r) ∧ w'.cell? ⟨g, 2, none⟩ = some (.bool EE.c)) (first | exact ⟨by assumption, by assumption, by assumption⟩ | go_keep) (first
            | (go_at_call 26; refine (CaughtP (E := EE) (F := EE) (W := W) (g := g) (by first | exact HY.out | exact HY.out.draws _)).mono ?_; rintro e w5 ⟨rfl, hR5⟩; have H5 : Hid (Be W b g EE EE w5) := hR5; have i0' := hR5.q.c0; have i1' := hR5.q.c1; have i2' := hR5.q.c2; clear hR5)
            | (go_at_call 27; refine (WordsP H5.out).mono ?_; rintro e w6 ⟨rfl, hR6⟩; have H6 : Hid (Be W b g EE EE w6) := hR6; have i0' := hR6.q.c0; have i1' := hR6.q.c1; have i2' := hR6.q.c2; clear hR6)
            | (go_at_call 28; refine (RWordsP EE H6.out).mono ?_; rintro e w7 ⟨rfl, hR7⟩; have H7 : Hid (Be W b g EE EE w7) := hR7; have i0' := hR7.q.c0; have i1' := hR7.q.c1; have i2' := hR7.q.c2; clear hR7))
          all_goals go_wp2
          all_goals go_roundw
          case rel => exact ⟨k + 1, EE, by omega, by go_num, H7.out⟩
          case measure => simp [intOf]; omega
        · have HD : Hid (decide (isBit a.w0 ∧ isBit a.w1 ∧ isBit a.w2) = false) := decide_eq_false hby
          have HNo : Hid (¬ (isBit a.w0 ∧ isBit a.w1 ∧ isBit a.w2)) := hby
          clear hby
          go_wp2_with (go_at_call 22; fail)
          refine (SetP_no _ _ _ HNo.out HR.out).mono ?_
          rintro e w3 ⟨rfl, hR3⟩
          have HR3 : Hid (Be W b g E E w3) := hR3
          obtain ⟨-, -, d2, d3, d4⟩ := HC.out _ hR3.old
          clear hR3 c0 c1 c2 c3 c4 HR
          go_wp2_with (go_at_call 23; fail)
          refine (BitsP _ _ _ HD.out HR3.out).mono ?_
          rintro e w3a ⟨rfl, hR3⟩
          have HR3a : Hid (Be W b g E E w3a) := hR3
          obtain ⟨-, -, f2, f3, f4⟩ := HC.out _ hR3.old
          clear hR3 d2 d3 d4 HR3
          go_wp2_with (go_at_call 23; fail)
          refine (BitsP _ _ _ HD.out HR3a.out).mono ?_
          rintro e w4a ⟨rfl, hR4⟩
          obtain ⟨EE, HY⟩ : ∃ EE : Eg, Hid (Be W b g EE EE w4a) := ⟨E, hR4⟩
          clear HR3a hR4 HC f2 f3 f4
          go_wp2
          have e0 := HY.out.q.c0
          have e1 := HY.out.q.c1
          have e2 := HY.out.q.c2
          go_region_held3 (fun w' => w'.cell? ⟨g, 0, none⟩ = some (.bool EE.h) ∧ w'.cell? ⟨g, 1, none⟩ = some (.bool EE.r) ∧ w'.cell? ⟨g, 2, none⟩ = some (.bool EE.c)) (first | exact ⟨by assumption, by assumption, by assumption⟩ | go_keep) (first
            | (go_at_call 26; refine (CaughtP (E := EE) (F := EE) (W := W) (g := g) (by first | exact HY.out | exact HY.out.draws _)).mono ?_; rintro e w5 ⟨rfl, hR5⟩; have H5 : Hid (Be W b g EE EE w5) := hR5; have i0' := hR5.q.c0; have i1' := hR5.q.c1; have i2' := hR5.q.c2; clear hR5)
            | (go_at_call 27; refine (WordsP H5.out).mono ?_; rintro e w6 ⟨rfl, hR6⟩; have H6 : Hid (Be W b g EE EE w6) := hR6; have i0' := hR6.q.c0; have i1' := hR6.q.c1; have i2' := hR6.q.c2; clear hR6)
            | (go_at_call 28; refine (RWordsP EE H6.out).mono ?_; rintro e w7 ⟨rfl, hR7⟩; have H7 : Hid (Be W b g EE EE w7) := hR7; have i0' := hR7.q.c0; have i1' := hR7.q.c1; have i2' := hR7.q.c2; clear hR7))
          all_goals go_wp2
          all_goals go_roundw
          case rel => exact ⟨k + 1, EE, by omega, by go_num, H7.out⟩
          case measure => simp [intOf]; omega
      · have hm' : ¬ (q + 6) % 6 = 3 ∧ ¬ (q + 6) % 6 = 4 ∧ ¬ (q + 6) % 6 = 5 := by omega
        obtain ⟨m3, m4, m5⟩ := hm'
        clear hm
        go_wp2_with (go_at_call 24; fail)
        refine (SeeP a.v HR.out).mono ?_
        rintro e w3 ⟨rfl, hR3⟩
        have HR3 : Hid (Be W b g (see E a.v) E w3) := hR3
        obtain ⟨-, d1, -, -, -⟩ := HC.out _ hR3.old
        have g0 := hR3.q.c0
        have g1 := hR3.q.c1
        have g2 := hR3.q.c2
        clear hR3 c0 c1 c2 c3 c4
        go_wp2
        go_region_with (first
          | (go_at_call 25; refine (RSeeP (E := see E a.v) (F := E) (W := W) (b := b) (g := g) E a.v (by first | exact HR3.out | exact HR3.out.draws _)).mono ?_; rintro e w4 ⟨rfl, hR4⟩; have HR4 : Hid (Be W b g (see E a.v) E w4) := hR4; obtain ⟨-, f1, -, -, -⟩ := HC.out _ hR4.old; have i0' := hR4.q.c0; have i1' := hR4.q.c1; have i2' := hR4.q.c2; have iz := hR4.q.fz; clear hR4))
        all_goals
          generalize hw5 : World.setCell _ _ _ = w5
          have HX : Hid (Be W b g (see E a.v) (see E a.v) w5) := (by rw [← hw5]; exact HR4.out.boxed ((((Turn.refl g _).set _ _).set _ _).set _ _) ((((show EAt w4 g ⟨E.h, E.r, E.c⟩ from HR4.out.q).put0 _).put1 _).put2 _) : Be W b g (see E a.v) (see E a.v) w5)
          clear hw5 HR4 HR3 HR f1 d1 g0 g1 g2 i0' i1' i2' iz
          obtain ⟨EE, HY⟩ : ∃ EE : Eg, Hid (Be W b g EE EE w5) := ⟨see E a.v, HX.out⟩
          clear HX HC hne1 hne2
          go_wp2
          have e0 := HY.out.q.c0
          have e1 := HY.out.q.c1
          have e2 := HY.out.q.c2
          go_region_held3 (fun w' => w'.cell? ⟨g, 0, none⟩ = some (.bool EE.h) ∧ w'.cell? ⟨g, 1, none⟩ = some (.bool EE.r) ∧ w'.cell? ⟨g, 2, none⟩ = some (.bool EE.c)) (first | exact ⟨by assumption, by assumption, by assumption⟩ | go_keep) (first
            | (go_at_call 26; refine (CaughtP (E := EE) (F := EE) (W := W) (g := g) (by first | exact HY.out | exact HY.out.draws _)).mono ?_; rintro e w5 ⟨rfl, hR5⟩; have H5 : Hid (Be W b g EE EE w5) := hR5; have i0' := hR5.q.c0; have i1' := hR5.q.c1; have i2' := hR5.q.c2; clear hR5)
            | (go_at_call 27; refine (WordsP H5.out).mono ?_; rintro e w6 ⟨rfl, hR6⟩; have H6 : Hid (Be W b g EE EE w6) := hR6; have i0' := hR6.q.c0; have i1' := hR6.q.c1; have i2' := hR6.q.c2; clear hR6)
            | (go_at_call 28; refine (RWordsP EE H6.out).mono ?_; rintro e w7 ⟨rfl, hR7⟩; have H7 : Hid (Be W b g EE EE w7) := hR7; have i0' := hR7.q.c0; have i1' := hR7.q.c1; have i2' := hR7.q.c2; clear hR7))
          all_goals go_wp2
          all_goals go_roundw
          case rel => exact ⟨k + 1, EE, by omega, by go_num, H7.out⟩
          case measure => simp [intOf]; omega
    · have hkn' : k = n := by omega
      subst hkn'
      go_wp2_with (go_at_call 18; refine (awake7 _).mono ?_; rintro e w5 ⟨rfl, hB5⟩)
      go_returns
      exact ⟨rfl, HR.out.old.trans (hB5.mono HR.out.old.size)⟩

set_option maxHeartbeats 1000000 in
theorem big (n cap : Nat) (ao : Option Addr) (hi : Bool) (W : World) (hl : 100 < n) (hc : n ≤ cap) (hm : cap ≤ 9223372036854775807) :
    Calls Try.prog 4 #[.bool hi, .slice ao n cap] W fun e w' => e = .returned (.bool true) ∧ Below W.heap.size W w' := by
  have hl' : (100 : Int) < (n : Int) := by omega
  clear hl
  go_enter Try.func4, Try.ntmps4
  go_wp2
  go_returns
  exact ⟨rfl, Below.refl _ _⟩

theorem walk {L : List (List Go.Value)} {ao : Option Addr} {n cap b off : Nat} {W : World} (a0 : Bool) (hS : SeenX W ao cap b off 5 L) (hn : n = L.length) (hL : ∀ r ∈ L, ∃ a : Act, r = a.row ∧ a.ok) :
    Calls Try.prog 4 #[.bool a0, .slice ao n cap] W fun e w' => e = .returned (.bool true) ∧ Below W.heap.size W w' := by
  obtain ⟨A, rfl, hA⟩ := map_of hL
  rw [List.length_map] at hn
  subst hn
  by_cases h : A.length ≤ 100
  · exact good A ao cap b off a0 W hA h hS
  · have := hS.le
    rw [List.length_map] at this
    exact big _ _ _ _ _ (by omega) this hS.max

end Go.Proofs.Ytgclgegdojnpcaa.portEdges
