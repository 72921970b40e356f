/- PortPlays, walked: whatever comes in, true comes out. -/
import Derived.Test.YtgclgegdojnpcaaAwake7
import Derived.Test.YtgclgegdojnpcaaPort3
import Derived.Test.YtgclgegdojnpcaaRef7
import Derived.Test.YtgclgegdojnpcaaArrEq
import Derived.Test.YtgclgegdojnpcaaSeenX
set_option linter.unusedVariables false
namespace Go.Proofs.Ytgclgegdojnpcaa.portPlays
open Go.RowKit Po

/-- An act. -/
structure Act where
  kind : Int
  v : Nat
  w0 : Int
  w1 : Int
  w2 : Int
def Act.row (a : Act) : List Go.Value := [.int .i64 a.kind, .int .u8 (a.v : Int), .int .i64 a.w0, .int .i64 a.w1, .int .i64 a.w2]
def Act.ok (a : Act) : Prop := -9223372036854775808 ≤ a.kind ∧ a.kind ≤ 9223372036854775807 ∧ a.v ≤ 255

/-- Three numbers in a box. -/
structure WAt (w : World) (g : Nat) (x y z : Int) : Prop where
  c0 : w.cell? ⟨g, 0, none⟩ = some (.int .i64 x)
  c1 : w.cell? ⟨g, 1, none⟩ = some (.int .i64 y)
  c2 : w.cell? ⟨g, 2, none⟩ = some (.int .i64 z)
  fz : ∀ o, w.frozen? ⟨g, o, none⟩ = false
section
variable {w w' : World} {g b : Nat} {x y z : Int}
theorem WAt.lt (h : WAt w g x y z) : g < w.heap.size := lt_of_cell h.c0
theorem WAt.kept (h : WAt w g x y z) (hb : w'.heap[g]? = w.heap[g]?) : WAt w' g x y z :=
  ⟨(World.cell?_of_block (w := w) hb).trans h.c0, (World.cell?_of_block (w := w) hb).trans h.c1, (World.cell?_of_block (w := w) hb).trans h.c2, fun o => (World.frozen?_of_block (w := w) hb).trans (h.fz o)⟩
theorem WAt.below (h : WAt w g x y z) (hb : Below w.heap.size w w') : WAt w' g x y z := h.kept (hb.block g h.lt)
theorem WAt.turn (h : WAt w g x y z) (ht : Turn b w w') (hb : g ≠ b) : WAt w' g x y z := h.kept (ht.block g h.lt hb)
theorem WAt.draws (h : WAt w g x y z) (q : Nat) : WAt (w.drewN q) g x y z := ⟨h.c0, h.c1, h.c2, h.fz⟩
theorem WAt.put0 (h : WAt w g x y z) (n : Int) : WAt (w.setCell ⟨g, 0, none⟩ (.int .i64 n)) g n y z :=
  ⟨World.cell?_setCell_same' _ _ _ (by rw [h.c0]; rfl), (World.cell?_setCell_other _ _ _ _ (by simp)).trans h.c1, (World.cell?_setCell_other _ _ _ _ (by simp)).trans h.c2, fun o => by rw [World.frozen?_setCell]; exact h.fz o⟩
theorem WAt.put1 (h : WAt w g x y z) (n : Int) : WAt (w.setCell ⟨g, 1, none⟩ (.int .i64 n)) g x n z :=
  ⟨(World.cell?_setCell_other _ _ _ _ (by simp)).trans h.c0, World.cell?_setCell_same' _ _ _ (by rw [h.c1]; rfl), (World.cell?_setCell_other _ _ _ _ (by simp)).trans h.c2, fun o => by rw [World.frozen?_setCell]; exact h.fz o⟩
theorem WAt.put2 (h : WAt w g x y z) (n : Int) : WAt (w.setCell ⟨g, 2, none⟩ (.int .i64 n)) g x y n :=
  ⟨(World.cell?_setCell_other _ _ _ _ (by simp)).trans h.c0, (World.cell?_setCell_other _ _ _ _ (by simp)).trans h.c1, World.cell?_setCell_same' _ _ _ (by rw [h.c2]; rfl), fun o => by rw [World.frozen?_setCell]; exact h.fz o⟩
end

/-- The port, the box of its words, nothing old turned. -/
structure Bp (W : World) (b g : Nat) (P : Pt) (x y z : Int) (w : World) : Prop where
  p : PAt w b P
  g' : WAt w g x y z
  old : Below W.heap.size W w
  ok : P.ok
  hb : W.heap.size ≤ b
  hg : W.heap.size ≤ g
  bg : b ≠ g
section
variable {W w w' : World} {b g : Nat} {P : Pt} {x y z : Int}
theorem Bp.draws (h : Bp W b g P x y z w) (q : Nat) : Bp W b g P x y z (w.drewN q) := ⟨h.p.draws q, h.g'.draws q, below_drewN h.old q, h.ok, h.hb, h.hg, h.bg⟩
theorem Bp.below (h : Bp W b g P x y z w) (hb : Below w.heap.size w w') : Bp W b g P x y z w' := ⟨h.p.below hb, h.g'.below hb, h.old.trans (hb.mono h.old.size), h.ok, h.hb, h.hg, h.bg⟩
theorem Bp.turn {P' : Pt} (h : Bp W b g P x y z w) (ht : Turn b w w') (hp : PAt w' b P') (ho : P'.ok) : Bp W b g P' x y z w' := ⟨hp, h.g'.turn ht (Ne.symm h.bg), h.old.trans (ht.below h.hb h.old.size), ho, h.hb, h.hg, h.bg⟩
theorem Bp.boxed {x' y' z' : Int} (h : Bp W b g P x y z w) (ht : Turn g w w') (hg : WAt w' g x' y' z') : Bp W b g P x' y' z' w' := ⟨h.p.turn ht h.bg, hg, h.old.trans (ht.below h.hg h.old.size), h.ok, h.hb, h.hg, h.bg⟩
theorem InP (n : Nat) (hn : n ≤ 255) (h : Bp W b g P x y z w) : Calls Try.prog 9 #[.pointer (some ⟨b, 0, none⟩), .int .u8 (n : Int)] w fun e w' => e = .returned (.tuple #[]) ∧ Bp W b g ⟨n, P.o, P.v⟩ x y z w' :=
  (In b n P w h.p).mono fun _ _ ⟨he, ha, ht⟩ => ⟨he, h.turn ht ha ⟨hn, h.ok.2.1, h.ok.2.2⟩⟩
theorem OutP (n : Nat) (hn : n ≤ 255) (h : Bp W b g P x y z w) : Calls Try.prog 10 #[.pointer (some ⟨b, 0, none⟩), .int .u8 (n : Int)] w fun e w' => e = .returned (.tuple #[]) ∧ Bp W b g ⟨P.i, n, P.v⟩ x y z w' :=
  (Out b n P w h.p).mono fun _ _ ⟨he, ha, ht⟩ => ⟨he, h.turn ht ha ⟨h.ok.1, hn, h.ok.2.2⟩⟩
theorem WayP (n : Nat) (hn : n ≤ 255) (h : Bp W b g P x y z w) : Calls Try.prog 11 #[.pointer (some ⟨b, 0, none⟩), .int .u8 (n : Int)] w fun e w' => e = .returned (.tuple #[]) ∧ Bp W b g ⟨P.i, P.o, n⟩ x y z w' :=
  (Po.Way b n P w h.p).mono fun _ _ ⟨he, ha, ht⟩ => ⟨he, h.turn ht ha ⟨h.ok.1, h.ok.2.1, hn⟩⟩
theorem SetP_yes (a0 a1 a2 : Nat) (h0 : a0 ≤ 255) (h1 : a1 ≤ 255) (h2 : a2 ≤ 255) (h : Bp W b g P x y z w) : Calls Try.prog 12 #[.pointer (some ⟨b, 0, none⟩), .agg #[.int .i64 (a0 : Int), .int .i64 (a1 : Int), .int .i64 (a2 : Int)]] w fun e w' => e = .returned (.int .i64 0) ∧ Bp W b g ⟨a0, a1, a2⟩ x y z w' :=
  (Set_yes b a0 a1 a2 P w h0 h1 h2 h.p).mono fun _ _ ⟨he, ha, ht⟩ => ⟨he, h.turn ht ha ⟨h0, h1, h2⟩⟩
theorem SetP_no (a0 a1 a2 : Int) (hn : ¬ (isByte a0 ∧ isByte a1 ∧ isByte a2)) (h : Bp W b g P x y z w) : Calls Try.prog 12 #[.pointer (some ⟨b, 0, none⟩), .agg #[.int .i64 a0, .int .i64 a1, .int .i64 a2]] w fun e w' => e = .returned (.int .i64 6) ∧ Bp W b g P x y z w' :=
  (Set_no b a0 a1 a2 w hn).mono fun _ _ ⟨he, hb⟩ => ⟨he, h.below hb⟩
theorem BytesP (a0 a1 a2 : Int) {c : Bool} (hc : decide (isByte a0 ∧ isByte a1 ∧ isByte a2) = c) (h : Bp W b g P x y z w) : Calls Try.prog 13 #[.agg #[.int .i64 a0, .int .i64 a1, .int .i64 a2]] w fun e w' => e = .returned (.bool c) ∧ Bp W b g P x y z w' :=
  (RBytes a0 a1 a2 w).mono fun _ _ ⟨he, hb⟩ => ⟨hc ▸ he, h.below hb⟩
theorem LevelP (h : Bp W b g P x y z w) : Calls Try.prog 14 #[.pointer (some ⟨b, 0, none⟩)] w fun e w' => e = .returned (.int .u8 (lev P : Int)) ∧ Bp W b g P x y z w' :=
  (Level b P w h.ok h.p).mono fun _ _ ⟨he, q, hw⟩ => ⟨he, hw ▸ h.draws q⟩
theorem WaysP (h : Bp W b g P x y z w) : Calls Try.prog 16 #[.pointer (some ⟨b, 0, none⟩)] w fun e w' => e = .returned (.int .u8 (P.v : Int)) ∧ Bp W b g P x y z w' :=
  (Ways b P w h.p).mono fun _ _ ⟨he, hw⟩ => ⟨he, hw ▸ h⟩
theorem WordsP (h : Bp W b g P x y z w) : Calls Try.prog 17 #[.pointer (some ⟨b, 0, none⟩)] w fun e w' => e = .returned (.agg (pwords P)) ∧ Bp W b g P x y z w' :=
  (Words b P w h.ok h.p).mono fun _ _ ⟨he, hb⟩ => ⟨he, h.below hb⟩
theorem RLevelP (h : Bp W b g P x y z w) : Calls Try.prog 15 #[.int .i64 (P.i : Int), .int .i64 (P.o : Int), .int .i64 (P.v : Int)] w fun e w' => e = .returned (.int .i64 (lev P : Int)) ∧ Bp W b g P x y z w' :=
  (RLevel P w h.ok).mono fun _ _ ⟨he, hw⟩ => ⟨he, hw ▸ h⟩
end

theorem kind4 {k r : Int} (h : k.tmod 4 = r) : -3 ≤ r ∧ r ≤ 3 ∧ (r + 4) % 4 = k % 4 := by
  subst h
  rcases Int.le_total 0 k with h | h
  · have := Int.tmod_eq_emod_of_nonneg (b := 4) h; omega
  · have : k.tmod 4 = -((-k).tmod 4) := by rw [Int.neg_tmod]; omega
    have e := Int.tmod_eq_emod_of_nonneg (a := -k) (b := 4) (by omega)
    omega

theorem words_self (x y z : Int) (w : World) : (Op.equalIn 10000 25 (.agg #[.int .i64 x, .int .i64 y, .int .i64 z]) (.agg #[.int .i64 x, .int .i64 y, .int .i64 z])).run Try.prog w = .ok true w :=
  equal_self (P := Try.prog) (t := 25) (e := 3) Try.underlying25 (by kernel_rfl) (by kernel_rfl) Try.underlying3 _ (fun j hj => by
    match j, hj with
    | 0, _ => exact ⟨_, _, rfl⟩
    | 1, _ => exact ⟨_, _, rfl⟩
    | 2, _ => exact ⟨_, _, rfl⟩) w

set_option maxRecDepth 100000 in
set_option maxHeartbeats 4000000 in
theorem good (A : List Act) (ao : Option Addr) (cap b0 off0 i0 : Nat) (W : World) (hA : ∀ a ∈ A, a.ok) (hl : A.length ≤ 100) (hi : i0 ≤ 255) (hS : SeenX W ao cap b0 off0 5 (A.map Act.row)) :
    Calls Try.prog 3 #[.int .u8 (i0 : Int), .slice ao A.length cap] W fun e w' => e = .returned (.bool true) ∧ Below W.heap.size W w' := by
  have HA : Hid (∀ a ∈ A, a.ok) := hA
  have HS : Hid (SeenX W ao cap b0 off0 5 (A.map Act.row)) := hS
  have hcap := hS.max
  have hle := hS.le
  rw [List.length_map] at hle
  have hi64 : IntKind.i64.wrap (i0 : Int) = i0 := by rw [IntKind.wrap_i64]; omega
  clear hA hS
  generalize hn : A.length = n at *
  have HN : Hid (A.length = n) := hn
  clear hn
  go_enter Try.func3, Try.ntmps3
  go_wp2_with (go_at_call 8; fail)
  refine (New i0 W).mono ?_
  rintro e w1 ⟨b, rfl, hb, hA1, hB1⟩
  have HB1 : Hid (Below W.heap.size W w1) := hB1
  have HA1 : Hid (PAt w1 b ⟨i0, 0, 0⟩) := hA1
  clear hA1 hB1
  go_wp2
  generalize hw2 : w1.alloc _ = w2
  have HB2 : Hid (Bp W b w1.heap.size ⟨i0, 0, 0⟩ (i0 : Int) 0 0 w2) := (by
    rw [← hw2]
    have hh := heap_alloc_new w1 (.cells #[.int .i64 (i0 : Int), .int .i64 0, .int .i64 0] 25)
    have hB := (Below.refl w1.heap.size w1).alloc (Nat.le_refl _) (.cells #[.int .i64 (i0 : Int), .int .i64 0, .int .i64 0] 25)
    exact ⟨HA1.out.below hB, ⟨cell_of_row _ _ _ _ _ _ hh, cell_of_row _ _ _ _ _ _ hh, cell_of_row _ _ _ _ _ _ hh, fun _ => frozen_of_row _ _ _ _ _ hh⟩, HB1.out.trans (hB.mono HB1.out.size), ⟨hi, Nat.zero_le _, Nat.zero_le _⟩, hb, HB1.out.size, by have := HA1.out.lt; omega⟩ : Bp W b w1.heap.size ⟨i0, 0, 0⟩ (i0 : Int) 0 0 w2)
  clear hw2 HA1 HB1
  generalize w1.heap.size = g at *
  go_loopw [7] (fun v wr => ∃ (k : Nat) (P : Pt), k ≤ n ∧ v = .int .i64 (k : Int) ∧ Bp W b g P (P.i : Int) (P.o : Int) (P.v : Int) wr) (fun v _ => n - (intOf v).toNat)
  case atStart => exact ⟨0, ⟨i0, 0, 0⟩, by omega, rfl, HB2.out⟩
  case round =>
    obtain ⟨k, P, hk, rfl, hR⟩ := hrel
    have HR : Hid (Bp W b g P (P.i : Int) (P.o : Int) (P.v : Int) wr) := hR
    have hp1 := hR.ok.1
    have hp2 := hR.ok.2.1
    have hp3 := hR.ok.2.2
    clear hR HB2
    by_cases hkn : k < n
    · obtain ⟨a, ha⟩ : ∃ a, A[k]? = some a := ⟨_, List.getElem?_eq_getElem (by rw [HN.out]; exact hkn)⟩
      obtain ⟨r0, r1, r2⟩ := HA.out a (List.mem_of_getElem? ha)
      have hrow : (A.map Act.row)[k]? = some a.row := by rw [List.getElem?_map, ha]; rfl
      have hao := HS.out.at_ (fun e => by rw [e] at hrow; cases hrow)
      have hb0 : b0 < W.heap.size := HS.out.lt (fun e => by rw [e] at hrow; cases hrow)
      subst hao
      have HC : Hid (∀ w', Below W.heap.size W w' → w'.cell? ⟨b0, off0 + k * 5, none⟩ = some (.int .i64 a.kind) ∧ w'.cell? ⟨b0, off0 + k * 5 + 1, none⟩ = some (.int .u8 (a.v : Int)) ∧ w'.cell? ⟨b0, off0 + k * 5 + 2, none⟩ = some (.int .i64 a.w0) ∧ w'.cell? ⟨b0, off0 + k * 5 + 3, none⟩ = some (.int .i64 a.w1) ∧ w'.cell? ⟨b0, off0 + k * 5 + 4, none⟩ = some (.int .i64 a.w2)) := fun w' hw' =>
        have hSr := HS.out.below hw' (Nat.le_refl _)
        ⟨hSr.cell k _ hrow 0 _ rfl, hSr.cell k _ hrow 1 _ rfl, hSr.cell k _ hrow 2 _ rfl, hSr.cell k _ hrow 3 _ rfl, hSr.cell k _ hrow 4 _ rfl⟩
      obtain ⟨c0, c1, c2, c3, c4⟩ := HC.out _ HR.out.old
      obtain ⟨q, hq⟩ : ∃ q, a.kind.tmod 4 = q := ⟨_, rfl⟩
      obtain ⟨q1, q2, q3⟩ := kind4 hq
      have hv64 : IntKind.i64.wrap (a.v : Int) = a.v := by rw [IntKind.wrap_i64]; omega
      have k0 : (0 : Int) ≤ (k : Int) := by omega
      have k1 : (k : Int) < (n : Int) := by omega
      clear hrow ha q3
      have heq := words_self
      have h4 : (q + 4) % 4 = 0 ∨ (q + 4) % 4 = 1 ∨ (q + 4) % 4 = 2 ∨ (q + 4) % 4 = 3 := by omega
      rcases h4 with hm | hm | hm | hm
      · go_wp2_with (go_at_call 9; fail)
        refine (InP a.v r2 HR.out).mono ?_
        rintro e w3 ⟨rfl, hR3⟩
        have HR3 : Hid (Bp W b g (⟨a.v, P.o, P.v⟩ : Pt) (P.i : Int) (P.o : Int) (P.v : Int) w3) := hR3
        obtain ⟨d0, d1, d2, d3, d4⟩ := HC.out _ hR3.old
        have g0 := hR3.g'.c0
        have gz := hR3.g'.fz 0
        clear hR3 c0 c1 c2 c3 c4
        go_wp2
        generalize hw4 : w3.setCell _ _ = w4
        have HX : Hid (Bp W b g (⟨a.v, P.o, P.v⟩ : Pt) (a.v : Int) (P.o : Int) (P.v : Int) w4) := (by rw [← hw4]; exact HR3.out.boxed ((Turn.refl g _).set _ _) (HR3.out.g'.put0 _) : Bp W b g (⟨a.v, P.o, P.v⟩ : Pt) (a.v : Int) (P.o : Int) (P.v : Int) w4)
        clear hw4 HR3 d0 d1 d2 d3 d4 g0 gz HR
        obtain ⟨PP, HY⟩ : ∃ PP : Pt, Hid (Bp W b g PP (PP.i : Int) (PP.o : Int) (PP.v : Int) w4) := ⟨(⟨a.v, P.o, P.v⟩ : Pt), HX.out⟩
        clear HX
        clear hp1 hp2 hp3
        have hpp := HY.out.ok
        obtain ⟨lv, hlv⟩ : ∃ lv, lev PP = lv := ⟨_, rfl⟩
        have hlv2 : lv < 256 := hlv ▸ lev_lt hpp
        have hlv64 : IntKind.i64.wrap (lv : Int) = lv := by rw [IntKind.wrap_i64]; omega
        have hpv : PP.v ≤ 255 := hpp.2.2
        have hpv64 : IntKind.i64.wrap (PP.v : Int) = PP.v := by rw [IntKind.wrap_i64]; omega
        have LV : Hid (∀ w, Bp W b g PP (PP.i : Int) (PP.o : Int) (PP.v : Int) w → Calls Try.prog 14 #[.pointer (some ⟨b, 0, none⟩)] w fun e w' => e = .returned (.int .u8 (lv : Int)) ∧ Bp W b g PP (PP.i : Int) (PP.o : Int) (PP.v : Int) w') := fun w h => hlv ▸ LevelP h
        have RL : Hid (∀ w, Bp W b g PP (PP.i : Int) (PP.o : Int) (PP.v : Int) w → Calls Try.prog 15 #[.int .i64 (PP.i : Int), .int .i64 (PP.o : Int), .int .i64 (PP.v : Int)] w fun e w' => e = .returned (.int .i64 (lv : Int)) ∧ Bp W b g PP (PP.i : Int) (PP.o : Int) (PP.v : Int) w') := fun w h => hlv ▸ RLevelP h
        clear hlv hpp
        have e0 := HY.out.g'.c0
        have e1 := HY.out.g'.c1
        have e2 := HY.out.g'.c2
        go_region_held3 (fun w' => w'.cell? ⟨g, 0, none⟩ = some (.int .i64 (PP.i : Int)) ∧ w'.cell? ⟨g, 1, none⟩ = some (.int .i64 (PP.o : Int)) ∧ w'.cell? ⟨g, 2, none⟩ = some (.int .i64 (PP.v : Int))) (first | exact ⟨by assumption, by assumption, by assumption⟩ | go_keep) (first
          | (go_at_call 14; refine (LV.out _ (by first | exact HY.out | exact HY.out.draws _)).mono ?_; rintro e w5 ⟨rfl, hR5⟩; have H5 : Hid (Bp W b g PP (PP.i : Int) (PP.o : Int) (PP.v : Int) w5) := hR5; have i0' := hR5.g'.c0; have i1' := hR5.g'.c1; have i2' := hR5.g'.c2; clear hR5)
          | (go_at_call 15; refine (RL.out _ H5.out).mono ?_; rintro e w6 ⟨rfl, hR6⟩; have H6 : Hid (Bp W b g PP (PP.i : Int) (PP.o : Int) (PP.v : Int) w6) := hR6; have i0' := hR6.g'.c0; have i1' := hR6.g'.c1; have i2' := hR6.g'.c2; clear hR6)
          | (go_at_call 16; refine (WaysP H6.out).mono ?_; rintro e w7 ⟨rfl, hR7⟩; have H7 : Hid (Bp W b g PP (PP.i : Int) (PP.o : Int) (PP.v : Int) w7) := hR7; have i0' := hR7.g'.c0; have i1' := hR7.g'.c1; have i2' := hR7.g'.c2; clear hR7)
          | (go_at_call 17; refine (WordsP H7.out).mono ?_; rintro e w8 ⟨rfl, hR8⟩; simp only [pwords]; have H8 : Hid (Bp W b g PP (PP.i : Int) (PP.o : Int) (PP.v : Int) w8) := hR8; have i0' := hR8.g'.c0; have i1' := hR8.g'.c1; have i2' := hR8.g'.c2; clear hR8))
        all_goals go_wp2
        all_goals go_roundw
        case rel => exact ⟨k + 1, PP, by omega, by go_num, H8.out⟩
        case measure => simp [intOf]; omega
      · go_wp2_with (go_at_call 10; fail)
        refine (OutP a.v r2 HR.out).mono ?_
        rintro e w3 ⟨rfl, hR3⟩
        have HR3 : Hid (Bp W b g (⟨P.i, a.v, P.v⟩ : Pt) (P.i : Int) (P.o : Int) (P.v : Int) w3) := hR3
        obtain ⟨d0, d1, d2, d3, d4⟩ := HC.out _ hR3.old
        have g1 := hR3.g'.c1
        have gz := hR3.g'.fz 1
        clear hR3 c0 c1 c2 c3 c4
        go_wp2
        generalize hw4 : w3.setCell _ _ = w4
        have HX : Hid (Bp W b g (⟨P.i, a.v, P.v⟩ : Pt) (P.i : Int) (a.v : Int) (P.v : Int) w4) := (by rw [← hw4]; exact HR3.out.boxed ((Turn.refl g _).set _ _) (HR3.out.g'.put1 _) : Bp W b g (⟨P.i, a.v, P.v⟩ : Pt) (P.i : Int) (a.v : Int) (P.v : Int) w4)
        clear hw4 HR3 d0 d1 d2 d3 d4 g1 gz HR
        obtain ⟨PP, HY⟩ : ∃ PP : Pt, Hid (Bp W b g PP (PP.i : Int) (PP.o : Int) (PP.v : Int) w4) := ⟨(⟨P.i, a.v, P.v⟩ : Pt), HX.out⟩
        clear HX
        clear hp1 hp2 hp3
        have hpp := HY.out.ok
        obtain ⟨lv, hlv⟩ : ∃ lv, lev PP = lv := ⟨_, rfl⟩
        have hlv2 : lv < 256 := hlv ▸ lev_lt hpp
        have hlv64 : IntKind.i64.wrap (lv : Int) = lv := by rw [IntKind.wrap_i64]; omega
        have hpv : PP.v ≤ 255 := hpp.2.2
        have hpv64 : IntKind.i64.wrap (PP.v : Int) = PP.v := by rw [IntKind.wrap_i64]; omega
        have LV : Hid (∀ w, Bp W b g PP (PP.i : Int) (PP.o : Int) (PP.v : Int) w → Calls Try.prog 14 #[.pointer (some ⟨b, 0, none⟩)] w fun e w' => e = .returned (.int .u8 (lv : Int)) ∧ Bp W b g PP (PP.i : Int) (PP.o : Int) (PP.v : Int) w') := fun w h => hlv ▸ LevelP h
        have RL : Hid (∀ w, Bp W b g PP (PP.i : Int) (PP.o : Int) (PP.v : Int) w → Calls Try.prog 15 #[.int .i64 (PP.i : Int), .int .i64 (PP.o : Int), .int .i64 (PP.v : Int)] w fun e w' => e = .returned (.int .i64 (lv : Int)) ∧ Bp W b g PP (PP.i : Int) (PP.o : Int) (PP.v : Int) w') := fun w h => hlv ▸ RLevelP h
        clear hlv hpp
        have e0 := HY.out.g'.c0
        have e1 := HY.out.g'.c1
        have e2 := HY.out.g'.c2
        go_region_held3 (fun w' => w'.cell? ⟨g, 0, none⟩ = some (.int .i64 (PP.i : Int)) ∧ w'.cell? ⟨g, 1, none⟩ = some (.int .i64 (PP.o : Int)) ∧ w'.cell? ⟨g, 2, none⟩ = some (.int .i64 (PP.v : Int))) (first | exact ⟨by assumption, by assumption, by assumption⟩ | go_keep) (first
          | (go_at_call 14; refine (LV.out _ (by first | exact HY.out | exact HY.out.draws _)).mono ?_; rintro e w5 ⟨rfl, hR5⟩; have H5 : Hid (Bp W b g PP (PP.i : Int) (PP.o : Int) (PP.v : Int) w5) := hR5; have i0' := hR5.g'.c0; have i1' := hR5.g'.c1; have i2' := hR5.g'.c2; clear hR5)
          | (go_at_call 15; refine (RL.out _ H5.out).mono ?_; rintro e w6 ⟨rfl, hR6⟩; have H6 : Hid (Bp W b g PP (PP.i : Int) (PP.o : Int) (PP.v : Int) w6) := hR6; have i0' := hR6.g'.c0; have i1' := hR6.g'.c1; have i2' := hR6.g'.c2; clear hR6)
          | (go_at_call 16; refine (WaysP H6.out).mono ?_; rintro e w7 ⟨rfl, hR7⟩; have H7 : Hid (Bp W b g PP (PP.i : Int) (PP.o : Int) (PP.v : Int) w7) := hR7; have i0' := hR7.g'.c0; have i1' := hR7.g'.c1; have i2' := hR7.g'.c2; clear hR7)
          | (go_at_call 17; refine (WordsP H7.out).mono ?_; rintro e w8 ⟨rfl, hR8⟩; simp only [pwords]; have H8 : Hid (Bp W b g PP (PP.i : Int) (PP.o : Int) (PP.v : Int) w8) := hR8; have i0' := hR8.g'.c0; have i1' := hR8.g'.c1; have i2' := hR8.g'.c2; clear hR8))
        all_goals go_wp2
        all_goals go_roundw
        case rel => exact ⟨k + 1, PP, by omega, by go_num, H8.out⟩
        case measure => simp [intOf]; omega
      · go_wp2_with (go_at_call 11; fail)
        refine (WayP a.v r2 HR.out).mono ?_
        rintro e w3 ⟨rfl, hR3⟩
        have HR3 : Hid (Bp W b g (⟨P.i, P.o, a.v⟩ : Pt) (P.i : Int) (P.o : Int) (P.v : Int) w3) := hR3
        obtain ⟨d0, d1, d2, d3, d4⟩ := HC.out _ hR3.old
        have g2 := hR3.g'.c2
        have gz := hR3.g'.fz 2
        clear hR3 c0 c1 c2 c3 c4
        go_wp2
        generalize hw4 : w3.setCell _ _ = w4
        have HX : Hid (Bp W b g (⟨P.i, P.o, a.v⟩ : Pt) (P.i : Int) (P.o : Int) (a.v : Int) w4) := (by rw [← hw4]; exact HR3.out.boxed ((Turn.refl g _).set _ _) (HR3.out.g'.put2 _) : Bp W b g (⟨P.i, P.o, a.v⟩ : Pt) (P.i : Int) (P.o : Int) (a.v : Int) w4)
        clear hw4 HR3 d0 d1 d2 d3 d4 g2 gz HR
        obtain ⟨PP, HY⟩ : ∃ PP : Pt, Hid (Bp W b g PP (PP.i : Int) (PP.o : Int) (PP.v : Int) w4) := ⟨(⟨P.i, P.o, a.v⟩ : Pt), HX.out⟩
        clear HX
        clear hp1 hp2 hp3
        have hpp := HY.out.ok
        obtain ⟨lv, hlv⟩ : ∃ lv, lev PP = lv := ⟨_, rfl⟩
        have hlv2 : lv < 256 := hlv ▸ lev_lt hpp
        have hlv64 : IntKind.i64.wrap (lv : Int) = lv := by rw [IntKind.wrap_i64]; omega
        have hpv : PP.v ≤ 255 := hpp.2.2
        have hpv64 : IntKind.i64.wrap (PP.v : Int) = PP.v := by rw [IntKind.wrap_i64]; omega
        have LV : Hid (∀ w, Bp W b g PP (PP.i : Int) (PP.o : Int) (PP.v : Int) w → Calls Try.prog 14 #[.pointer (some ⟨b, 0, none⟩)] w fun e w' => e = .returned (.int .u8 (lv : Int)) ∧ Bp W b g PP (PP.i : Int) (PP.o : Int) (PP.v : Int) w') := fun w h => hlv ▸ LevelP h
        have RL : Hid (∀ w, Bp W b g PP (PP.i : Int) (PP.o : Int) (PP.v : Int) w → Calls Try.prog 15 #[.int .i64 (PP.i : Int), .int .i64 (PP.o : Int), .int .i64 (PP.v : Int)] w fun e w' => e = .returned (.int .i64 (lv : Int)) ∧ Bp W b g PP (PP.i : Int) (PP.o : Int) (PP.v : Int) w') := fun w h => hlv ▸ RLevelP h
        clear hlv hpp
        have e0 := HY.out.g'.c0
        have e1 := HY.out.g'.c1
        have e2 := HY.out.g'.c2
        go_region_held3 (fun w' => w'.cell? ⟨g, 0, none⟩ = some (.int .i64 (PP.i : Int)) ∧ w'.cell? ⟨g, 1, none⟩ = some (.int .i64 (PP.o : Int)) ∧ w'.cell? ⟨g, 2, none⟩ = some (.int .i64 (PP.v : Int))) (first | exact ⟨by assumption, by assumption, by assumption⟩ | go_keep) (first
          | (go_at_call 14; refine (LV.out _ (by first | exact HY.out | exact HY.out.draws _)).mono ?_; rintro e w5 ⟨rfl, hR5⟩; have H5 : Hid (Bp W b g PP (PP.i : Int) (PP.o : Int) (PP.v : Int) w5) := hR5; have i0' := hR5.g'.c0; have i1' := hR5.g'.c1; have i2' := hR5.g'.c2; clear hR5)
          | (go_at_call 15; refine (RL.out _ H5.out).mono ?_; rintro e w6 ⟨rfl, hR6⟩; have H6 : Hid (Bp W b g PP (PP.i : Int) (PP.o : Int) (PP.v : Int) w6) := hR6; have i0' := hR6.g'.c0; have i1' := hR6.g'.c1; have i2' := hR6.g'.c2; clear hR6)
          | (go_at_call 16; refine (WaysP H6.out).mono ?_; rintro e w7 ⟨rfl, hR7⟩; have H7 : Hid (Bp W b g PP (PP.i : Int) (PP.o : Int) (PP.v : Int) w7) := hR7; have i0' := hR7.g'.c0; have i1' := hR7.g'.c1; have i2' := hR7.g'.c2; clear hR7)
          | (go_at_call 17; refine (WordsP H7.out).mono ?_; rintro e w8 ⟨rfl, hR8⟩; simp only [pwords]; have H8 : Hid (Bp W b g PP (PP.i : Int) (PP.o : Int) (PP.v : Int) w8) := hR8; have i0' := hR8.g'.c0; have i1' := hR8.g'.c1; have i2' := hR8.g'.c2; clear hR8))
        all_goals go_wp2
        all_goals go_roundw
        case rel => exact ⟨k + 1, PP, by omega, by go_num, H8.out⟩
        case measure => simp [intOf]; omega
      · by_cases hby : isByte a.w0 ∧ isByte a.w1 ∧ isByte a.w2
        · have HD : Hid (decide (isByte a.w0 ∧ isByte a.w1 ∧ isByte a.w2) = true) := decide_eq_true hby
          obtain ⟨⟨x1, x2⟩, ⟨y1, y2⟩, ⟨z1, z2⟩⟩ := hby
          obtain ⟨n0, hn0⟩ := Int.eq_ofNat_of_zero_le x1
          obtain ⟨n1, hn1⟩ := Int.eq_ofNat_of_zero_le y1
          obtain ⟨n2, hn2⟩ := Int.eq_ofNat_of_zero_le z1
          have m0 : n0 ≤ 255 := by omega
          have m1 : n1 ≤ 255 := by omega
          have m2 : n2 ≤ 255 := by omega
          rw [hn0] at HC HD c2
          rw [hn1] at HC HD c3
          rw [hn2] at HC HD c4
          clear x1 x2 y1 y2 z1 z2 hn0 hn1 hn2
          have hne1 : ¬ b0 = g := by have := HR.out.hg; omega
          have hne2 : ¬ g = b0 := by have := HR.out.hg; omega
          go_wp2_with (go_at_call 12; fail)
          refine (SetP_yes n0 n1 n2 m0 m1 m2 HR.out).mono ?_
          rintro e w3 ⟨rfl, hR3⟩
          have HR3 : Hid (Bp W b g ⟨n0, n1, n2⟩ (P.i : Int) (P.o : Int) (P.v : Int) w3) := hR3
          obtain ⟨-, -, d2, d3, d4⟩ := HC.out _ hR3.old
          clear hR3 c0 c1 c2 c3 c4 HR
          go_wp2_with (go_at_call 13; fail)
          refine (BytesP n0 n1 n2 HD.out HR3.out).mono ?_
          rintro e w3a ⟨rfl, hR3⟩
          have HR3a : Hid (Bp W b g ⟨n0, n1, n2⟩ (P.i : Int) (P.o : Int) (P.v : Int) w3a) := hR3
          obtain ⟨-, -, f2, f3, f4⟩ := HC.out _ hR3.old
          have g0 := hR3.g'.c0
          have g1 := hR3.g'.c1
          have g2 := hR3.g'.c2
          have gz := hR3.g'.fz
          clear hR3 d2 d3 d4 HR3
          go_wp2_with (go_at_call 13; fail)
          generalize hw4 : World.setCell _ _ _ = w4
          have HX : Hid (Bp W b g ⟨n0, n1, n2⟩ (n0 : Int) (n1 : Int) (n2 : Int) w4) := (by rw [← hw4]; exact HR3a.out.boxed ((((Turn.refl g _).set _ _).set _ _).set _ _) (((HR3a.out.g'.put0 _).put1 _).put2 _) : Bp W b g ⟨n0, n1, n2⟩ (n0 : Int) (n1 : Int) (n2 : Int) w4)
          clear hw4 HR3a f2 f3 f4 g0 g1 g2 gz
          refine (BytesP n0 n1 n2 HD.out HX.out).mono ?_
          rintro e w4a ⟨rfl, hR4⟩
          obtain ⟨PP, HY⟩ : ∃ PP : Pt, Hid (Bp W b g PP (PP.i : Int) (PP.o : Int) (PP.v : Int) w4a) := ⟨⟨n0, n1, n2⟩, hR4⟩
          clear HX hR4 HC hne1 hne2
          go_wp2
          clear hp1 hp2 hp3
          have hpp := HY.out.ok
          obtain ⟨lv, hlv⟩ : ∃ lv, lev PP = lv := ⟨_, rfl⟩
          have hlv2 : lv < 256 := hlv ▸ lev_lt hpp
          have hlv64 : IntKind.i64.wrap (lv : Int) = lv := by rw [IntKind.wrap_i64]; omega
          have hpv : PP.v ≤ 255 := hpp.2.2
          have hpv64 : IntKind.i64.wrap (PP.v : Int) = PP.v := by rw [IntKind.wrap_i64]; omega
          have LV : Hid (∀ w, Bp W b g PP (PP.i : Int) (PP.o : Int) (PP.v : Int) w → Calls Try.prog 14 #[.pointer (some ⟨b, 0, none⟩)] w fun e w' => e = .returned (.int .u8 (lv : Int)) ∧ Bp W b g PP (PP.i : Int) (PP.o : Int) (PP.v : Int) w') := fun w h => hlv ▸ LevelP h
          have RL : Hid (∀ w, Bp W b g PP (PP.i : Int) (PP.o : Int) (PP.v : Int) w → Calls Try.prog 15 #[.int .i64 (PP.i : Int), .int .i64 (PP.o : Int), .int .i64 (PP.v : Int)] w fun e w' => e = .returned (.int .i64 (lv : Int)) ∧ Bp W b g PP (PP.i : Int) (PP.o : Int) (PP.v : Int) w') := fun w h => hlv ▸ RLevelP h
          clear hlv hpp
          have e0 := HY.out.g'.c0
          have e1 := HY.out.g'.c1
          have e2 := HY.out.g'.c2
          go_region_held3 (fun w' => w'.cell? ⟨g, 0, none⟩ = some (.int .i64 (PP.i : Int)) ∧ w'.cell? ⟨g, 1, none⟩ = some (.int .i64 (PP.o : Int)) ∧ w'.cell? ⟨g, 2, none⟩ = some (.int .i64 (PP.v : Int))) (first | exact ⟨by assumption, by assumption, by assumption⟩ | go_keep) (first
            | (go_at_call 14; refine (LV.out _ (by first | exact HY.out | exact HY.out.draws _)).mono ?_; rintro e w5 ⟨rfl, hR5⟩; have H5 : Hid (Bp W b g PP (PP.i : Int) (PP.o : Int) (PP.v : Int) w5) := hR5; have i0' := hR5.g'.c0; have i1' := hR5.g'.c1; have i2' := hR5.g'.c2; clear hR5)
            | (go_at_call 15; refine (RL.out _ H5.out).mono ?_; rintro e w6 ⟨rfl, hR6⟩; have H6 : Hid (Bp W b g PP (PP.i : Int) (PP.o : Int) (PP.v : Int) w6) := hR6; have i0' := hR6.g'.c0; have i1' := hR6.g'.c1; have i2' := hR6.g'.c2; clear hR6)
            | (go_at_call 16; refine (WaysP H6.out).mono ?_; rintro e w7 ⟨rfl, hR7⟩; have H7 : Hid (Bp W b g PP (PP.i : Int) (PP.o : Int) (PP.v : Int) w7) := hR7; have i0' := hR7.g'.c0; have i1' := hR7.g'.c1; have i2' := hR7.g'.c2; clear hR7)
            | (go_at_call 17; refine (WordsP H7.out).mono ?_; rintro e w8 ⟨rfl, hR8⟩; simp only [pwords]; have H8 : Hid (Bp W b g PP (PP.i : Int) (PP.o : Int) (PP.v : Int) w8) := hR8; have i0' := hR8.g'.c0; have i1' := hR8.g'.c1; have i2' := hR8.g'.c2; clear hR8))
          all_goals go_wp2
          all_goals go_roundw
          case rel => exact ⟨k + 1, PP, by omega, by go_num, H8.out⟩
          case measure => simp [intOf]; omega
        · have HD : Hid (decide (isByte a.w0 ∧ isByte a.w1 ∧ isByte a.w2) = false) := decide_eq_false hby
          have HNo : Hid (¬ (isByte a.w0 ∧ isByte a.w1 ∧ isByte a.w2)) := hby
          clear hby
          go_wp2_with (go_at_call 12; fail)
          refine (SetP_no _ _ _ HNo.out HR.out).mono ?_
          rintro e w3 ⟨rfl, hR3⟩
          have HR3 : Hid (Bp W b g P (P.i : Int) (P.o : Int) (P.v : Int) w3) := hR3
          obtain ⟨-, -, d2, d3, d4⟩ := HC.out _ hR3.old
          clear hR3 c0 c1 c2 c3 c4 HR
          go_wp2_with (go_at_call 13; fail)
          refine (BytesP _ _ _ HD.out HR3.out).mono ?_
          rintro e w3a ⟨rfl, hR3⟩
          have HR3a : Hid (Bp W b g P (P.i : Int) (P.o : Int) (P.v : Int) w3a) := hR3
          obtain ⟨-, -, f2, f3, f4⟩ := HC.out _ hR3.old
          clear hR3 d2 d3 d4 HR3
          go_wp2_with (go_at_call 13; fail)
          refine (BytesP _ _ _ HD.out HR3a.out).mono ?_
          rintro e w4a ⟨rfl, hR4⟩
          obtain ⟨PP, HY⟩ : ∃ PP : Pt, Hid (Bp W b g PP (PP.i : Int) (PP.o : Int) (PP.v : Int) w4a) := ⟨P, hR4⟩
          clear HR3a hR4 HC f2 f3 f4
          go_wp2
          clear hp1 hp2 hp3
          have hpp := HY.out.ok
          obtain ⟨lv, hlv⟩ : ∃ lv, lev PP = lv := ⟨_, rfl⟩
          have hlv2 : lv < 256 := hlv ▸ lev_lt hpp
          have hlv64 : IntKind.i64.wrap (lv : Int) = lv := by rw [IntKind.wrap_i64]; omega
          have hpv : PP.v ≤ 255 := hpp.2.2
          have hpv64 : IntKind.i64.wrap (PP.v : Int) = PP.v := by rw [IntKind.wrap_i64]; omega
          have LV : Hid (∀ w, Bp W b g PP (PP.i : Int) (PP.o : Int) (PP.v : Int) w → Calls Try.prog 14 #[.pointer (some ⟨b, 0, none⟩)] w fun e w' => e = .returned (.int .u8 (lv : Int)) ∧ Bp W b g PP (PP.i : Int) (PP.o : Int) (PP.v : Int) w') := fun w h => hlv ▸ LevelP h
          have RL : Hid (∀ w, Bp W b g PP (PP.i : Int) (PP.o : Int) (PP.v : Int) w → Calls Try.prog 15 #[.int .i64 (PP.i : Int), .int .i64 (PP.o : Int), .int .i64 (PP.v : Int)] w fun e w' => e = .returned (.int .i64 (lv : Int)) ∧ Bp W b g PP (PP.i : Int) (PP.o : Int) (PP.v : Int) w') := fun w h => hlv ▸ RLevelP h
          clear hlv hpp
          have e0 := HY.out.g'.c0
          have e1 := HY.out.g'.c1
          have e2 := HY.out.g'.c2
          go_region_held3 (fun w' => w'.cell? ⟨g, 0, none⟩ = some (.int .i64 (PP.i : Int)) ∧ w'.cell? ⟨g, 1, none⟩ = some (.int .i64 (PP.o : Int)) ∧ w'.cell? ⟨g, 2, none⟩ = some (.int .i64 (PP.v : Int))) (first | exact ⟨by assumption, by assumption, by assumption⟩ | go_keep) (first
            | (go_at_call 14; refine (LV.out _ (by first | exact HY.out | exact HY.out.draws _)).mono ?_; rintro e w5 ⟨rfl, hR5⟩; have H5 : Hid (Bp W b g PP (PP.i : Int) (PP.o : Int) (PP.v : Int) w5) := hR5; have i0' := hR5.g'.c0; have i1' := hR5.g'.c1; have i2' := hR5.g'.c2; clear hR5)
            | (go_at_call 15; refine (RL.out _ H5.out).mono ?_; rintro e w6 ⟨rfl, hR6⟩; have H6 : Hid (Bp W b g PP (PP.i : Int) (PP.o : Int) (PP.v : Int) w6) := hR6; have i0' := hR6.g'.c0; have i1' := hR6.g'.c1; have i2' := hR6.g'.c2; clear hR6)
            | (go_at_call 16; refine (WaysP H6.out).mono ?_; rintro e w7 ⟨rfl, hR7⟩; have H7 : Hid (Bp W b g PP (PP.i : Int) (PP.o : Int) (PP.v : Int) w7) := hR7; have i0' := hR7.g'.c0; have i1' := hR7.g'.c1; have i2' := hR7.g'.c2; clear hR7)
            | (go_at_call 17; refine (WordsP H7.out).mono ?_; rintro e w8 ⟨rfl, hR8⟩; simp only [pwords]; have H8 : Hid (Bp W b g PP (PP.i : Int) (PP.o : Int) (PP.v : Int) w8) := hR8; have i0' := hR8.g'.c0; have i1' := hR8.g'.c1; have i2' := hR8.g'.c2; clear hR8))
          all_goals go_wp2
          all_goals go_roundw
          case rel => exact ⟨k + 1, PP, by omega, by go_num, H8.out⟩
          case measure => simp [intOf]; omega
    · have hkn' : k = n := by omega
      subst hkn'
      go_wp2_with (go_at_call 18; refine (awake7 _).mono ?_; rintro e w5 ⟨rfl, hB5⟩)
      go_returns
      exact ⟨rfl, HR.out.old.trans (hB5.mono HR.out.old.size)⟩

set_option maxHeartbeats 1000000 in
theorem big (n cap : Nat) (ao : Option Addr) (i0 : Int) (W : World) (hl : 100 < n) (hc : n ≤ cap) (hm : cap ≤ 9223372036854775807) :
    Calls Try.prog 3 #[.int .u8 i0, .slice ao n cap] W fun e w' => e = .returned (.bool true) ∧ Below W.heap.size W w' := by
  have hl' : (100 : Int) < (n : Int) := by omega
  clear hl
  go_enter Try.func3, Try.ntmps3
  go_wp2
  go_returns
  exact ⟨rfl, Below.refl _ _⟩

theorem walk {L : List (List Go.Value)} {ao : Option Addr} {n cap b off : Nat} {W : World} (a0 : Int) (w0 : (Lit.int .u8 a0).wf = true) (hS : SeenX W ao cap b off 5 L) (hn : n = L.length) (hL : ∀ r ∈ L, ∃ a : Act, r = a.row ∧ a.ok) :
    Calls Try.prog 3 #[.int .u8 a0, .slice ao n cap] W fun e w' => e = .returned (.bool true) ∧ Below W.heap.size W w' := by
  obtain ⟨A, rfl, hA⟩ := map_of hL
  rw [List.length_map] at hn
  subst hn
  have hw := bounds_u8 w0
  obtain ⟨c, rfl⟩ := Int.eq_ofNat_of_zero_le hw.1
  by_cases h : A.length ≤ 100
  · exact good A ao cap b off c W hA h (by omega) hS
  · have := hS.le
    rw [List.length_map] at this
    exact big _ _ _ _ _ (by omega) this hS.max

end Go.Proofs.Ytgclgegdojnpcaa.portPlays
