/- The chapter's example, run. -/
import Derived.Test.YtelmohajdmcnmaaDoorMiE
import Derived.Test.YtelmohajdmcnmaaDoorMiC
namespace Go.Proofs.YtelmohajdmcnmaaDoor.Mi
open Go.RowKit Alu Ex
set_option linter.unusedVariables false

def pl0 : List Go.Value := [.int .u16 4096, .bool false, .int .u8 0]
def pl1 : List Go.Value := [.int .u16 4097, .bool false, .int .u8 0]
def pl2 : List Go.Value := [.int .u16 16, .bool false, .int .u8 0]
def pl3 : List Go.Value := [.int .u16 16, .bool true, .int .u8 7]
def pl4 : List Go.Value := [.int .u16 16, .bool true, .int .u8 8]
theorem at0 (w : World) : Calls Tryd.prog 20 #[.agg #[.int .u8 0, .int .u8 0, .int .u8 0, .int .u8 0, .int .u8 0, .int .u16 4096], .bool false] w fun e w' => ∃ b, e = .returned (.pointer (some ⟨b, 0, none⟩)) ∧ w.heap.size ≤ b ∧ Row w' b a0.cells ∧ Below w.heap.size w w' := At ⟨0, 0, 0, 0, 0, 4096⟩ false w ⟨by decide, by decide, by decide, by decide, by decide, by decide⟩
theorem ck0 (b : Nat) (w : World) (h : Row w b a0.cells) (ht : Co.Tab w) (hb : 3 < b) : Calls Tryd.prog 21 #[.pointer (some ⟨b, 0, none⟩), .int .u8 230] w fun e w' => e = .returned (.tuple #[]) ∧ Row w' b a1.cells ∧ Turn b w w' := by
  have := Clock b 230 a0 w h ok0 (by decide) ht hb
  rwa [s1] at this
theorem ck1 (b : Nat) (w : World) (h : Row w b a1.cells) (ht : Co.Tab w) (hb : 3 < b) : Calls Tryd.prog 21 #[.pointer (some ⟨b, 0, none⟩), .int .u8 16] w fun e w' => e = .returned (.tuple #[]) ∧ Row w' b a2.cells ∧ Turn b w w' := by
  have := Clock b 16 a1 w h ok1 (by decide) ht hb
  rwa [s2] at this
theorem ck2 (b : Nat) (w : World) (h : Row w b a2.cells) (ht : Co.Tab w) (hb : 3 < b) : Calls Tryd.prog 21 #[.pointer (some ⟨b, 0, none⟩), .int .u8 7] w fun e w' => e = .returned (.tuple #[]) ∧ Row w' b a3.cells ∧ Turn b w w' := by
  have := Clock b 7 a2 w h ok2 (by decide) ht hb
  rwa [s3] at this
theorem ck3 (b : Nat) (w : World) (h : Row w b a3.cells) (ht : Co.Tab w) (hb : 3 < b) : Calls Tryd.prog 21 #[.pointer (some ⟨b, 0, none⟩), .int .u8 0] w fun e w' => e = .returned (.tuple #[]) ∧ Row w' b a4.cells ∧ Turn b w w' := by
  have := Clock b 0 a3 w h ok3 (by decide) ht hb
  rwa [s4] at this
theorem ck4 (b : Nat) (w : World) (h : Row w b a4.cells) (ht : Co.Tab w) (hb : 3 < b) : Calls Tryd.prog 21 #[.pointer (some ⟨b, 0, none⟩), .int .u8 0] w fun e w' => e = .returned (.tuple #[]) ∧ Row w' b a5.cells ∧ Turn b w w' := by
  have := Clock b 0 a4 w h ok4 (by decide) ht hb
  rwa [s5] at this
theorem tabTurn {b : Nat} {w w' : World} (h : Co.Tab w) (t : Turn b w w') (hb : 3 < b) (hs : b ≤ w.heap.size) : Co.Tab w' := h.below (n := b) ⟨t.os, t.tape, t.output, t.size, fun k hk => t.block k (by omega) (by omega)⟩ hb
theorem tabTurn4 {b : Nat} {w w' : World} (h : Co.Tab w) (t : Turn b w w') (hb : 3 < b) : Co.Tab w' := by
  have hl := h.lt
  exact h.below (n := 4) ⟨t.os, t.tape, t.output, t.size, fun k hk => t.block k (by omega) (by omega)⟩ (by decide)

set_option maxRecDepth 100000 in
set_option maxHeartbeats 4000000 in
theorem awake12 (w : World) (ht : Co.Tab w) : Calls Tryd.prog 17 #[] w fun e w' => e = .returned (.bool true) ∧ Below w.heap.size w w' := by
  have HT : Hid (Co.Tab w) := ht
  have hlt := ht.lt
  clear ht
  go_enter Tryd.func17, Tryd.ntmps17
  go_wp2_with (go_at_call 20; fail)
  refine (at0 _).mono ?_
  rintro e w0 ⟨b, rfl, hb, hR, hB⟩
  have HR0 : Hid (Row w0 b a0.cells) := hR
  have HB0 : Hid (Below w.heap.size w w0) := hB
  have HT0 : Hid (Co.Tab w0) := HT.out.next hB
  have hb3 : 3 < b := by omega
  clear hR hB
  go_wp2_with (go_at_call 18; fail)
  refine (pn0 b _ HR0.out).mono ?_
  rintro e p0 ⟨rfl, hP⟩
  have hz0 : w.heap.size ≤ p0.heap.size := Nat.le_trans HB0.out.size hP.size
  have hbl : b < p0.heap.size := Nat.lt_of_lt_of_le (HR0.out.lt (Cp.pos _)) hP.size
  have HX : Hid (∀ X : Obj, Row (p0.alloc X) b a0.cells) := fun X => (HR0.out.below (Cp.pos _) hP).alloc (Cp.pos _) X
  have HXT : Hid (∀ X : Obj, Co.Tab (p0.alloc X)) := fun X => (HT0.out.next hP).next ((Below.refl _ _).alloc (Nat.le_refl _) X)
  have HXB : Hid (∀ X : Obj, Below w.heap.size w (p0.alloc X)) := fun X => (HB0.out.trans (hP.mono HB0.out.size)).alloc hz0 X
  clear hP
  go_wp2_with (go_at_call 21; fail)
  refine (ck0 b _ (HX.out _) (HXT.out _) hb3).mono ?_
  rintro e w1 ⟨rfl, hR, hT⟩
  have HR1 : Hid (Row w1 b a1.cells) := hR
  have HT1 : Hid (Co.Tab w1) := tabTurn4 (HXT.out _) hT hb3
  have HB1 : Hid (Below w.heap.size w w1) := (HXB.out _).trans (hT.below hb (HXB.out _).size)
  have hne0 : ¬ p0.heap.size = b := by omega
  have HG0 : Hid (Row w1 p0.heap.size pl0) := (Row.new p0 _ _).turn (by decide) hT hne0
  generalize p0.heap.size = g0 at HG0 hne0 hz0 hbl ⊢
  clear hR hT HX HXT HXB HR0 HT0 HB0 hbl
  go_wp2_with (go_at_call 18; fail)
  refine (pn1 b _ HR1.out).mono ?_
  rintro e p1 ⟨rfl, hP⟩
  have hz1 : w.heap.size ≤ p1.heap.size := Nat.le_trans HB1.out.size hP.size
  have hbl : b < p1.heap.size := Nat.lt_of_lt_of_le (HR1.out.lt (Cp.pos _)) hP.size
  have HX : Hid (∀ X : Obj, Row (p1.alloc X) b a1.cells) := fun X => (HR1.out.below (Cp.pos _) hP).alloc (Cp.pos _) X
  have HXT : Hid (∀ X : Obj, Co.Tab (p1.alloc X)) := fun X => (HT1.out.next hP).next ((Below.refl _ _).alloc (Nat.le_refl _) X)
  have HXB : Hid (∀ X : Obj, Below w.heap.size w (p1.alloc X)) := fun X => (HB1.out.trans (hP.mono HB1.out.size)).alloc hz1 X
  have HQ0 : Hid (∀ X : Obj, Row (p1.alloc X) g0 pl0) := fun X => (HG0.out.below (by decide) hP).alloc (by decide) X
  clear hP
  go_wp2_with (go_at_call 21; fail)
  refine (ck1 b _ (HX.out _) (HXT.out _) hb3).mono ?_
  rintro e w2 ⟨rfl, hR, hT⟩
  have HR2 : Hid (Row w2 b a2.cells) := hR
  have HT2 : Hid (Co.Tab w2) := tabTurn4 (HXT.out _) hT hb3
  have HB2 : Hid (Below w.heap.size w w2) := (HXB.out _).trans (hT.below hb (HXB.out _).size)
  have hne1 : ¬ p1.heap.size = b := by omega
  have HG1 : Hid (Row w2 p1.heap.size pl1) := (Row.new p1 _ _).turn (by decide) hT hne1
  have HG0 : Hid (Row w2 g0 pl0) := (HQ0.out _).turn (by decide) hT hne0
  clear HQ0
  generalize p1.heap.size = g1 at HG1 hne1 hz1 hbl ⊢
  clear hR hT HX HXT HXB HR1 HT1 HB1 hbl
  go_wp2_with (go_at_call 18; fail)
  refine (pn2 b _ HR2.out).mono ?_
  rintro e p2 ⟨rfl, hP⟩
  have hz2 : w.heap.size ≤ p2.heap.size := Nat.le_trans HB2.out.size hP.size
  have hbl : b < p2.heap.size := Nat.lt_of_lt_of_le (HR2.out.lt (Cp.pos _)) hP.size
  have HX : Hid (∀ X : Obj, Row (p2.alloc X) b a2.cells) := fun X => (HR2.out.below (Cp.pos _) hP).alloc (Cp.pos _) X
  have HXT : Hid (∀ X : Obj, Co.Tab (p2.alloc X)) := fun X => (HT2.out.next hP).next ((Below.refl _ _).alloc (Nat.le_refl _) X)
  have HXB : Hid (∀ X : Obj, Below w.heap.size w (p2.alloc X)) := fun X => (HB2.out.trans (hP.mono HB2.out.size)).alloc hz2 X
  have HQ0 : Hid (∀ X : Obj, Row (p2.alloc X) g0 pl0) := fun X => (HG0.out.below (by decide) hP).alloc (by decide) X
  have HQ1 : Hid (∀ X : Obj, Row (p2.alloc X) g1 pl1) := fun X => (HG1.out.below (by decide) hP).alloc (by decide) X
  clear hP
  go_wp2_with (go_at_call 21; fail)
  refine (ck2 b _ (HX.out _) (HXT.out _) hb3).mono ?_
  rintro e w3 ⟨rfl, hR, hT⟩
  have HR3 : Hid (Row w3 b a3.cells) := hR
  have HT3 : Hid (Co.Tab w3) := tabTurn4 (HXT.out _) hT hb3
  have HB3 : Hid (Below w.heap.size w w3) := (HXB.out _).trans (hT.below hb (HXB.out _).size)
  have hne2 : ¬ p2.heap.size = b := by omega
  have HG2 : Hid (Row w3 p2.heap.size pl2) := (Row.new p2 _ _).turn (by decide) hT hne2
  have HG0 : Hid (Row w3 g0 pl0) := (HQ0.out _).turn (by decide) hT hne0
  clear HQ0
  have HG1 : Hid (Row w3 g1 pl1) := (HQ1.out _).turn (by decide) hT hne1
  clear HQ1
  generalize p2.heap.size = g2 at HG2 hne2 hz2 hbl ⊢
  clear hR hT HX HXT HXB HR2 HT2 HB2 hbl
  go_wp2_with (go_at_call 18; fail)
  refine (pn3 b _ HR3.out).mono ?_
  rintro e p3 ⟨rfl, hP⟩
  have hz3 : w.heap.size ≤ p3.heap.size := Nat.le_trans HB3.out.size hP.size
  have hbl : b < p3.heap.size := Nat.lt_of_lt_of_le (HR3.out.lt (Cp.pos _)) hP.size
  have HX : Hid (∀ X : Obj, Row (p3.alloc X) b a3.cells) := fun X => (HR3.out.below (Cp.pos _) hP).alloc (Cp.pos _) X
  have HXT : Hid (∀ X : Obj, Co.Tab (p3.alloc X)) := fun X => (HT3.out.next hP).next ((Below.refl _ _).alloc (Nat.le_refl _) X)
  have HXB : Hid (∀ X : Obj, Below w.heap.size w (p3.alloc X)) := fun X => (HB3.out.trans (hP.mono HB3.out.size)).alloc hz3 X
  have HQ0 : Hid (∀ X : Obj, Row (p3.alloc X) g0 pl0) := fun X => (HG0.out.below (by decide) hP).alloc (by decide) X
  have HQ1 : Hid (∀ X : Obj, Row (p3.alloc X) g1 pl1) := fun X => (HG1.out.below (by decide) hP).alloc (by decide) X
  have HQ2 : Hid (∀ X : Obj, Row (p3.alloc X) g2 pl2) := fun X => (HG2.out.below (by decide) hP).alloc (by decide) X
  clear hP
  go_wp2_with (go_at_call 21; fail)
  refine (ck3 b _ (HX.out _) (HXT.out _) hb3).mono ?_
  rintro e w4 ⟨rfl, hR, hT⟩
  have HR4 : Hid (Row w4 b a4.cells) := hR
  have HT4 : Hid (Co.Tab w4) := tabTurn4 (HXT.out _) hT hb3
  have HB4 : Hid (Below w.heap.size w w4) := (HXB.out _).trans (hT.below hb (HXB.out _).size)
  have hne3 : ¬ p3.heap.size = b := by omega
  have HG3 : Hid (Row w4 p3.heap.size pl3) := (Row.new p3 _ _).turn (by decide) hT hne3
  have HG0 : Hid (Row w4 g0 pl0) := (HQ0.out _).turn (by decide) hT hne0
  clear HQ0
  have HG1 : Hid (Row w4 g1 pl1) := (HQ1.out _).turn (by decide) hT hne1
  clear HQ1
  have HG2 : Hid (Row w4 g2 pl2) := (HQ2.out _).turn (by decide) hT hne2
  clear HQ2
  generalize p3.heap.size = g3 at HG3 hne3 hz3 hbl ⊢
  clear hR hT HX HXT HXB HR3 HT3 HB3 hbl
  go_wp2_with (go_at_call 18; fail)
  refine (pn4 b _ HR4.out).mono ?_
  rintro e p4 ⟨rfl, hP⟩
  have hz4 : w.heap.size ≤ p4.heap.size := Nat.le_trans HB4.out.size hP.size
  have hbl : b < p4.heap.size := Nat.lt_of_lt_of_le (HR4.out.lt (Cp.pos _)) hP.size
  have HX : Hid (∀ X : Obj, Row (p4.alloc X) b a4.cells) := fun X => (HR4.out.below (Cp.pos _) hP).alloc (Cp.pos _) X
  have HXT : Hid (∀ X : Obj, Co.Tab (p4.alloc X)) := fun X => (HT4.out.next hP).next ((Below.refl _ _).alloc (Nat.le_refl _) X)
  have HXB : Hid (∀ X : Obj, Below w.heap.size w (p4.alloc X)) := fun X => (HB4.out.trans (hP.mono HB4.out.size)).alloc hz4 X
  have HQ0 : Hid (∀ X : Obj, Row (p4.alloc X) g0 pl0) := fun X => (HG0.out.below (by decide) hP).alloc (by decide) X
  have HQ1 : Hid (∀ X : Obj, Row (p4.alloc X) g1 pl1) := fun X => (HG1.out.below (by decide) hP).alloc (by decide) X
  have HQ2 : Hid (∀ X : Obj, Row (p4.alloc X) g2 pl2) := fun X => (HG2.out.below (by decide) hP).alloc (by decide) X
  have HQ3 : Hid (∀ X : Obj, Row (p4.alloc X) g3 pl3) := fun X => (HG3.out.below (by decide) hP).alloc (by decide) X
  clear hP
  go_wp2_with (go_at_call 21; fail)
  refine (ck4 b _ (HX.out _) (HXT.out _) hb3).mono ?_
  rintro e w5 ⟨rfl, hR, hT⟩
  have HR5 : Hid (Row w5 b a5.cells) := hR
  have HT5 : Hid (Co.Tab w5) := tabTurn4 (HXT.out _) hT hb3
  have HB5 : Hid (Below w.heap.size w w5) := (HXB.out _).trans (hT.below hb (HXB.out _).size)
  have hne4 : ¬ p4.heap.size = b := by omega
  have HG4 : Hid (Row w5 p4.heap.size pl4) := (Row.new p4 _ _).turn (by decide) hT hne4
  have HG0 : Hid (Row w5 g0 pl0) := (HQ0.out _).turn (by decide) hT hne0
  clear HQ0
  have HG1 : Hid (Row w5 g1 pl1) := (HQ1.out _).turn (by decide) hT hne1
  clear HQ1
  have HG2 : Hid (Row w5 g2 pl2) := (HQ2.out _).turn (by decide) hT hne2
  clear HQ2
  have HG3 : Hid (Row w5 g3 pl3) := (HQ3.out _).turn (by decide) hT hne3
  clear HQ3
  generalize p4.heap.size = g4 at HG4 hne4 hz4 hbl ⊢
  clear hR hT HX HXT HXB HR4 HT4 HB4 hbl
  have x00 := HG0.out.at_ 0 _ rfl
  have x01 := HG0.out.at_ 1 _ rfl
  have x02 := HG0.out.at_ 2 _ rfl
  have x10 := HG1.out.at_ 0 _ rfl
  have x11 := HG1.out.at_ 1 _ rfl
  have x12 := HG1.out.at_ 2 _ rfl
  have x20 := HG2.out.at_ 0 _ rfl
  have x21 := HG2.out.at_ 1 _ rfl
  have x22 := HG2.out.at_ 2 _ rfl
  have x30 := HG3.out.at_ 0 _ rfl
  have x31 := HG3.out.at_ 1 _ rfl
  have x32 := HG3.out.at_ 2 _ rfl
  have x40 := HG4.out.at_ 0 _ rfl
  have x41 := HG4.out.at_ 1 _ rfl
  have x42 := HG4.out.at_ 2 _ rfl
  have HF : Hid (∀ w, Row w b a5.cells → Calls Tryd.prog 13 #[.pointer (some ⟨b, 0, none⟩)] w fun e w' => e = .returned (.bool true) ∧ w' = w) := fun w h => Fresh b a5 w h
  have HC : Hid (∀ w, Row w b a5.cells → Calls Tryd.prog 15 #[.pointer (some ⟨b, 0, none⟩)] w fun e w' => e = .returned (.int .u8 230) ∧ w' = w) := fun w h => CodeM b a5 w h
  go_wp2_with (first
    | (go_at_call 13; refine (HF.out _ HR5.out).mono ?_; rintro e w' ⟨rfl, rfl⟩)
    | (go_at_call 15; refine (HC.out _ HR5.out).mono ?_; rintro e w' ⟨rfl, rfl⟩))
  go_ret
  exact ⟨rfl, HB5.out⟩

end Go.Proofs.YtelmohajdmcnmaaDoor.Mi
